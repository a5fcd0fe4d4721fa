import PyProof.Rows.All
import Wide.All
import OpenK.AllK
import Wide.FinOn
import Lean
import PyProof.EqAt
import PyProof.EqKinds
import PyProof.TupleCall
import PyProof.P3Statements
import PyProof.Lay0
import PyProof.P3Eq
import PyProof.NeData
import KE.KEqDict
import PyProof.ListRange
import KE.KDictSum
import PyProof.AttrMissHeap
import PyProof.WalksS
import KE.KDictOf
import KE.KRevSl
import PyProof.ZipIter
import PyProof.WalksMore
import PyProof.Rows.FactsT2
import PyProof.Rows.SetFrom
import PyProof.Rows.SortStr
import KE.KDictList
import PyProof.FactsAll.set
import PyProof.CollectWalk
import KE.KSortTup
import KE.KRevIter
import PyProof.TupleOfGen
import PyProof.CollectIter
import PySem.Challenge.RW_calm_k42_duties_mean_steps
set_option Elab.async false
noncomputable section
set_option linter.all false
set_option maxRecDepth 100000
namespace L2
open PySem PySem.Spec PyProof.Rows
noncomputable abbrev Key:=Sum Int Str
noncomputable def Tq:Key→Value→Bool
  | .inl k,v=>Value.isInt k v
  | .inr x,v=>Value.isStrOf x v
noncomputable def aev (w:World):Key→Int
  | .inl k=>hashInt k
  | .inr x=>hashStr w x
theorem u5:∀ {k:Key} {v:Value},Tq k v=true→(∃ i t,k=Sum.inl i∧v=Value.int i t)∨(∃ x t,k=Sum.inr x∧v=Value.str x t)
  | .inl i,v,h=>by
    obtain ⟨t,e⟩:=Value.isInt_shape (k:=i) (v:=v) h
    exact .inl ⟨i,t,rfl,e⟩
  | .inr x,v,h=>by
    obtain ⟨t,e⟩:=Value.isStrOf_shape (x:=x) (v:=v) h
    exact .inr ⟨x,t,rfl,e⟩
theorem Y7 (i:Int) (t:Tok):Tq (.inl i) (.int i t)=true:=by simp [Tq,Value.isInt]
theorem Ke (x:Str) (t:Tok):Tq (.inr x) (.str x t)=true:=by simp [Tq,Value.isStrOf]
theorem a9w (a b:Int):decide ((Sum.inl a:Key)=Sum.inl b)=(a==b):=by
  by_cases e:a=b
  · subst e; simp
  · have h:¬ (Sum.inl a:Key)=Sum.inl b:=fun q=>e (Sum.inl.inj q)
    rw [decide_eq_false h]
    exact (beq_eq_false_iff_ne.mpr e).symm
theorem a9x (a b:Str):decide ((Sum.inr a:Key)=Sum.inr b)=decide (a=b):=by
  by_cases e:a=b
  · subst e; simp
  · have h:¬ (Sum.inr a:Key)=Sum.inr b:=fun q=>e (Sum.inr.inj q)
    rw [decide_eq_false h,decide_eq_false e]
theorem a86 (a:Int) (b:Str):decide ((Sum.inl a:Key)=Sum.inr b)=false:=decide_eq_false (fun q=>nomatch q)
theorem a8a (a:Str) (b:Int):decide ((Sum.inr a:Key)=Sum.inl b)=false:=decide_eq_false (fun q=>nomatch q)
noncomputable def nj (prog:Program) (w:World):PySem.KeyKind prog w Key where
  is:=Tq
  hash:=aev w
  inj:=fun v a b ha hb=>by
    rcases u5 ha with ⟨i,t,rfl,rfl⟩ | ⟨x,t,rfl,rfl⟩
    · rcases u5 hb with ⟨j,u,rfl,e⟩ | ⟨y,u,rfl,e⟩
      · injection e with e1 _; rw [e1]
      · exact nomatch e
    · rcases u5 hb with ⟨j,u,rfl,e⟩ | ⟨y,u,rfl,e⟩
      · exact nomatch e
      · injection e with e1 _; rw [e1]
  byValue:=fun k v h=>by
    rcases u5 h with ⟨i,t,rfl,rfl⟩ | ⟨x,t,rfl,rfl⟩ <;> rfl
  pyHash:=fun hv h=>by
    rcases u5 hv with ⟨i,t,rfl,rfl⟩ | ⟨x,t,rfl,rfl⟩
    · exact wpAny_pyHash_int h
    · exact wpAny_pyHash_str h
  eqBool:=fun hu hv h=>by
    rcases u5 hu with ⟨i,t,rfl,rfl⟩ | ⟨x,t,rfl,rfl⟩
    · rcases u5 hv with ⟨j,u,rfl,rfl⟩ | ⟨y,u,rfl,rfl⟩
      · rw [a9w] at h; exact wpAny_eqBool_int h
      · rw [a86] at h; exact SeqAt.EqAt.int_str i t y u _ _ _ _ h
    · rcases u5 hv with ⟨j,u,rfl,rfl⟩ | ⟨y,u,rfl,rfl⟩
      · rw [a8a] at h; exact SeqAt.EqAt.str_int x t j u _ _ _ _ h
      · rw [a9x] at h; exact wpAny_eqBool_str h
  «strs»:=fun k x t v h=>by
    rcases u5 h with ⟨i,u,rfl,e⟩ | ⟨y,u,rfl,e⟩
    · exact nomatch e
    · injection e with e1 _
      subst e1
      cases v <;> rfl
theorem Wd (prog:Program) (w:World) (k:Key) (v:Value):(nj prog w).is k v=Tq k v:=rfl
theorem Rr (prog:Program) (w:World) (i:Int) (t:Tok):(nj prog w).is (.inl i) (.int i t)=true:=Y7 i t
theorem T4 (prog:Program) (w:World) (x:Str) (t:Tok):(nj prog w).is (.inr x) (.str x t)=true:=Ke x t
end L2
namespace L2
open PySem PySem.Spec PyProof.Rows
inductive V where
  | non | bl (b:Bool) | int (i:Int) | str (x:Str) | byt (b:Array UInt8) | flt (b:UInt64) | ref (a:Addr) | ty (n:String)
  deriving DecidableEq
noncomputable def RelV:V→Value→Prop
  | .non,u=>u=Value.none
  | .bl b,u=>u=Value.bool b
  | .int i,u=>∃ t,u=Value.int i t
  | .str x,u=>∃ t,u=Value.str x t
  | .byt b,u=>∃ t,u=Value.bytes b t
  | .flt b,u=>∃ t,u=Value.float b t
  | .ref a,u=>u=Value.ref a
  | .ty n,u=>u=Value.type n
noncomputable abbrev Vals:List V→List Value→Prop:=Paired RelV
theorem Vals.length {xs:List V} {us:List Value} (r:Vals xs us):xs.length=us.length:=Paired.length r
theorem Vals.get:∀ {xs:List V} {us:List Value} {i:Nat} {x:V},Vals xs us→xs[i]? = some x→∃ u,us[i]? = some u∧RelV x u
  | _,_,_,_,.nil,e=>by simp at e
  | _,_,0,_,.cons r _,e=>by simp at e; subst e; exact ⟨_,rfl,r⟩
  | _,_,i+1,x,.cons _ t,e=>by
    obtain ⟨u,h1,h2⟩:=Vals.get (i:=i) (x:=x) t (by simpa using e)
    exact ⟨u,by simpa using h1,h2⟩
theorem Vals.set {x:V} {u:Value} (r:RelV x u):∀ {xs:List V} {us:List Value} (i:Nat),Vals xs us→Vals (xs.set i x) (us.set i u)
  | _,_,_,.nil=>.nil
  | _,_,0,.cons _ t=>.cons r t
  | _,_,i+1,.cons q t=>.cons q (Vals.set r i t)
theorem Vals.append {xs ys:List V} {us ws:List Value} (r:Vals xs us) (s:Vals ys ws):Vals (xs++ys) (us++ws):=by
  induction r with
  | nil=>exact s
  | cons r _ ih=>exact .cons r ih
theorem Vals.take:∀ {xs:List V} {us:List Value} (n:Nat),Vals xs us→Vals (xs.take n) (us.take n)
  | _,_,0,_=>.nil
  | _,_,_+1,.nil=>.nil
  | _,_,n+1,.cons r t=>.cons r (Vals.take n t)
theorem Vals.drop:∀ {xs:List V} {us:List Value} (n:Nat),Vals xs us→Vals (xs.drop n) (us.drop n)
  | _,_,0,r=>r
  | _,_,_+1,.nil=>.nil
  | _,_,n+1,.cons _ t=>Vals.drop n t
noncomputable def Og:Option V→Option Value→Prop
  | some v,some u=>RelV v u
  | none,none=>True
  | _,_=>False
noncomputable def KV {κ:Type}:List (κ × V)→List (κ × Value)→Prop:=Paired fun (p:κ × V) (q:κ × Value)=>p.1=q.1∧RelV p.2 q.2
noncomputable def kV:Key→V
  | .inl i=>.int i
  | .inr x=>.str x
inductive HO where
  /-- a list -/
  | lst (xs:List V)
  /-- a tuple (never changes) -/
  | tup (xs:List V)
  /-- a dict whose keys are ints and texts; one whose keys are tuples of ints and texts (the empty one is both) -/
  | dK (kvs:List (Key × V)) | dT (kvs:List (List Key × V))
  /-- a set of ints: its members,its size -/
  | set (S:Int→Bool) (n:Nat)
  /-- an instance of the class at C,its dict at dx,its attributes -/
  | ins (C dx:Addr) (fs:List (Str × V))
  /-- the dict of the instance at x -/
  | own (x:Addr)
  /-- the dict of an exception -/
  | xd (fs:List (Str × V))
  /-- a bound method,f of x -/
  | met (f x:Addr)
  /-- a range object lo,lo+1,.. below hi -/
  | rng (lo hi:Int)
  /-- a thing that is known to the object (the script; a dict while a loop walks it): read,never written while it is so -/
  | frz (o:Obj) (u:HO)
  /-- a code object's table -/
  | tbl (ps:Array Value)
  /-- any other thing,by what is true of its one object (a def of one's own: SetO a S n:=HO.ext fun h=>..) -/
  | ext (φ:Heap→Prop)
noncomputable abbrev Hp:=Addr→Option HO
noncomputable def upd (H:Hp) (a:Addr) (o:HO):Hp:=fun b=>if b=a then some o else H b
theorem jf {H:Hp} {a:Addr} {o:HO}:upd H a o a=some o:=by unfold upd; rw [if_pos rfl]
theorem m7 {H:Hp} {a b:Addr} {o:HO} (h:b≠a):upd H a o b=H b:=by unfold upd; rw [if_neg h]
theorem aay {H:Hp} {a b:Addr} {o u:HO} (h:H a=some o) (h':H b=some u) (d:o≠u):a≠b:=by
  intro e; subst e; rw [h] at h'; exact d (Option.some.inj h')
theorem Av {H:Hp} {a b:Addr} {o:HO} (h:H a=some o) (h':H b=none):a≠b:=by
  intro e; subst e; rw [h] at h'; cases h'
noncomputable def a1n (h:Heap) (a:Addr) (items:Array Value):Prop:=∃ o,h.get? a=some o∧o.cls=.type "tuple" ∧ o.dict=none∧∃ n,o.data=.seq items n
theorem a1n.is {h:Heap} {a:Addr} {items:Array Value} (x:a1n h a items):IsTup h a items:=let ⟨o,e,c,_,d⟩:=x; ⟨o,e,c,d⟩
theorem a1n.new (h:Heap) (items:Array Value):a1n (h.push { cls:=.type "tuple",data:=.seq items }) h.objs.size items:=⟨_,Heap.get?_push_size _ rfl,rfl,rfl,0,rfl⟩
noncomputable section
variable (P:Program) (w:World)
noncomputable def yr (H:Hp) (h:Heap) (a:Addr):HO→Prop
  | .lst xs=>xs.length≤sizeLine∧∃ (its:List Value) (n:Nat),Vals xs its∧h.get? a=some { cls:=.type "list",data:=.seq its.toArray n }
  | .tup xs=>xs.length≤sizeLine∧∃ its:List Value,Vals xs its∧a1n h a its.toArray
  | .dK kvs=>kvs.length≤sizeLine∧(a==sysModules)=false∧∃ vs,KV kvs vs∧h.DictOf (nj P w) a vs
  | .dT kvs=>kvs.length≤sizeLine∧(a==sysModules)=false∧∃ xs:List (List Key × Addr × Value),
      Paired (fun (p:List Key × V) (q:List Key × Addr × Value)=>p.1=q.1∧H q.2.1=some (.tup (p.1.map kV))∧RelV p.2 q.2.2) kvs xs ∧
      ∃ o es ep,h.get? a=some o∧o.ExactDict∧o.data=.dict es ep∧es.toList=xs.map (entryOfKey (tupleKind (nj P w)))∧(xs.map (·.1)).Nodup
  | .set S n=>h.SetOf (intKind P w) a S n
  | .ins C dx fs=>H dx=some (.own a)∧fs.length≤1000∧dx≠a∧h.get? a=some (PySem.W.instObj C dx) ∧
      ∃ mA,h.Ns1 dx mA∧(∀ f,Og (fs.lookup f) (mA f))∧PySem.Within mA (fs.map (·.1))
  | .own _=>∃ o,h.get? a=some o
  | .xd fs=>∃ mA,h.Ns1 a mA∧∀ f,Og (fs.lookup f) (mA f)
  | .rng lo hi=>∃ t u v,h.get? a=some { cls:=.type "range",data:=.fields #[.int lo t,.int hi u,.int 1 v] }
  | .frz o u=>h.get? a=some o∧yr H h a u
  | .tbl ps=>h.get? a=some { cls:=.none,data:=.fields ps }
  | .met f x=>h.get? a=some (PySem.W.methodObj (.ref f) (.ref x))
  | .ext φ=>φ h∧(∃ o,h.get? a=some o)∧∀ h1 h2:Heap,φ h1→(∀ o,h1.get? a=some o→h2.get? a=some o)→φ h2
noncomputable def HOk (H:Hp) (h:Heap):Prop:=∀ a o,H a=some o→yr P w H h a o
end
noncomputable section
variable {P:Program} {w:World} {H H':Hp} {h h':Heap} {a:Addr} {o:HO}
theorem yr.lt (x:yr P w H h a o):a<h.objs.size:=by
  cases o with
  | lst xs=>obtain ⟨_,_,_,_,e⟩:=x; exact Heap.lt_size e
  | tup xs=>obtain ⟨_,_,_,p⟩:=x; exact p.is.lt
  | dK kvs=>obtain ⟨_,_,_,_,o,_,_,e,_⟩:=x; exact Heap.lt_size e
  | dT kvs=>obtain ⟨_,_,_,_,o,_,_,e,_⟩:=x; exact Heap.lt_size e
  | set S n=>obtain ⟨o,_,_,_,e,_⟩:=x; exact Heap.lt_size e
  | ins C dx fs=>obtain ⟨_,_,_,e,_⟩:=x; exact Heap.lt_size e
  | own y=>obtain ⟨_,e⟩:=x; exact Heap.lt_size e
  | xd fs=>obtain ⟨_,⟨_,_,_,e,_⟩,_⟩:=x; exact Heap.lt_size e
  | rng lo hi=>obtain ⟨_,_,_,e⟩:=x; exact Heap.lt_size e
  | frz ob u=>obtain ⟨e,_⟩:=x; exact Heap.lt_size e
  | tbl ps=>exact Heap.lt_size (show h.get? a=some _ from x)
  | met f y=>exact Heap.lt_size (show h.get? a=some _ from x)
  | ext φ=>obtain ⟨_,⟨_,e⟩,_⟩:=x; exact Heap.lt_size e
theorem Paired.adh {α β:Type} {F G:α→β→Prop} {l₁:List α} {l₂:List β} (r:Paired F l₁ l₂) (f:∀ a b,F a b→G a b):Paired G l₁ l₂:=by
  induction r with
  | nil=>exact .nil
  | cons r _ ih=>exact .cons (f _ _ r) ih
theorem yr.stay (x:yr P w H h a o) (k:∀ b u,(b=a∨H b=some (.own a))→h.get? b=some u→h'.get? b=some u)
    (ho:∀ b,H b=some (.own a)→H' b=some (.own a)) (ht:∀ b xs,H b=some (.tup xs)→H' b=some (.tup xs)):yr P w H' h' a o:=by
  induction o with
  | lst xs=>obtain ⟨z,its,n,r,e⟩:=x; exact ⟨z,its,n,r,k _ _ (.inl rfl) e⟩
  | tup xs=>obtain ⟨z,its,r,ob,e,c⟩:=x; exact ⟨z,its,r,ob,k _ _ (.inl rfl) e,c⟩
  | dK kvs=>obtain ⟨z,y,vs,r,ob,es,ep,e,c⟩:=x; exact ⟨z,y,vs,r,ob,es,ep,k _ _ (.inl rfl) e,c⟩
  | dT kvs =>
    obtain ⟨z,y,xs,r,ob,es,ep,e,c⟩:=x
    exact ⟨z,y,xs,Paired.adh r fun p q z=>⟨z.1,ht _ _ z.2.1,z.2.2⟩,ob,es,ep,k _ _ (.inl rfl) e,c⟩
  | set S n=>obtain ⟨ob,es,ep,t,e,c⟩:=x; exact ⟨ob,es,ep,t,k _ _ (.inl rfl) e,c⟩
  | ins C dx fs =>
    obtain ⟨d,z,ne,e,mA,⟨od,es,ep,e2,c⟩,r⟩:=x
    exact ⟨ho _ d,z,ne,k _ _ (.inl rfl) e,mA,⟨od,es,ep,k _ _ (.inr d) e2,c⟩,r⟩
  | own y=>obtain ⟨ob,e⟩:=x; exact ⟨ob,k _ _ (.inl rfl) e⟩
  | xd fs=>obtain ⟨mA,⟨od,es,ep,e,c⟩,r⟩:=x; exact ⟨mA,⟨od,es,ep,k _ _ (.inl rfl) e,c⟩,r⟩
  | rng lo hi=>obtain ⟨t,u,v,e⟩:=x; exact ⟨t,u,v,k _ _ (.inl rfl) e⟩
  | frz ob u ih=>obtain ⟨e,q⟩:=x; exact ⟨k _ _ (.inl rfl) e,ih q⟩
  | tbl ps =>
    have e:h.get? a=some { cls:=.none,data:=.fields ps }:=x
    show h'.get? a=some { cls:=.none,data:=.fields ps }
    exact k a _ (.inl rfl) e
  | met f y =>
    have e:h.get? a=some (PySem.W.methodObj (.ref f) (.ref y)):=x
    show h'.get? a=some (PySem.W.methodObj (.ref f) (.ref y))
    exact k a _ (.inl rfl) e
  | ext φ=>obtain ⟨p,⟨o,e⟩,st⟩:=x; exact ⟨st _ _ p fun o q=>k _ _ (.inl rfl) q,⟨o,k _ _ (.inl rfl) e⟩,st⟩
theorem HOk.lt (x:HOk P w H h) (e:H a=some o):a<h.objs.size:=(x a o e).lt
theorem HOk.fresh (x:HOk P w H h) (e:h.objs.size≤a):H a=none:=by
  cases q:H a with
  | none=>rfl
  | some u=>exact absurd (Nat.lt_of_lt_of_le (x.lt q) e) (Nat.lt_irrefl _)
theorem HOk.kept (x:HOk P w H h) (k:∀ b u,h.get? b=some u→h'.get? b=some u):HOk P w H h':=fun a o e =>
  (x a o e).stay (fun b u _ q=>k b u q) (fun _ q=>q) fun _ _ q=>q
theorem HOk.laid (x:HOk P w H h) (k:∀ b u,h.get? b=some u→h'.get? b=some u) (hp:h.objs.size≤a) (new:yr P w (upd H a o) h' a o):HOk P w (upd H a o) h':=fun b u e=>by
  have hn:=x.fresh hp
  by_cases hb:b=a
  · subst hb; rw [jf] at e; cases e; exact new
  · rw [m7 hb] at e
    exact (x b u e).stay (fun c v _ q=>k c v q) (fun c q=>by rw [m7 (Av q hn)]; exact q) fun c xs q=>by rw [m7 (Av q hn)]; exact q
end
noncomputable def Rd (H:Hp) (a:Addr) (u:HO):Prop:=H a=some u∨∃ o,H a=some (.frz o u)
theorem Rd.ok {P:Program} {w:World} {H:Hp} {h:Heap} {a:Addr} {u:HO} (r:Rd H a u) (x:HOk P w H h):yr P w H h a u:=by
  rcases r with r | ⟨o,r⟩
  · exact x a u r
  · obtain ⟨_,q⟩:=x a _ r
    exact q
noncomputable def Mut:Option HO→Prop
  | some (.lst _)=>True
  | some (.dK _)=>True
  | some (.dT _)=>True
  | some (.set _ _)=>True
  | some (.ins _ _ _)=>True
  | some (.ext _)=>True
  | _=>False
noncomputable section
variable {P:Program} {w:World} {H:Hp} {h h':Heap} {x e:Addr} {o':HO}
theorem HOk.write (ok:HOk P w H h) (mu:Mut (H x)) (he:e=x∨H e=some (.own x)) (k:∀ b u,b≠e→h.get? b=some u→h'.get? b=some u) (heo:∃ u,h'.get? e=some u)
    (new:yr P w (upd H x o') h' x o'):HOk P w (upd H x o') h':=fun b u q=>by
  have nown:∀ c y,H c=some (.own y)→c≠x:=fun c y r z=>by subst z; rw [r] at mu; exact mu
  have ntup:∀ c xs,H c=some (.tup xs)→c≠x:=fun c xs r z=>by subst z; rw [r] at mu; exact mu
  by_cases hb:b=x
  · subst hb; rw [jf] at q; cases q; exact new
  · rw [m7 hb] at q
    by_cases hbe:b=e
    · have q':H b=some (.own x):=by
        rcases he with z | z
        · exact absurd (hbe.trans z) hb
        · rw [hbe]; exact z
      rw [q] at q'; cases q'
      obtain ⟨v,hv⟩:=heo
      exact ⟨v,by rw [hbe]; exact hv⟩
    · refine (ok b u q).stay (fun c v hc r=>k c v ?_ r) (fun c r=>by rw [m7 (nown c b r)]; exact r) fun c xs r=>by rw [m7 (ntup c xs r)]; exact r
      rcases hc with rfl | hc
      · exact hbe
      · rintro rfl
        rcases he with z | z
        · exact nown c b hc z
        · rw [hc] at z; cases z; exact hb rfl
end
structure Un (fs ex:List Addr) (H H':Hp) (h h':Heap):Prop where
  keep:∀ b o,h.get? b=some o→H b=none→b∉fs→b∉ex→h'.get? b=some o
  slot:∀ b o,h.get? b=some o→H b=none→b∈fs→b∉ex→∃ sl,h'.get? b=some { o with slots:=sl }
  free:∀ b o,h.get? b=some o→H b=none→b∉ex→H' b=none
  there:∀ b o,h.get? b=some o→b∉ex→∃ o',h'.get? b=some o'
  tups:∀ b xs,H b=some (.tup xs)→H' b=some (.tup xs)
  frzs:∀ b o u,H b=some (.frz o u)→H' b=some (.frz o u)
  tbls:∀ b ps,H b=some (.tbl ps)→∃ more,H' b=some (.tbl (ps++more))
noncomputable section
variable {fs fs' ex ex':List Addr} {H H1 H2:Hp} {h h1 h2 h':Heap} {a x e:Addr} {o:HO}
theorem Un.any (u:Un fs ex H H1 h h1) {b:Addr} {ob:Obj} (q:h.get? b=some ob) (n:H b=none) (hx:b∉ex):∃ sl,h1.get? b=some { ob with slots:=sl }:=by
  by_cases hb:b∈fs
  · exact u.slot b ob q n hb hx
  · exact ⟨ob.slots,u.keep b ob q n hb hx⟩
theorem Un.trans (a:Un fs ex H H1 h h1) (b:Un fs ex H1 H2 h1 h2):Un fs ex H H2 h h2 where
  keep:=fun c ob q n hc hx=>b.keep c ob (a.keep c ob q n hc hx) (a.free c ob q n hx) hc hx
  slot:=fun c ob q n hc hx=>by
    obtain ⟨sl,e1⟩:=a.slot c ob q n hc hx
    obtain ⟨sl',e2⟩:=b.slot c _ e1 (a.free c ob q n hx) hc hx
    exact ⟨sl',e2⟩
  free:=fun c ob q n hx=>by
    obtain ⟨o',e1⟩:=a.there c ob q hx
    exact b.free c o' e1 (a.free c ob q n hx) hx
  there:=fun c ob q hx=>by
    obtain ⟨o',e1⟩:=a.there c ob q hx
    exact b.there c o' e1 hx
  tups:=fun c xs q=>b.tups c xs (a.tups c xs q)
  frzs:=fun c ob xs q=>b.frzs c ob xs (a.frzs c ob xs q)
  tbls:=fun c ps q=>by
    obtain ⟨m1,e1⟩:=a.tbls c ps q
    obtain ⟨m2,e2⟩:=b.tbls c _ e1
    exact ⟨m1++m2,by rw [e2,Array.append_assoc]⟩
theorem Un.kept (k:∀ b u,h.get? b=some u→h'.get? b=some u):Un fs ex H H h h' :=
  ⟨fun b ob q _ _ _=>k b ob q,fun b ob q _ _ _=>⟨ob.slots,k b ob q⟩,fun _ _ _ n _=>n,fun b ob q _=>⟨ob,k b ob q⟩,fun _ _ q=>q,fun _ _ _ q=>q,fun _ ps q=>⟨#[],by rw [q]; simp⟩⟩
theorem Un.refl:Un fs ex H H h h:=Un.kept fun _ _ q=>q
theorem Un.laid (k:∀ b u,h.get? b=some u→h'.get? b=some u) (hp:h.objs.size≤a) (hn:H a=none):Un fs ex H (upd H a o) h h' where
  keep:=fun b u q _ _ _=>k b u q
  slot:=fun b u q _ _ _=>⟨u.slots,k b u q⟩
  free:=fun b u q n _=>by rw [m7 (Nat.ne_of_lt (Nat.lt_of_lt_of_le (Heap.lt_size q) hp))]; exact n
  there:=fun b u q _=>⟨u,k b u q⟩
  tups:=fun b xs q=>by rw [m7 (Av q hn)]; exact q
  frzs:=fun b u xs q=>by rw [m7 (Av q hn)]; exact q
  tbls:=fun b ps q=>⟨#[],by rw [m7 (Av q hn),q]; simp⟩
theorem Un.write (mu:Mut (H x)) (he:e=x∨H e=some (.own x)) (k:∀ b u,b≠e→h.get? b=some u→h'.get? b=some u) (heo:∃ u,h'.get? e=some u):Un fs ex H (upd H x o) h h':=by
  have hx:∀ b,H b=none→b≠x:=fun b n z=>by subst z; rw [n] at mu; exact mu
  have hb:∀ b,H b=none→b≠e:=fun b n z=>by
    subst z
    rcases he with r | r
    · exact hx b n r
    · rw [n] at r; cases r
  have hm:∀ b u,H b=some u→¬ Mut (some u)→b≠x:=fun b u q nm z=>by subst z; rw [q] at mu; exact nm mu
  refine ⟨fun b u q n _ _=>k b u (hb b n) q,fun b u q n _ _=>⟨u.slots,k b u (hb b n) q⟩,fun b u q n _=>by rw [m7 (hx b n)]; exact n,fun b u q _=>?_,
    fun b xs q=>by rw [m7 (hm b _ q fun z=>z)]; exact q,fun b u xs q=>by rw [m7 (hm b _ q fun z=>z)]; exact q,fun b ps q=>⟨#[],by rw [m7 (hm b _ q fun z=>z),q]; simp⟩⟩
  by_cases hbe:b=e
  · subst hbe; exact heo
  · exact ⟨u,k b u hbe q⟩
theorem Un.mono (u:Un fs ex H H1 h h1) (hs:∀ b∈fs,b∈fs') (hx:∀ b∈ex,b∈ex'):Un fs' ex' H H1 h h1 :=
  ⟨fun b ob q n hb he=>u.keep b ob q n (fun z=>hb (hs b z)) fun z=>he (hx b z),fun _ _ q n _ he=>u.any q n fun z=>he (hx _ z),fun b ob q n he=>u.free b ob q n fun z=>he (hx b z),fun b ob q he=>u.there b ob q fun z=>he (hx b z),u.tups,u.frzs,u.tbls⟩
end
noncomputable def trk (h:Heap) (H:Hp):List Addr:=(List.range h.objs.size).filter fun a=>(H a).isSome
noncomputable def a2r (h:Heap) (H:Hp):Heap:=PySem.W.hideAll h (trk h H)
theorem Xr (h:Heap) (H:Hp):(a2r h H).objs.size=h.objs.size:=PySem.W.hideAll_size _ _
theorem a2p {h:Heap} {H:Hp} {b:Addr} {o:Obj} (e:h.get? b=some o) (n:H b=none):(a2r h H).get? b=some o :=
  PySem.W.hideAll_get _ e fun hm=>by
    have q:(H b).isSome=true:=(List.mem_filter.mp hm).2
    rw [n] at q; simp at q
theorem a7b {h:Heap} {H:Hp} {b:Addr} {o:Obj} (e:(a2r h H).get? b=some o):h.get? b=some o∧H b=none:=by
  have e':h.get? b=some o:=PySem.W.of_hideAll (trk h H) e
  refine ⟨e',?_⟩
  cases q:H b with
  | none=>rfl
  | some x =>
    have hm:b∈trk h H:=List.mem_filter.mpr ⟨List.mem_range.mpr (Heap.lt_size e'),by simp [q]⟩
    have z:(a2r h H).get? b=none:=PySem.W.hideAll_none (trk h H) hm
    rw [z] at e; cases e
noncomputable def a6l (g h:Heap) (L:Addr):List (Addr × Obj):=(List.range h.objs.size).filterMap fun a=>if a=L∨(g.get? a).isSome=true then none else (h.get? a).map fun o=>(a,o)
noncomputable def rest (g h:Heap) (L d:Addr):List (Addr × Obj):=(a6l g h L).filter fun p=>decide (p.1≠d)
end L2
namespace L2
open PySem PySem.Spec PyProof.Rows
structure Mod (K:PySem.W.Frag) (mg:Str→Option Value) (base:Heap):Prop where
  kin:K.In base
  glob:base.Ns mainGlobals mg
  blt:∃ mb,base.Ns builtinsNs mb∧∀ x:Str,x ≠ "__name__" → mb x=bootBuiltins x
  nolimit:base.NoLimit
structure Cx where
  prog:Program
  w:World
  K:PySem.W.Frag
  mg:Str→Option Value
  base:Heap
  A:Around
  N:List Str
  s₀:Shared
  H₀:Hp
  env:Env
  outer:List Env
  stack:List Env
  ex:List Addr
  fn:Str→Bool
  calm:Bool
  pn:List (Addr × Obj)
  xe:Value→Shared→Prop
noncomputable def frs (l:List Env):List Addr:=l.filterMap (·.frame)
noncomputable abbrev Cx.fs (X:Cx):List Addr:=frs X.outer
noncomputable def Vis (sc:Scope) (x:Str):Prop:=sc.names.lookup x=some .local∨sc.names.lookup x=some .cell∨sc.names.lookup x=some .free
noncomputable def Loc (sc:Scope) (x:Str):Prop:=sc.names.lookup x=some .local∨sc.names.lookup x=some .cell
noncomputable def Look (env:Env) (h:Heap) (m:Str→Option Value) (x:Str) (u:Value):Prop :=
  (env.kindOf x=some .local∧m x=some u)∨((env.kindOf x=some .cell∨env.kindOf x=some .free)∧∃ c,env.cells.lookup x=some c∧h.IsCell c (some u))
structure Cx.Ok (X:Cx):Prop where
  mod:Mod X.K X.mg X.base
  kind:X.env.scope.kind=.function
  glob:X.env.globals=mainGlobals
  blt:X.env.builtins=builtinsNs
  above:X.s₀.heap.objs.size≤X.env.locals
  inj:∀ x y c,X.env.cells.lookup x=some c→X.env.cells.lookup y=some c→x=y
  has:∀ x,(X.env.kindOf x=some .cell∨X.env.kindOf x=some .free)→∃ c,X.env.cells.lookup x=some c
  cab:∀ x c,X.fn x=true→X.env.cells.lookup x=some c→X.s₀.heap.objs.size≤c
  hd:X.calm=true→X.A.handled=none
  frames:X.A.frames=some X.stack
  stk:X.stack=X.outer∨(X.stack=X.env::X.outer∧X.env.frame=some X.env.locals)
  exf:∀ b∈X.ex,b≠X.env.locals∧∀ x c,X.env.cells.lookup x=some c→c≠b
  bs:∀ b o,X.base.get? b=some o→X.s₀.heap.get? b=some o∧X.H₀ b=none
  bsz:X.base.objs.size≤X.s₀.heap.objs.size
  noex:∀ b o,X.base.get? b=some o→b∉X.ex
  exfs:∀ b∈X.ex,b∉X.fs
  Xn:X.s₀.heap.FunFrames X.base X.outer
  frf:∀ b∈X.fs,X.H₀ b=none
structure Inv (X:Cx) (pins:List (Addr × Obj)) (σ:List (Option V)) (H:Hp) (s:Shared):Prop where
  ok:X.Ok
  os:s.os=X.s₀.os
  bare:AllBare s.gens
  base:Un X.fs X.ex X.H₀ H X.s₀.heap s.heap
  loc:∃ m,s.heap.Ns X.env.locals m∧∀ (i:Nat) (x:Str) (v:V),X.N[i]? = some x→σ[i]? = some (some v)→Vis X.env.scope x→∃ u,RelV v u∧Look X.env s.heap m x u
  cell:∀ x c,X.env.cells.lookup x=some c→∃ v,s.heap.IsCell c v
  free:H X.env.locals=none
  freeC:∀ x c,X.env.cells.lookup x=some c→H c=none
  pin:∀ p∈X.pn++pins,s.heap.get? p.1=some p.2∧H p.1=none∧p.1≠X.env.locals∧p.1∉X.fs∧∀ v,p.2.data≠.cell v
  hok:HOk X.prog X.w H s.heap
  len:σ.length=X.N.length
noncomputable section
variable {X:Cx} {pins:List (Addr × Obj)} {σ:List (Option V)} {H H':Hp} {s:Shared} {h':Heap}
theorem Cx.Ok.ael (ok:X.Ok) {b:Addr} {o:Obj} (e:X.base.get? b=some o):b∉X.fs:=fun hb=>by
  have:=(ok.Xn.mem hb).1
  rw [e] at this; cases this
theorem Inv.bs (I:Inv X pins σ H s):∀ b o,X.base.get? b=some o→s.heap.get? b=some o∧H b=none:=fun b o e =>
  ⟨I.base.keep b o (I.ok.bs b o e).1 (I.ok.bs b o e).2 (I.ok.ael e) (I.ok.noex b o e),I.base.free b o (I.ok.bs b o e).1 (I.ok.bs b o e).2 (I.ok.noex b o e)⟩
theorem Inv.bk (I:Inv X pins σ H s):∀ b o,X.base.get? b=some o→s.heap.get? b=some o:=fun b o e=>(I.bs b o e).1
theorem Inv.mod (I:Inv X pins σ H s):Mod X.K X.mg X.base:=I.ok.mod
theorem Inv.kIn (I:Inv X pins σ H s):X.K.In s.heap:=I.ok.mod.kin.keeps I.bk
theorem Inv.fr (I:Inv X pins σ H s):∃ m,Fr X.base X.env.locals s.heap m :=
  let ⟨m,hn,_⟩:=I.loc
  ⟨m,hn,I.bk,Nat.le_trans I.ok.bsz I.ok.above⟩
theorem Inv.lt (I:Inv X pins σ H s):X.env.locals<s.heap.objs.size:=let ⟨_,hn,_⟩:=I.loc; hn.lt
theorem Inv.sz (I:Inv X pins σ H s):X.s₀.heap.objs.size≤s.heap.objs.size:=Nat.le_trans I.ok.above (Nat.le_of_lt I.lt)
theorem Inv.aer (I:Inv X pins σ H s) {a:Addr} (h:s.heap.objs.size≤a):a∉X.fs:=fun hb=>by
  obtain ⟨_,o,ho,_⟩:=I.ok.Xn.mem hb
  exact absurd (Nat.lt_of_lt_of_le (Heap.lt_size ho) (Nat.le_trans I.sz h)) (Nat.lt_irrefl _)
theorem Inv.cne (I:Inv X pins σ H s):∀ x c,X.env.cells.lookup x=some c→c≠X.env.locals:=fun x c e z=>by
  obtain ⟨v,o,ho,hd⟩:=I.cell x c e
  obtain ⟨m,⟨o',es,ep,ho',hd',_⟩,_⟩:=I.loc
  rw [z,ho'] at ho; cases ho; rw [hd'] at hd; cases hd
theorem Inv.Xn (I:Inv X pins σ H s):s.heap.FunFrames X.base X.outer:=by
  have all:∀ (l:List Env),(∀ b∈frs l,b∈X.fs)→X.s₀.heap.FunFrames X.base l→s.heap.FunFrames X.base l:=by
    intro l
    induction l with
    | nil=>intro _ _; trivial
    | cons env r ih =>
      intro hs hl
      obtain ⟨hk,⟨L,o,hf,hn,ho,hd⟩,hr⟩:=hl
      have hL:L∈X.fs:=hs L (by unfold frs; rw [List.filterMap_cons,hf]; exact List.mem_cons_self)
      obtain ⟨sl,e⟩:=I.base.slot L o ho (I.ok.frf L hL) hL fun z=>I.ok.exfs L z hL
      exact ⟨hk,⟨L,_,hf,hn,e,hd⟩,ih (fun b hb=>hs b (by unfold frs; rw [List.filterMap_cons,hf]; exact List.mem_cons_of_mem _ hb)) hr⟩
  exact all X.outer (fun _ hb=>hb) I.ok.Xn
theorem Inv.stack (I:Inv X pins σ H s):s.heap.FunFrames X.base X.stack:=by
  rcases I.ok.stk with e | ⟨e,hf⟩
  · rw [e]; exact I.Xn
  · rw [e]
    obtain ⟨m,hn,_⟩:=I.loc
    refine .cons (by rw [I.ok.kind]; decide) hf hn ?_ I.Xn
    exact Heap.get?_none_of_le (Nat.le_trans I.ok.bsz I.ok.above)
theorem Inv.W3 (I:Inv X pins σ H s):∀ b∈frs X.stack,b∈X.env.locals::X.fs:=fun b hb=>by
  rcases I.ok.stk with e | ⟨e,hf⟩
  · rw [e] at hb; exact List.mem_cons_of_mem _ hb
  · rw [e] at hb
    unfold frs at hb
    rw [List.filterMap_cons,hf] at hb
    exact hb
theorem Inv.Xv (I:Inv X pins σ H s):∀ b∈frs X.stack,H b=none:=fun b hb=>by
  rcases List.mem_cons.mp (I.W3 b hb) with e | hb
  · rw [e]; exact I.free
  · obtain ⟨_,o,ho,_⟩:=I.ok.Xn.mem hb
    exact I.base.free b o ho (I.ok.frf b hb) fun z=>I.ok.exfs b z hb
theorem Inv.step {g':Array GenState} {t':Nat} {d':Drawn} {ch:List Addr} (I:Inv X pins σ H s)
    (hch:∀ b∈ch,(b∈X.ex∨X.s₀.heap.objs.size≤b)∧b≠X.env.locals∧(∀ x c,X.env.cells.lookup x=some c→c≠b)∧∀ p∈X.pn++pins,p.1≠b)
    (keep:∀ b o,b≠X.env.locals→b∉X.fs→b∉ch→s.heap.get? b=some o→H b=none→h'.get? b=some o)
    (slot:∀ b o,b≠X.env.locals→b∈X.fs→b∉ch→s.heap.get? b=some o→H b=none→∃ sl,h'.get? b=some { o with slots:=sl }) (free:∀ b o,b∉ch→s.heap.get? b=some o→H b=none→H' b=none)
    (there:∀ b o,b∉ch→s.heap.get? b=some o→∃ o',h'.get? b=some o')
    (tups:∀ b xs,H b=some (.tup xs)→H' b=some (.tup xs)) (frzs:∀ b o u,H b=some (.frz o u)→H' b=some (.frz o u)) (tbls:∀ b ps,H b=some (.tbl ps)→∃ more,H' b=some (.tbl (ps++more)))
    (ns:∀ m,s.heap.Ns X.env.locals m→h'.Ns X.env.locals m) (hok:HOk X.prog X.w H' h') (hg:AllBare g') :
    Inv X pins σ H' { s with heap:=h',gens:=g',drawn:=d',toks:=t' }:=by
  have neL:∀ b o,X.s₀.heap.get? b=some o→b≠X.env.locals:=fun b o e=>Nat.ne_of_lt (Nat.lt_of_lt_of_le (Heap.lt_size e) I.ok.above)
  have neC:∀ b o,X.s₀.heap.get? b=some o→b∉X.ex→b∉ch:=fun b o e hx hb=>by
    rcases (hch b hb).1 with z | z
    · exact hx z
    · exact absurd (Nat.lt_of_lt_of_le (Heap.lt_size e) z) (Nat.lt_irrefl _)
  have cellK:∀ x c,X.env.cells.lookup x=some c→∀ v,s.heap.IsCell c v→h'.IsCell c v:=fun x c e v z9=>by
    obtain ⟨o,ho,hd⟩:=z9
    have nch:c∉ch:=fun z=>(hch c z).2.2.1 x c e rfl
    by_cases hc:c∈X.fs
    · obtain ⟨sl,q⟩:=slot c o (I.cne x c e) hc nch ho (I.freeC x c e)
      exact ⟨_,q,hd⟩
    · exact ⟨o,keep c o (I.cne x c e) hc nch ho (I.freeC x c e),hd⟩
  refine ⟨I.ok,I.os,hg,⟨fun b o e n hb hx=>?_,fun b o e n hb hx=>?_,fun b o e n hx=>?_,fun b o e hx=>?_,fun b xs e=>tups b xs (I.base.tups b xs e),fun b o xs e=>frzs b o xs (I.base.frzs b o xs e),fun b ps e=>?_⟩,?_,fun x c e=>?_,?_,fun x c e=>?_,fun p hp=>?_,hok,I.len⟩
  · exact keep b o (neL b o e) hb (neC b o e hx) (I.base.keep b o e n hb hx) (I.base.free b o e n hx)
  · obtain ⟨sl,e1⟩:=I.base.slot b o e n hb hx
    obtain ⟨sl',e2⟩:=slot b _ (neL b o e) hb (neC b o e hx) e1 (I.base.free b o e n hx)
    exact ⟨sl',e2⟩
  · obtain ⟨o',e1⟩:=I.base.there b o e hx
    exact free b o' (neC b o e hx) e1 (I.base.free b o e n hx)
  · obtain ⟨o',e1⟩:=I.base.there b o e hx
    exact there b o' (neC b o e hx) e1
  · obtain ⟨m1,e1⟩:=I.base.tbls b ps e
    obtain ⟨m2,e2⟩:=tbls b _ e1
    exact ⟨m1++m2,by rw [e2,Array.append_assoc]⟩
  · obtain ⟨m,hn,hl⟩:=I.loc
    refine ⟨m,ns m hn,fun i x v e1 e2 e3=>?_⟩
    obtain ⟨u,r,l⟩:=hl i x v e1 e2 e3
    refine ⟨u,r,?_⟩
    rcases l with l | ⟨k,c,e,z⟩
    · exact .inl l
    · exact .inr ⟨k,c,e,cellK x c e _ z⟩
  · obtain ⟨v,z⟩:=I.cell x c e
    exact ⟨v,cellK x c e v z⟩
  · obtain ⟨m,⟨o,_,_,ho,_⟩,_⟩:=I.loc
    exact free _ o (fun z=>(hch _ z).2.1 rfl) ho I.free
  · obtain ⟨v,o,ho,hd⟩:=I.cell x c e
    exact free c o (fun z=>(hch c z).2.2.1 x c e rfl) ho (I.freeC x c e)
  · obtain ⟨e,n,ne,nf,d⟩:=I.pin p hp
    have nch:p.1∉ch:=fun z=>(hch p.1 z).2.2.2 p hp rfl
    exact ⟨keep p.1 p.2 ne nf nch e n,free p.1 p.2 nch e n,ne,nf,d⟩
theorem Inv.un {t':Nat} (I:Inv X pins σ H s) (u:Un X.fs [] H H' s.heap h') (hok:HOk X.prog X.w H' h'):Inv X pins σ H' { s with heap:=h',toks:=t' }:=by
  obtain ⟨m,⟨o,es,ep,ho,r⟩,_⟩:=id I.loc
  obtain ⟨sl,hL⟩:=u.any ho I.free (by simp)
  exact I.step (g':=s.gens) (d':=s.drawn) (ch:=[]) (fun _ z=>nomatch z) (fun b o _ hb _ e n=>u.keep b o e n hb (by simp)) (fun b o _ hb _ e n=>u.slot b o e n hb (by simp)) (fun b o _ e n=>u.free b o e n (by simp)) (fun b o _ e=>u.there b o e (by simp)) u.tups u.frzs u.tbls (fun m' hm=>by
    obtain ⟨o',es',ep',ho',r'⟩:=hm
    rw [ho] at ho'; cases ho'
    exact ⟨_,es',ep',hL,r'⟩) hok I.bare
theorem Inv.call {g':Array GenState} {t':Nat} {d':Drawn} {ch:List Addr} (I:Inv X pins σ H s) (u:Un (frs X.stack) ch H H' s.heap h') (hok:HOk X.prog X.w H' h') (hg:AllBare g')
    (hch:∀ b∈ch,(b∈X.ex∨X.s₀.heap.objs.size≤b)∧b≠X.env.locals∧(∀ x c,X.env.cells.lookup x=some c→c≠b)∧∀ p∈X.pn++pins,p.1≠b) :
    Inv X pins σ H' { s with heap:=h',gens:=g',drawn:=d',toks:=t' }:=by
  obtain ⟨m,⟨o,es,ep,ho,r⟩,_⟩:=id I.loc
  obtain ⟨sl,hL⟩:=u.any ho I.free fun z=>(hch _ z).2.1 rfl
  exact I.step (ch:=ch) hch (fun b o hL hb hc e n=>u.keep b o e n (fun z=>(List.mem_cons.mp (I.W3 b z)).elim hL hb) hc) (fun b o _ _ hc e n=>u.any e n hc) (fun b o hc e n=>u.free b o e n hc) (fun b o hc e=>u.there b o e hc) u.tups u.frzs u.tbls (fun m' hm=>by
    obtain ⟨o',es',ep',ho',r'⟩:=hm
    rw [ho] at ho'; cases ho'
    exact ⟨_,es',ep',hL,r'⟩) hok hg
theorem Inv.turned {t':Nat} {it:Addr} (I:Inv X pins σ H s) (k:∀ b o,b≠it→s.heap.get? b=some o→h'.get? b=some o) (hn:H it=none) (hL:it≠X.env.locals)
    (h1:it∈X.ex∨X.s₀.heap.objs.size≤it) (h2:∀ x c,X.env.cells.lookup x=some c→c≠it) (h3:∀ p∈X.pn++pins,p.1≠it):Inv X pins σ H { s with heap:=h',toks:=t' }:=by
  have nit:∀ b u,H b=some u→b≠it:=fun b u e z=>by rw [z,hn] at e; cases e
  refine I.step (g':=s.gens) (d':=s.drawn) (ch:=[it]) (fun b hb=>?_) (fun b o _ _ hc e _=>k b o (fun z=>hc (by simp [z])) e) (fun b o _ _ hc e _=>⟨o.slots,k b o (fun z=>hc (by simp [z])) e⟩) (fun _ _ _ _ n=>n)
    (fun b o hc e=>⟨o,k b o (fun z=>hc (by simp [z])) e⟩) (fun _ _ e=>e) (fun _ _ _ e=>e) (fun b ps e=>⟨#[],by rw [e]; simp⟩) (fun m hm=>?_) (fun b u e=>?_) I.bare
  · have e:b=it:=by simpa using hb
    subst e
    exact ⟨h1,hL,h2,h3⟩
  · obtain ⟨o,es,ep,ho,r⟩:=hm
    exact ⟨o,es,ep,k _ o (Ne.symm hL) ho,r⟩
  · refine (I.hok b u e).stay (fun c v hc q=>k c v ?_ q) (fun _ q=>q) fun _ _ q=>q
    rcases hc with z | z
    · rw [z]; exact nit b u e
    · exact nit c _ z
theorem Inv.tok (I:Inv X pins σ H s) (t:Nat):Inv X pins σ H { s with toks:=t }:=I.un (h':=s.heap) (t':=t) Un.refl I.hok
theorem Inv.kept {t':Nat} (I:Inv X pins σ H s) (k:∀ b u,s.heap.get? b=some u→h'.get? b=some u):Inv X pins σ H { s with heap:=h',toks:=t' }:=I.un (Un.kept k) (I.hok.kept k)
theorem Inv.laid {a:Addr} {o:HO} {t':Nat} (I:Inv X pins σ H s) (k:∀ b u,s.heap.get? b=some u→h'.get? b=some u) (hp:s.heap.objs.size≤a) (new:yr X.prog X.w (upd H a o) h' a o) :
    Inv X pins σ (upd H a o) { s with heap:=h',toks:=t' }:=I.un (Un.laid k hp (I.hok.fresh hp)) (I.hok.laid k hp new)
theorem Inv.write {x e:Addr} {o:HO} {t':Nat} (I:Inv X pins σ H s) (mu:Mut (H x)) (he:e=x∨H e=some (.own x)) (k:∀ b u,b≠e→s.heap.get? b=some u→h'.get? b=some u) (heo:∃ u,h'.get? e=some u)
    (new:yr X.prog X.w (upd H x o) h' x o):Inv X pins σ (upd H x o) { s with heap:=h',toks:=t' }:=I.un (Un.write mu he k heo) (I.hok.write mu he k heo new)
theorem Inv.Zb {pins':List (Addr × Obj)} (I:Inv X pins σ H s) (h:∀ p∈pins',s.heap.get? p.1=some p.2∧H p.1=none∧p.1≠X.env.locals∧p.1∉X.fs∧∀ v,p.2.data≠.cell v):Inv X pins' σ H s :=
  ⟨I.ok,I.os,I.bare,I.base,I.loc,I.cell,I.free,I.freeC,fun p hp=>(List.mem_append.mp hp).elim (fun z=>I.pin p (List.mem_append_left _ z)) (h p),I.hok,I.len⟩
theorem Uy {N:List Str} (hN:N.Nodup) {i j:Nat} {x:Str} (a:N[i]? = some x) (b:N[j]? = some x):i=j:=by
  obtain ⟨h1,e1⟩:=List.getElem?_eq_some_iff.mp a
  obtain ⟨h2,e2⟩:=List.getElem?_eq_some_iff.mp b
  exact (List.getElem_inj hN).mp (e1.trans e2.symm)
theorem a0d {M:Model} {A:Around} {E:Value→Shared→Prop} {i:Nat} {x:Str} {v:V} {u:Value} {Q:Unit→Shared→Prop} (I:Inv X pins σ H s) (hN:X.N.Nodup) (hi:X.N[i]? = some x) (hx:Loc X.env.scope x) (r:RelV v u)
    (h:∀ s',Inv X pins (σ.set i (some v)) H s'→(∃ a,Heap.SameBut a s.heap s'.heap∧(a=X.env.locals∨X.env.cells.lookup x=some a))→Q () s') (hf:X.fn x=true∨X.env.scope.names.lookup x=some .local:=by first | exact .inl rfl | exact .inr rfl | assumption):wpAny M A (storeName X.env x u) Q E s:=by
  obtain ⟨m,hn,hl⟩:=id I.loc
  have hcls:(X.env.scope.kind == .class||(X.env.scope.kind == .module&&X.env.locals != X.env.globals))=false:=by rw [I.ok.kind]; rfl
  have hiσ:i<σ.length:=by rw [I.len]; exact (List.getElem?_eq_some_iff.mp hi).1
  have cne:=I.cne
  have tracked:∀ {a:Addr} {h':Heap},(∃ o,s.heap.get? a=some o∧H a=none)→Heap.SameBut a s.heap h'→HOk X.prog X.w H h':=fun {a h'} ha hs b ob e=>by
    obtain ⟨_,_,hfree⟩:=ha
    refine (I.hok b ob e).stay (fun c w' hc q=>(hs.2 c ?_).trans q) (fun _ q=>q) fun _ _ q=>q
    rintro rfl
    rcases hc with rfl | hc
    · rw [hfree] at e; cases e
    · rw [hfree] at hc; cases hc
  rcases hx with hk | hk
  · refine wpAny_storeName_local hk hn (fun h' hn' hs=>?_) hcls
    obtain ⟨oL,_,_,hoL,_⟩:=id hn
    refine h _ ⟨I.ok,I.os,I.bare,⟨fun b o e n hb hx=>?_,fun b o e n hb hx=>?_,I.base.free,fun b o e hx=>?_,I.base.tups,I.base.frzs,I.base.tbls⟩,⟨_,hn',fun j y v' e1 e2 e3=>?_⟩,fun y c e=>?_,I.free,I.freeC,fun p hp=>?_,tracked ⟨oL,hoL,I.free⟩ hs,by simpa using I.len⟩ ⟨_,hs,.inl rfl⟩
    · exact (hs.2 b (Nat.ne_of_lt (Nat.lt_of_lt_of_le (Heap.lt_size e) I.ok.above))).trans (I.base.keep b o e n hb hx)
    · obtain ⟨sl,e1⟩:=I.base.slot b o e n hb hx
      exact ⟨sl,(hs.2 b (Nat.ne_of_lt (Nat.lt_of_lt_of_le (Heap.lt_size e) I.ok.above))).trans e1⟩
    · obtain ⟨o',e1⟩:=I.base.there b o e hx
      exact ⟨o',(hs.2 b (Nat.ne_of_lt (Nat.lt_of_lt_of_le (Heap.lt_size e) I.ok.above))).trans e1⟩
    · by_cases hj:j=i
      · subst hj
        rw [hi] at e1; cases e1
        rw [List.getElem?_set_self hiσ] at e2
        cases e2
        exact ⟨u,r,.inl ⟨hk,by simp⟩⟩
      · rw [List.getElem?_set_ne (Ne.symm hj)] at e2
        obtain ⟨u',r',q⟩:=hl j y v' e1 e2 e3
        refine ⟨u',r',?_⟩
        rcases q with ⟨k,e⟩ | ⟨k,c,e,z⟩
        · refine .inl ⟨k,?_⟩
          have:y≠x:=fun e=>hj (Uy hN e1 (e ▸ hi))
          simp [this,e]
        · exact .inr ⟨k,c,e,z.sameBut hs (cne y c e)⟩
    · obtain ⟨w',z⟩:=I.cell y c e
      exact ⟨w',z.sameBut hs (cne y c e)⟩
    · obtain ⟨e,n,ne,nf,d⟩:=I.pin p hp
      exact ⟨(hs.2 p.1 ne).trans e,n,ne,nf,d⟩
  · have hfn:X.fn x=true:=by
      rcases hf with z | z
      · exact z
      · rw [z] at hk; cases hk
    obtain ⟨c,hc⟩:=I.ok.has x (.inl hk)
    obtain ⟨w',z⟩:=I.cell x c hc
    refine wpAny_storeName_cell I.ok.kind hk hc z (fun h' hc' hs=>?_)
    obtain ⟨oc,hoc,hocd⟩:=id z
    refine h { s with heap:=h' } ⟨I.ok,I.os,I.bare,⟨fun b o e n hb hx=>?_,fun b o e n hb hx=>?_,I.base.free,fun b o e hx=>?_,I.base.tups,I.base.frzs,I.base.tbls⟩,⟨m,hn.sameBut hs (Ne.symm (cne x c hc)),fun j y v' e1 e2 e3=>?_⟩,fun y c' e=>?_,I.free,I.freeC,fun p hp=>?_,tracked ⟨oc,hoc,I.freeC x c hc⟩ hs,by simpa using I.len⟩ ⟨c,hs,.inr hc⟩
    · exact (hs.2 b (Nat.ne_of_lt (Nat.lt_of_lt_of_le (Heap.lt_size e) (I.ok.cab x c hfn hc)))).trans (I.base.keep b o e n hb hx)
    · obtain ⟨sl,e1⟩:=I.base.slot b o e n hb hx
      exact ⟨sl,(hs.2 b (Nat.ne_of_lt (Nat.lt_of_lt_of_le (Heap.lt_size e) (I.ok.cab x c hfn hc)))).trans e1⟩
    · obtain ⟨o',e1⟩:=I.base.there b o e hx
      exact ⟨o',(hs.2 b (Nat.ne_of_lt (Nat.lt_of_lt_of_le (Heap.lt_size e) (I.ok.cab x c hfn hc)))).trans e1⟩
    · by_cases hj:j=i
      · subst hj
        rw [hi] at e1; cases e1
        rw [List.getElem?_set_self hiσ] at e2
        cases e2
        exact ⟨u,r,.inr ⟨.inl hk,c,hc,hc'⟩⟩
      · rw [List.getElem?_set_ne (Ne.symm hj)] at e2
        obtain ⟨u',r',q⟩:=hl j y v' e1 e2 e3
        refine ⟨u',r',?_⟩
        rcases q with q | ⟨k,c',e,z'⟩
        · exact .inl q
        · refine .inr ⟨k,c',e,z'.sameBut hs ?_⟩
          rintro rfl
          exact hj (Uy hN e1 (I.ok.inj _ _ _ e hc ▸ hi))
    · by_cases hcc:c'=c
      · subst hcc; exact ⟨_,hc'⟩
      · obtain ⟨w2,z2⟩:=I.cell y c' e
        exact ⟨w2,z2.sameBut hs hcc⟩
    · obtain ⟨e,n,ne,nf,d⟩:=I.pin p hp
      refine ⟨(hs.2 p.1 ?_).trans e,n,ne,nf,d⟩
      intro q
      rw [q,hoc] at e
      have q':oc=p.2:=Option.some.inj e
      exact d w' (by rw [← q']; exact hocd)
theorem Vo {M:Model} {A:Around} {E:Value→Shared→Prop} {i:Nat} {x:Str} {v:V} {u:Value} {Q:Unit→Shared→Prop} (I:Inv X pins σ H s) (hN:X.N.Nodup) (hi:X.N[i]? = some x) (hx:Loc X.env.scope x) (r:RelV v u)
    (h:∀ s',Inv X pins (σ.set i (some v)) H s'→Q () s') (hf:X.fn x=true∨X.env.scope.names.lookup x=some .local:=by first | exact .inl rfl | exact .inr rfl | assumption):wpAny M A (storeName X.env x u) Q E s :=
  a0d I hN hi hx r (fun s' I' _=>h s' I') hf
end
noncomputable abbrev XK:=Value→Option Addr→Hp→Prop
noncomputable abbrev St:=List (Option V)
noncomputable abbrev VK:=V→Hp→Prop
noncomputable abbrev TE:=St→Hp→VK→Prop
noncomputable abbrev TT:=St→Hp→(Bool→Hp→Prop)→Prop
noncomputable abbrev TA:=St→Hp→(List V→Hp→Prop)→Prop
structure Ends where
  nx:St→Hp→Prop
  rt:VK
  bk:St→Hp→Prop:=fun _ _=>False
  ct:St→Hp→Prop:=fun _ _=>False
noncomputable abbrev TS:=Ends→St→Hp→Prop
inductive EP (X:Cx) (pins:List (Addr × Obj)) (σ:St) (Q:VK) (u:Value) (s':Shared):Prop
  | mk (v:V) (H':Hp) (I:Inv X pins σ H' s') (r:RelV v u) (q:Q v H')
noncomputable def TP (X:Cx) (pins:List (Addr × Obj)) (σ:St) (Q:Bool→Hp→Prop) (b:Bool) (s':Shared):Prop:=∃ H',Inv X pins σ H' s'∧Q b H'
inductive AP (X:Cx) (pins:List (Addr × Obj)) (σ:St) (Q:List V→Hp→Prop) (us:List Value) (s':Shared):Prop
  | mk (vs:List V) (H':Hp) (I:Inv X pins σ H' s') (r:Vals vs us) (q:Q vs H')
noncomputable def SP (X:Cx) (pins:List (Addr × Obj)) (D:Ends) (f:Flow) (s':Shared):Prop :=
  match f with
  | .next=>∃ σ' H',Inv X pins σ' H' s'∧D.nx σ' H'
  | .brk=>∃ σ' H',Inv X pins σ' H' s'∧D.bk σ' H'
  | .cont=>∃ σ' H',Inv X pins σ' H' s'∧D.ct σ' H'
  | .ret u=>∃ v σ' H',Inv X pins σ' H' s'∧RelV v u∧D.rt v H'
noncomputable def PE (X:Cx) (e:Expr) (t:TE):Prop :=
  ∀ (pins:List (Addr × Obj)) (s:Shared) (σ:St) (H:Hp) (Q:VK),Inv X pins σ H s→t σ H Q→wpAny (model X.prog X.w) X.A (eval e X.env) (EP X pins σ Q) X.xe s
noncomputable def PT (X:Cx) (e:Expr) (t:TT):Prop :=
  ∀ (pins:List (Addr × Obj)) (s:Shared) (σ:St) (H:Hp) (Q:Bool→Hp→Prop),Inv X pins σ H s→t σ H Q→wpAny (model X.prog X.w) X.A (isTrue e X.env (eval e X.env)) (TP X pins σ Q) X.xe s
noncomputable def PW (X:Cx) (e:Expr) (t:TT):Prop :=
  ∀ (whole:Sem Value) (pins:List (Addr × Obj)) (s:Shared) (σ:St) (H:Hp) (Q:Bool→Hp→Prop),Inv X pins σ H s→t σ H Q→wpAny (model X.prog X.w) X.A (isTrue e X.env whole) (TP X pins σ Q) X.xe s
theorem PW.pt {X:Cx} {e:Expr} {t:TT} (h:PW X e t):PT X e t:=h _
noncomputable def PA (X:Cx) (es:List Expr) (t:TA):Prop :=
  ∀ (pos:Pos) (pins:List (Addr × Obj)) (s:Shared) (σ:St) (H:Hp) (Q:List V→Hp→Prop),Inv X pins σ H s→t σ H Q→wpAny (model X.prog X.w) X.A (spliced (backTo pos (starEach es X.env))) (AP X pins σ Q) X.xe s
noncomputable def PS (X:Cx) (st:Stmt) (t:TS):Prop :=
  ∀ (pins:List (Addr × Obj)) (s:Shared) (σ:St) (H:Hp) (D:Ends),Inv X pins σ H s→t D σ H→wpAny (model X.prog X.w) X.A (exec st X.env) (SP X pins D) X.xe s
noncomputable def PSs (X:Cx) (st:List Stmt) (t:TS):Prop :=
  ∀ (pins:List (Addr × Obj)) (s:Shared) (σ:St) (H:Hp) (D:Ends),Inv X pins σ H s→t D σ H→wpAny (model X.prog X.w) X.A (execs st X.env) (SP X pins D) X.xe s
theorem thn {α:Type} {t:Sem α} {Q Q':α→Shared→Prop} {M:Model} {A:Around} {E:Value→Shared→Prop} {s:Shared} (h:wpAny M A t Q E s) (hQ:∀ a s,Q a s→Q' a s):wpAny M A t Q' E s:=wpAny_mono h hQ fun _ _ x=>x
end L2
namespace L2
open PySem PySem.Spec PyProof.Rows
noncomputable section
variable {X:Cx}
noncomputable def a3s (i:Nat):TE:=fun σ H Q=>∃ v,σ[i]? = some (some v)∧Q v H
noncomputable def tC (v:V):TE:=fun _ H Q=>Q v H
theorem a8l {i:Nat} {x:Str} {pos:Pos} (hN:X.N[i]? = some x) (hv:Vis X.env.scope x) (hd:(x==("__debug__" : Str))=false:=by decide) (hcd:(x==("__classdict__" : Str))=false:=by decide):PE X (.Name x pos) (a3s i):=by
  intro pins s σ H Q I h
  obtain ⟨v,e,h⟩:=h
  obtain ⟨m,hn,hl⟩:=I.loc
  obtain ⟨u,r,l⟩:=hl i x v hN e hv
  have fin:EP X pins σ Q u s:=⟨v,H,I,r,h⟩
  rcases l with ⟨hk,hm⟩ | ⟨hk,c,hc,hcell⟩
  · exact wpAny_Name (wpAny_loadName_local I.ok.kind hk hn hm fin) hd
  · rcases hk with hk | hk
    · exact wpAny_Name (wpAny_loadName_cell I.ok.kind hk hc hcell fin) hd
    · exact wpAny_Name (wpAny_loadName_free I.ok.kind hk hc hcell fin hcd) hd
theorem a9y {i j pos}:PE X (.Constant (.int i) j pos) (tC (.int i)):=fun _ _ _ H _ I h=>wpAny_Constant_int ⟨.int i,H,I.tok _,⟨_,rfl⟩,h⟩
theorem ac2 {b j pos}:PE X (.Constant (.bool b) j pos) (tC (.bl b)):=fun _ _ _ H _ I h=>Constant_bool ⟨.bl b,H,I,rfl,h⟩
theorem a8t {x j pos}:PE X (.Constant (.str x) j pos) (tC (.str x)):=fun _ _ _ H _ I h=>Calls.Constant_str ⟨.str x,H,I.tok _,⟨_,rfl⟩,h⟩
noncomputable def Gl (X:Cx) (x:Str):Prop:=X.env.kindOf x=some .globalImplicit
theorem a0v {E:Value→Shared→Prop} {pins:List (Addr × Obj)} {s:Shared} {σ:St} {H:Hp} {x:Str} {u:Value} {pos:Pos} {Q:Value→Shared→Prop} (I:Inv X pins σ H s) (hg:Gl X x) (hm:X.mg x=some u) (h:Q u s)
    (hd:(x==("__debug__" : Str))=false:=by decide):wpAny (model X.prog X.w) X.A (eval (.Name x pos) X.env) Q E s :=
  Calls.Name_function_global I.ok.kind hg (Calls.loadGlobal_global (by rw [I.ok.glob]; exact I.mod.glob.keeps I.bk) hm h) hd
theorem Ml {E:Value→Shared→Prop} {pins:List (Addr × Obj)} {s:Shared} {σ:St} {H:Hp} {x:Str} {u:Value} {pos:Pos} {Q:Value→Shared→Prop} (I:Inv X pins σ H s) (hg:Gl X x) (hm:X.mg x=none) (hv:bootBuiltins x=some u) (h:Q u s)
    (hn:x ≠ "__name__" := by decide) (hd:(x==("__debug__" : Str))=false:=by decide):wpAny (model X.prog X.w) X.A (eval (.Name x pos) X.env) Q E s:=by
  obtain ⟨mb,h1,h2⟩:=I.mod.blt
  exact Calls.Name_function_global I.ok.kind hg (Calls.loadGlobal_builtin (by rw [I.ok.glob]; exact I.mod.glob.keeps I.bk) hm (by rw [I.ok.blt]; exact h1.keeps I.bk) ((h2 x hn).trans hv) h) hd
theorem a05 {x:Str} {v:V} {u:Value} {pos:Pos} (hg:Gl X x) (hm:X.mg x=some u) (r:RelV v u) (hd:(x==("__debug__" : Str))=false:=by decide):PE X (.Name x pos) (tC v) :=
  fun _ _ _ H _ I h=>a0v I hg hm ⟨v,H,I,r,h⟩ hd
theorem a69 {x:Str} {v:V} {u:Value} {pos:Pos} (hg:Gl X x) (hm:X.mg x=none) (hv:bootBuiltins x=some u) (r:RelV v u) (hn:x ≠ "__name__" := by decide) (hd:(x==("__debug__" : Str))=false:=by decide):PE X (.Name x pos) (tC v) :=
  fun _ _ _ H _ I h=>Ml I hg hm hv ⟨v,H,I,r,h⟩ hn hd
variable {a b:Expr} {ta tb:TE} {pos:Pos}
noncomputable def tB (t:TE):TT:=fun σ H Q=>t σ H fun x H1=>∃ c,x=.bl c∧Q c H1
theorem a9h {e:Expr} {t:TE} (h:PE X e t) (he:∀ whole,isTrue e X.env whole=(do let v ← whole; standAt e.pos; holding [v] (truthy v)):=by intro _; rfl):PT X e (tB t):=by
  intro pins s σ H Q I hw
  refine isTrue_plain (thn (h pins s σ H _ I hw) fun v s1 z0=>?_) (he _)
  obtain ⟨x,H1,I1,r1,q1⟩:=z0
  obtain ⟨d,rfl,q⟩:=q1
  cases r1
  exact wpAny_truthy_bool ⟨H1,I1,q⟩
variable {tA tB':TT} {rest:List Expr}
noncomputable def tOr (t u:TT):TT:=fun σ H Q=>t σ H fun c H1=>if c=true then Q true H1 else u σ H1 Q
noncomputable def aen (t:TT):TT:=fun σ H Q=>t σ H fun c H1=>Q (!c) H1
theorem pw_or1 (ha:PT X a tA):PW X (.BoolOp .Or [a] pos) tA:=by
  intro wh pins s σ H Q I h
  refine isTrue_or (thn (ha pins s σ H Q I h) fun c s1 e=>?_)
  cases c with
  | false=>exact isTrue_or_nil e
  | true=>exact e
theorem pw_or (ha:PT X a tA) (hb:PW X (.BoolOp .Or (b::rest) pos) tB'):PW X (.BoolOp .Or (a::b::rest) pos) (tOr tA tB'):=by
  intro wh pins s σ H Q I h
  refine isTrue_or (thn (ha pins s σ H _ I h) fun c s1 z0=>?_)
  obtain ⟨H1,I1,q1⟩:=z0
  cases c with
  | true=>exact ⟨H1,I1,q1⟩
  | false=>exact hb wh pins s1 σ H1 Q I1 q1
theorem a85 (ha:PT X a tA):PT X (.UnaryOp .Not a pos) (aen tA):=by
  intro pins s σ H Q I h
  exact isTrue_not (ha pins s σ H (fun c H1=>Q (!c) H1) I h)
noncomputable def ab7 (ta tb:TE):TE:=fun σ H Q=>ta σ H fun x H1=>∃ c,x=.bl c∧if c=true then tb σ H1 Q else Q (.bl false) H1
noncomputable def abw (ta:TE):TE:=fun σ H Q=>ta σ H fun x H1=>∃ c,x=.bl c∧Q (.bl (!c)) H1
theorem a8f {op} {t:TE} (h:PE X a t):PE X (.BoolOp op [a] pos) t:=fun pins s σ H Q I hw=>BoolOp_one (h pins s σ H Q I hw)
theorem a7q (ha:PE X a ta) (hb:PE X (.BoolOp .And (b::rest) pos) tb):PE X (.BoolOp .And (a::b::rest) pos) (ab7 ta tb):=by
  intro pins s σ H Q I h
  refine BoolOp_and (thn (ha pins s σ H _ I h) fun v s1 z0=>?_)
  obtain ⟨x,H1,I1,r1,q1⟩:=z0
  obtain ⟨c,rfl,q1⟩:=q1
  cases r1
  refine wpAny_truthy_bool ?_
  cases c with
  | true=>exact hb pins s1 σ H1 Q I1 q1
  | false=>exact ⟨.bl false,H1,I1,rfl,q1⟩
theorem a9n (ha:PE X a ta):PE X (.UnaryOp .Not a pos) (abw ta):=by
  intro pins s σ H Q I h
  refine UnaryOp_ (thn (ha pins s σ H _ I h) fun v s1 z0=>?_)
  obtain ⟨x,H1,I1,r1,q1⟩:=z0
  obtain ⟨c,rfl,q1⟩:=q1
  cases r1
  exact not_of (wpAny_truthy_bool ⟨.bl (!c),H1,I1,rfl,q1⟩)
noncomputable def tIf (t:TT) (ta tb:TE):TE:=fun σ H Q=>t σ H fun c H1=>if c=true then ta σ H1 Q else tb σ H1 Q
theorem a2m {c:Expr} (hc:PT X c tA) (ha:PE X a ta) (hb:PE X b tb):PE X (.IfExp c a b pos) (tIf tA ta tb):=by
  intro pins s σ H Q I h
  refine wpAny_IfExp (thn (hc pins s σ H _ I h) fun d s1 z0=>?_)
  obtain ⟨H1,I1,q1⟩:=z0
  cases d with
  | true=>exact ha pins s1 σ H1 Q I1 q1
  | false=>exact hb pins s1 σ H1 Q I1 q1
end
end L2
namespace L2
open PySem PySem.Spec PyProof.Rows
noncomputable def SqL (K:PySem.W.Frag) (H:Hp) (a:Addr) (xs:List V):Prop :=
  Rd H a (.lst xs) ∨
    ∃ (o:Obj) (its:Array Value) (n:Nat),K.lookup a=some o∧o.cls=.type "list" ∧ o.dict=none∧o.data=.seq its n∧its.size≤sizeLine∧Vals xs its.toList
noncomputable def SqT (K:PySem.W.Frag) (H:Hp) (a:Addr) (xs:List V):Prop :=
  Rd H a (.tup xs) ∨
    ∃ (o:Obj) (its:Array Value) (n:Nat),K.lookup a=some o∧o.cls=.type "tuple" ∧ o.dict=none∧o.data=.seq its n∧its.size≤sizeLine∧Vals xs its.toList
noncomputable def aex:Value→Option V
  | .none=>some .non
  | .bool b=>some (.bl b)
  | .int i _=>some (.int i)
  | .str x _=>some (.str x)
  | .bytes b _=>some (.byt b)
  | .float b _=>some (.flt b)
  | .ref a=>some (.ref a)
  | .type n=>some (.ty n)
  | _=>none
theorem RelV.abs {x:V} {u:Value} (r:RelV x u):aex u=some x:=by
  cases x with
  | non=>cases r; rfl
  | bl _=>cases r; rfl
  | int _=>obtain ⟨t,rfl⟩:=r; rfl
  | str _=>obtain ⟨t,rfl⟩:=r; rfl
  | byt _=>obtain ⟨t,rfl⟩:=r; rfl
  | flt _=>obtain ⟨t,rfl⟩:=r; rfl
  | ref _=>cases r; rfl
  | ty _=>cases r; rfl
theorem RelV.inj {x y:V} {u:Value} (r:RelV x u) (q:RelV y u):x=y:=Option.some.inj (r.abs.symm.trans q.abs)
theorem Vals.inj {xs ys:List V} {us:List Value} (h:Vals xs us):Vals ys us→xs=ys:=by
  induction h generalizing ys with
  | nil=>intro k; cases k; rfl
  | cons r t ih=>intro k; cases k with | cons r' t'=>rw [r.inj r',ih t']
noncomputable section
variable {X:Cx} {pins:List (Addr × Obj)} {σ:St} {H:Hp} {s:Shared} {a:Addr} {xs ys:List V}
theorem SqL.of {K:PySem.W.Frag} (h:H a=some (.lst xs)):SqL K H a xs:=.inl (.inl h)
theorem SqT.of {K:PySem.W.Frag} (h:H a=some (.tup xs)):SqT K H a xs:=.inl (.inl h)
theorem Inv.list (I:Inv X pins σ H s) (h:SqL X.K H a xs):∃ its:List Value,Vals xs its∧PlainL s.heap a its.toArray∧xs.length≤sizeLine:=by
  rcases h with h | ⟨o,its,n,hk,hc,hd,hs,hz,r⟩
  · obtain ⟨z,its,n,r,e⟩:=h.ok I.hok
    exact ⟨its,r,⟨_,n,e,rfl,rfl,rfl⟩,z⟩
  · refine ⟨its.toList,r,⟨o,n,I.kIn a o hk,hc,hd,by simpa using hs⟩,?_⟩
    have e:=r.length
    simp only [Array.length_toList] at e
    omega
theorem Inv.tuple (I:Inv X pins σ H s) (h:SqT X.K H a xs):∃ its:List Value,Vals xs its∧IsTup s.heap a its.toArray∧xs.length≤sizeLine:=by
  rcases h with h | ⟨o,its,n,hk,hc,hdn,hs,hz,r⟩
  · obtain ⟨z,its,r,p⟩:=h.ok I.hok
    exact ⟨its,r,p.is,z⟩
  · refine ⟨its.toList,r,⟨o,I.kIn a o hk,hc,n,by simpa using hs⟩,?_⟩
    have e:=r.length
    simp only [Array.length_toList] at e
    omega
theorem Inv.a98 (I:Inv X pins σ H s) (h:SqT X.K H a xs):∃ its:List Value,Vals xs its∧a1n s.heap a its.toArray∧xs.length≤sizeLine:=by
  rcases h with h | ⟨o,its,n,hk,hc,hdn,hs,hz,r⟩
  · obtain ⟨z,its,r,p⟩:=h.ok I.hok
    exact ⟨its,r,p,z⟩
  · refine ⟨its.toList,r,⟨o,I.kIn a o hk,hc,hdn,n,by simpa using hs⟩,?_⟩
    have e:=r.length
    simp only [Array.length_toList] at e
    omega
theorem Inv.a3v (I:Inv X pins σ H s) (h:SqL X.K H a xs) (h':SqL X.K H a ys):xs=ys:=by
  obtain ⟨its,r,⟨o,n,e,_,_,d⟩,_⟩:=I.list h
  obtain ⟨its',r',⟨o',n',e',_,_,d'⟩,_⟩:=I.list h'
  rw [e] at e'; cases e'
  rw [d] at d'
  injection d' with d1 _
  have:its=its':=by simpa using congrArg Array.toList d1
  subst this
  exact r.inj r'
theorem Inv.Y5 (I:Inv X pins σ H s) (h:SqT X.K H a xs) (h':SqT X.K H a ys):xs=ys:=by
  obtain ⟨its,r,⟨o,e,_,n,d⟩,_⟩:=I.tuple h
  obtain ⟨its',r',⟨o',e',_,n',d'⟩,_⟩:=I.tuple h'
  rw [e] at e'; cases e'
  rw [d] at d'
  injection d' with d1 _
  have:its=its':=by simpa using congrArg Array.toList d1
  subst this
  exact r.inj r'
end
noncomputable abbrev Cx.wish (X:Cx) (E:Value→Shared→Prop):Cx:={ X with xe:=E }
noncomputable abbrev Cx.nox (X:Cx):Cx:=X.wish fun _ _=>False
theorem Cx.Ok.wish {X:Cx} (ok:X.Ok) (E:Value→Shared→Prop):(X.wish E).Ok :=
  ⟨ok.mod,ok.kind,ok.glob,ok.blt,ok.above,ok.inj,ok.has,ok.cab,ok.hd,ok.frames,ok.stk,ok.exf,ok.bs,ok.bsz,ok.noex,ok.exfs,ok.Xn,ok.frf⟩
theorem Cx.Ok.Ew {X:Cx} {E:Value→Shared→Prop} (ok:(X.wish E).Ok):X.Ok :=
  ⟨ok.mod,ok.kind,ok.glob,ok.blt,ok.above,ok.inj,ok.has,ok.cab,ok.hd,ok.frames,ok.stk,ok.exf,ok.bs,ok.bsz,ok.noex,ok.exfs,ok.Xn,ok.frf⟩
noncomputable section
variable {X:Cx} {pins:List (Addr × Obj)} {σ:St} {H:Hp} {s:Shared} {E:Value→Shared→Prop}
theorem Inv.wish (I:Inv X pins σ H s) (E:Value→Shared→Prop):Inv (X.wish E) pins σ H s:=⟨I.ok.wish E,I.os,I.bare,I.base,I.loc,I.cell,I.free,I.freeC,I.pin,I.hok,I.len⟩
theorem Inv.Ew (I:Inv (X.wish E) pins σ H s):Inv X pins σ H s:=⟨I.ok.Ew,I.os,I.bare,I.base,I.loc,I.cell,I.free,I.freeC,I.pin,I.hok,I.len⟩
theorem SP.Ew {D:Ends} {f:Flow} {s':Shared} (h:SP (X.wish E) pins D f s'):SP X pins D f s':=by
  cases f with
  | next=>obtain ⟨σ',H',I,q⟩:=h; exact ⟨σ',H',I.Ew,q⟩
  | brk=>obtain ⟨σ',H',I,q⟩:=h; exact ⟨σ',H',I.Ew,q⟩
  | cont=>obtain ⟨σ',H',I,q⟩:=h; exact ⟨σ',H',I.Ew,q⟩
  | ret u=>obtain ⟨v,σ',H',I,r,q⟩:=h; exact ⟨v,σ',H',I.Ew,r,q⟩
theorem PE.nox {e:Expr} {t:TE} (h:PE X.nox e t):PE X e t:=fun pins s σ H Q I hw =>
  wpAny_mono (h pins s σ H Q (I.wish _) hw) (fun _ _ z7=>by obtain ⟨v,H',I',r,q⟩:=z7; exact ⟨v,H',I'.Ew,r,q⟩) fun _ _ z=>False.elim z
theorem PT.nox {e:Expr} {t:TT} (h:PT X.nox e t):PT X e t:=fun pins s σ H Q I hw =>
  wpAny_mono (h pins s σ H Q (I.wish _) hw) (fun _ _ z7=>by obtain ⟨H',I',q⟩:=z7; exact ⟨H',I'.Ew,q⟩) fun _ _ z=>False.elim z
theorem PSs.nox {st:List Stmt} {t:TS} (h:PSs X.nox st t):PSs X st t:=fun pins s σ H D I hw =>
  wpAny_mono (h pins s σ H D (I.wish _) hw) (fun _ _ q=>q.Ew) fun _ _ z=>False.elim z
end
noncomputable section
variable {X:Cx} {st:Stmt} {rest:List Stmt} {t u:TS} {e:Expr} {te:TE} {pos:Pos}
noncomputable def abm:TS:=fun D σ H=>D.nx σ H
noncomputable def ae7 (t u:TS):TS:=fun D σ H=>t { D with nx:=u D } σ H
theorem a5q:PSs X [] abm:=fun _ _ σ H _ I h=>wpAny_execs_nil ⟨σ,H,I,h⟩
theorem Uo (h1:PS X st t) (h2:PSs X rest u):PSs X (st::rest) (ae7 t u):=by
  intro pins s σ H D I h
  refine wpAny_execs_cons (thn (h1 pins s σ H { D with nx:=u D } I h) fun f s1 q=>?_)
  cases f with
  | next =>
    obtain ⟨σ',H',I',q⟩:=q
    exact h2 pins s1 σ' H' D I' q
  | ret v=>exact q
  | brk=>exact q
  | cont=>exact q
theorem Yi (h1:PS X st t):PSs X [st] t:=by
  intro pins s σ H D I h
  refine wpAny_execs_cons (thn (h1 pins s σ H D I h) fun f s1 q=>?_)
  cases f with
  | next=>exact wpAny_execs_nil q
  | ret v=>exact q
  | brk=>exact q
  | cont=>exact q
theorem Inv.quiet {pins:List (Addr × Obj)} {σ:St} {H:Hp} {s:Shared} (I:Inv X pins σ H s):interactive X.env=false:=by simp [interactive,I.ok.kind]
noncomputable def a6d (te:TE):TS:=fun D σ H=>te σ H fun _ H1=>D.nx σ H1
theorem yw (he:PE X e te) (hs:swapsWith e none pos.line X.env=pure false:=by rfl):PS X (.Expr e pos) (a6d te):=by
  intro pins s σ H D I h
  exact wpAny_Expr_any (thn (he pins s σ H _ I h) fun v s1 z7=>by obtain ⟨x,H1,I1,r1,q1⟩:=z7; exact ⟨σ,H1,I1,q1⟩) I.quiet hs
noncomputable def aec (te:TE):TS:=fun D σ H=>te σ H D.rt
theorem a4b (he:PE X e te):PS X (.Return (some e) pos) (aec te):=by
  intro pins s σ H D I h
  exact wpAny_Return_some (thn (he pins s σ H _ I h) fun v s1 z7=>by obtain ⟨x,H1,I1,r1,q1⟩:=z7; exact ⟨x,σ,H1,I1,r1,q1⟩)
noncomputable def aep (c:TT) (t u:TS):TS:=fun D σ H=>c σ H fun b H1=>if b=true then t D σ H1 else u D σ H1
theorem ad1 {c:Expr} {a b:List Stmt} {tc:TT} (hc:PT X c tc) (ha:PSs X a t) (hb:PSs X b u):PS X (.If c a b pos) (aep tc t u):=by
  intro pins s σ H D I h
  refine wpAny_If (thn (hc pins s σ H _ I h) fun d s1 z0=>?_)
  obtain ⟨H1,I1,q1⟩:=z0
  cases d with
  | true=>exact ha pins s1 σ H1 D I1 q1
  | false=>exact hb pins s1 σ H1 D I1 q1
end
noncomputable abbrev TG:=V→St→Hp→(St→Hp→Prop)→Prop
noncomputable abbrev TGs:=List V→St→Hp→(St→Hp→Prop)→Prop
noncomputable def PG (X:Cx) (target:Expr) (t:TG):Prop :=
  ∀ (pins:List (Addr × Obj)) (s:Shared) (σ:St) (H:Hp) (v:V) (u:Value) (Q:St→Hp→Prop),Inv X pins σ H s→RelV v u→t v σ H Q →
    wpAny (model X.prog X.w) X.A (assign target X.env u) (fun _ s'=>∃ σ' H',Inv X pins σ' H' s'∧Q σ' H') X.xe s
noncomputable def PGs (X:Cx) (ts:List Expr) (t:TGs):Prop :=
  ∀ (pins:List (Addr × Obj)) (s:Shared) (σ:St) (H:Hp) (vs:List V) (us:List Value) (Q:St→Hp→Prop),Inv X pins σ H s→Vals vs us→t vs σ H Q →
    wpAny (model X.prog X.w) X.A (assignInOrder ((assignEach ts X.env).map (·.2)) us) (fun _ s'=>∃ σ' H',Inv X pins σ' H' s'∧Q σ' H') X.xe s
noncomputable section
variable {X:Cx} {pos:Pos}
noncomputable def Ox (i:Nat):TG:=fun v σ H Q=>Q (σ.set i (some v)) H
theorem gk {i:Nat} {x:Str} (hN:X.N.Nodup) (hi:X.N[i]? = some x) (hx:Loc X.env.scope x) (hf:X.fn x=true∨X.env.scope.names.lookup x=some .local:=by first | exact .inl rfl | exact .inr rfl | assumption):PG X (.Name x pos) (Ox i):=by
  intro pins s σ H v u Q I r h
  exact wpAny_assign_Name (Vo I hN hi hx r (fun s' I'=>⟨_,H,I',h⟩) hf)
noncomputable def adl:TGs:=fun vs σ H Q=>vs=[]∧Q σ H
noncomputable def a8y (t:TG) (u:TGs):TGs:=fun vs σ H Q=>∃ v r,vs=v::r∧t v σ H fun σ' H'=>u r σ' H' Q
theorem v8:PGs X [] adl:=by
  intro pins s σ H vs us Q I r h
  obtain ⟨e,h⟩:=h
  subst e
  cases r
  exact assignInOrder_nil ⟨σ,H,I,h⟩
theorem j6 {e:Expr} {es:List Expr} {t:TG} {u:TGs} (h1:PG X e t) (h2:PGs X es u)
    (hs:(assignEach (e::es) X.env).map (·.2)=assign e X.env::(assignEach es X.env).map (·.2):=by rfl):PGs X (e::es) (a8y t u):=by
  intro pins s σ H vs us Q I r h
  obtain ⟨v,vr,e1,h⟩:=h
  subst e1
  cases r with
  | cons r rr =>
    rw [hs]
    refine assignInOrder_cons (thn (h1 pins s σ H _ _ _ I r h) fun _ s1 z0=>?_)
    obtain ⟨σ1,H1,I1,q1⟩:=z0
    exact h2 pins s1 σ1 H1 _ _ Q I1 rr q1
noncomputable def ady (K:PySem.W.Frag) (n:Nat) (t:TGs):TG:=fun v σ H Q=>∃ a xs,v=.ref a∧SqT K H a xs∧xs.length=n∧t xs σ H Q
theorem yq {es:List Expr} {k:Nat} {t:TGs} {n:Nat} (hc:X.calm=true) (h:PGs X es t)
    (hn:(assignEach es X.env).length=n:=by rfl) (hst:(assignEach es X.env).findIdx? (·.1)=none:=by rfl):PG X (.Tuple es k pos) (ady X.K n t):=by
  intro pins s σ H v u Q I r hw
  obtain ⟨a,xs,e1,hq,hl,hw⟩:=hw
  subst e1
  cases r
  obtain ⟨its,rv,ht,hz⟩:=I.tuple hq
  refine assign_Tuple_tuple (I.ok.hd hc) ht (by simp [hn,← hl,rv.length]) hst fun h' hx=>?_
  have I1:Inv X pins σ H { s with heap:=h' }:=I.kept (t':=s.toks) fun b o e=>hx b o (Nat.ne_of_lt (Heap.lt_size e)) e
  exact h pins _ σ H xs _ Q I1 (by simpa using rv) hw
noncomputable def a7e (te:TE) (g:TG):TS:=fun D σ H=>te σ H fun x H1=>g x σ H1 D.nx
theorem a4i {tg e:Expr} {te:TE} {g:TG} (he:PE X e te) (hg:PG X tg g) (hs:swapsWithSole [tg] e pos.line X.env=pure false:=by rfl) (hw:swappedStores [tg] e X.env=pure none:=by rfl)
    (h1:(assignEach [tg] X.env).map (·.2)=[assign tg X.env]:=by rfl):PS X (.Assign [tg] e pos) (a7e te g):=by
  intro pins s σ H D I h
  refine wpAny_Assign_stores (thn (he pins s σ H _ I h) fun v s1 z0=>?_) hs hw
  obtain ⟨x,H1,I1,r1,q1⟩:=z0
  rw [h1]
  exact thn (hg pins s1 σ H1 x v _ I1 r1 q1) fun _ s2 q=>q
theorem je {i:Nat} {x:Str} {e:Expr} {te:TE} {pos':Pos} (hN:X.N.Nodup) (hi:X.N[i]? = some x) (hx:Loc X.env.scope x) (he:PE X e te) (hs:swapsWith e (some (.Name x pos')) pos.line X.env=pure false:=by rfl) (hf:X.fn x=true∨X.env.scope.names.lookup x=some .local:=by first | exact .inl rfl | exact .inr rfl | assumption) :
    PS X (.Assign [.Name x pos'] e pos) (a7e te (Ox i)):=by
  intro pins s σ H D I h
  refine wpAny_Assign_Name (thn (he pins s σ H _ I h) fun v s1 z0=>?_) hs
  obtain ⟨y,H1,I1,r1,q1⟩:=z0
  exact Vo I1 hN hi hx r1 (fun s2 I2=>⟨_,H1,I2,q1⟩) hf
end
noncomputable section
variable {X:Cx} {pos:Pos}
end
structure It where
  go:Nat→Hp→Prop
  yld:Nat→Hp→V→Hp→Prop
  stop:Nat→Hp→Prop
noncomputable def Wa (X:Cx) (pins:List (Addr × Obj)) (H:Hp) (b:Addr):Prop :=
  H b=none∧b≠X.env.locals∧b∉X.fs∧(b∈X.ex∨X.s₀.heap.objs.size≤b)∧(∀ x c,X.env.cells.lookup x=some c→c≠b)∧∀ p∈X.pn++pins,p.1≠b
theorem Inv.aaf {X:Cx} {pins:List (Addr × Obj)} {σ:St} {H H':Hp} {s:Shared} {b:Addr} (I:Inv X pins σ H s) (hb:s.heap.objs.size≤b) (hn:H' b=none):Wa X pins H' b:=by
  refine ⟨hn,Nat.ne_of_gt (Nat.lt_of_lt_of_le I.lt hb),I.aer hb,.inr (Nat.le_trans I.sz hb),fun x c e z=>?_,fun p hp z=>?_⟩
  · obtain ⟨v,q⟩:=I.cell x c e
    exact absurd (Nat.lt_of_lt_of_le q.lt (by rw [z]; exact hb)) (Nat.lt_irrefl _)
  · exact absurd (Nat.lt_of_lt_of_le (Heap.lt_size (I.pin p hp).1) (by rw [z]; exact hb)) (Nat.lt_irrefl _)
structure Turn (P:Program) (w:World) (K:PySem.W.Frag) (tg:Expr) (J:It) (fp:List Addr) (it:Addr) (tn:Nat→Heap→Prop):Prop where
  mem:it∈fp
  obj:∀ i h,tn i h→∀ b∈fp,∃ o,h.get? b=some o∧∀ v,o.data≠.cell v
  keep:∀ i h h',tn i h→(∀ b∈fp,∀ o,h.get? b=some o→h'.get? b=some o)→tn i h'
  item:∀ (X:Cx),X.prog=P→X.w=w→X.K=K→X.calm=true→∀ (i:Nat) (pins:List (Addr × Obj)) (s:Shared) (σ:St) (H:Hp) (E:Value→Shared→Prop),Inv X pins σ H s→(∀ b∈fp,Wa X pins H b)→tn i s.heap→J.go i H →
    wpAny (model P w) X.A (pyNext (.ref it)) (fun r s1=>∃ u,r=some u ∧
      wpAny (model P w) X.A (letOwnedTupleGo tg (.ref it) u) (fun _ s2=>∃ x H',Inv X pins σ H' s2∧RelV x u∧J.yld i H x H'∧tn (i+1) s2.heap∧∀ b∈fp,H' b=none) E s1) E s
  done:∀ (X:Cx),X.prog=P→X.w=w→X.K=K→X.calm=true→∀ (i:Nat) (pins:List (Addr × Obj)) (s:Shared) (σ:St) (H:Hp) (E:Value→Shared→Prop),Inv X pins σ H s→(∀ b∈fp,Wa X pins H b)→tn i s.heap→J.stop i H →
    wpAny (model P w) X.A (pyNext (.ref it)) (fun r s1=>r=none∧Inv X pins σ H s1) E s
  self:∀ (A:Around) (i:Nat) (s:Shared) (Q:Value→Shared→Prop) (E:Value→Shared→Prop),tn i s.heap→Q (.ref it) s→wpAny (model P w) A (pyIter (.ref it)) Q E s
noncomputable abbrev TI:=St→Hp→(It→Hp→Prop)→Prop
noncomputable def PIE (X:Cx) (pins:List (Addr × Obj)) (σ:St) (tg:Expr) (R:It→Hp→Prop) (itv:Value) (s2:Shared):Prop :=
  ∃ (it:Addr) (fp:List Addr) (tn:Nat→Heap→Prop) (J:It) (H':Hp),itv=.ref it∧Inv X pins σ H' s2∧Turn X.prog X.w X.K tg J fp it tn∧tn 0 s2.heap∧(∀ b∈fp,Wa X pins H' b)∧R J H'
noncomputable def PI (X:Cx) (tg iter:Expr) (wi:TI):Prop :=
  ∀ (pins:List (Addr × Obj)) (s:Shared) (σ:St) (H:Hp) (R:It→Hp→Prop),Inv X pins σ H s→wi σ H R →
    wpAny (model X.prog X.w) X.A (eval iter X.env) (fun v s1=>wpAny (model X.prog X.w) X.A (pyIter v) (PIE X pins σ tg R) X.xe s1) X.xe s
theorem a5m {M:Model} {A:Around} {E:Value→Shared→Prop} {s:Shared} {tg:Expr} {it:Addr} {u:Value} {o:Obj} {n:String} {vs:Array Value} {Q:Unit→Shared→Prop} (ho:s.heap.get? it=some o) (hc:o.cls=.type n) (hd:o.data=.fields vs)
    (hn:["enumerate","zip","dict_itemiterator","dict_reverseitemiterator","odict_iterator","itertools.zip_longest","itertools.pairwise"].contains n=false) (hQ:Q () s):wpAny M A (letOwnedTupleGo tg (.ref it) u) Q E s:=by
  unfold letOwnedTupleGo
  cases tg <;> first
    | exact wpAny_pure hQ
    | (cases u <;> first
        | exact wpAny_pure hQ
        | (refine wpAny_bind (wpAny_load ho ?_)
           rw [hc,hd]
           show wpAny M A (if (["enumerate","zip","dict_itemiterator","dict_reverseitemiterator","odict_iterator","itertools.zip_longest","itertools.pairwise"].contains n&&vs[0]? == some (rawInt _))=true then _ else _) Q E s
           rw [if_neg (by intro h; rw [hn,Bool.false_and] at h; cases h)]
           exact wpAny_pure hQ))
noncomputable def Itl (K:PySem.W.Frag) (a:Addr):It :=
  ⟨fun i H=>∃ xs x,SqL K H a xs∧xs[i]? = some x,fun i H x H'=>H'=H∧∀ xs,SqL K H a xs→xs[i]? = some x,fun i H=>∃ xs,SqL K H a xs∧xs.length≤i⟩
noncomputable def Itt (K:PySem.W.Frag) (a:Addr):It :=
  ⟨fun i H=>∃ xs x,SqT K H a xs∧xs[i]? = some x,fun i H x H'=>H'=H∧∀ xs,SqT K H a xs→xs[i]? = some x,fun i H=>∃ xs,SqT K H a xs∧xs.length≤i⟩
noncomputable def Itr (lo:Int) (n:Nat):It:=⟨fun i _=>i<n,fun i H x H'=>H'=H∧x=.int (lo+i),fun i _=>n≤i⟩
theorem Zr {P:Program} {w:World} {K:PySem.W.Frag} {tg:Expr} (a it:Addr):Turn P w K tg (Itl K a) [it] it (fun i h=>h.IsListIter it a i) where
  mem:=by simp
  obj:=fun i h st b hb=>by
    have e:b=it:=by simpa using hb
    subst e
    obtain ⟨o,e,c,d⟩:=st
    exact ⟨o,e,fun v z=>by rw [d] at z; cases z⟩
  keep:=fun i h h' st k=>st.at fun o e=>k it (by simp) o e
  item:=by
    intro X hP hw hK hc i pins s σ H E I hf st hg
    subst hP hw hK
    obtain ⟨xs,x,hq,hx⟩:=hg
    obtain ⟨its,rv,p,hz⟩:=I.list hq
    obtain ⟨u,hu,ru⟩:=rv.get hx
    obtain ⟨f0,f1,f2,f3,f4,f5⟩:=hf it (by simp)
    refine wpAny_pyNext_list_item st p.isList (x:=u) (by simpa using hu) fun h' st' sb=>?_
    have I1:Inv X pins σ H { s with heap:=h' }:=I.turned (t':=s.toks) (fun b o hb e=>(sb.2 b hb).trans e) f0 f1 f3 f4 f5
    obtain ⟨o,e,c,d⟩:=id st'
    exact ⟨u,rfl,a5m (s:={ s with heap:=h' }) e c d (by decide) ⟨x,H,I1,ru,⟨rfl,fun ys hy=>by rw [I.a3v hy hq]; exact hx⟩,st',fun b hb=>(hf b hb).1⟩⟩
  done:=by
    intro X hP hw hK hc i pins s σ H E I hf st hg
    subst hP hw hK
    obtain ⟨xs,hq,hx⟩:=hg
    obtain ⟨its,rv,p,hz⟩:=I.list hq
    obtain ⟨f0,f1,f2,f3,f4,f5⟩:=hf it (by simp)
    have hl:=rv.length
    exact wpAny_pyNext_list_end (I.ok.hd hc) st p.isList (by simp; omega) fun h' eb=>⟨rfl,I.turned (t':=s.toks) (fun b o hb e=>eb b o hb e) f0 f1 f3 f4 f5⟩
  self:=fun _ _ _ _ _ st h=>wpAny_pyIter_listiter st h
theorem Xc {P:Program} {w:World} {K:PySem.W.Frag} {tg:Expr} (a it:Addr):Turn P w K tg (Itt K a) [it] it (fun i h=>h.IsTupleIter it a i) where
  mem:=by simp
  obj:=fun i h st b hb=>by
    have e:b=it:=by simpa using hb
    subst e
    obtain ⟨o,e,c,d⟩:=st
    exact ⟨o,e,fun v z=>by rw [d] at z; cases z⟩
  keep:=fun i h h' st k=>st.at fun o e=>k it (by simp) o e
  item:=by
    intro X hP hw hK hc i pins s σ H E I hf st hg
    subst hP hw hK
    obtain ⟨xs,x,hq,hx⟩:=hg
    obtain ⟨its,rv,p,hz⟩:=I.tuple hq
    obtain ⟨u,hu,ru⟩:=rv.get hx
    obtain ⟨f0,f1,f2,f3,f4,f5⟩:=hf it (by simp)
    refine wpAny_pyNext_tuple_item st (show s.heap.IsTuple a its.toArray from p) (x:=u) (by simpa using hu) fun h' st' sb=>?_
    have I1:Inv X pins σ H { s with heap:=h' }:=I.turned (t':=s.toks) (fun b o hb e=>(sb.2 b hb).trans e) f0 f1 f3 f4 f5
    obtain ⟨o,e,c,d⟩:=id st'
    exact ⟨u,rfl,a5m (s:={ s with heap:=h' }) e c d (by decide) ⟨x,H,I1,ru,⟨rfl,fun ys hy=>by rw [I.Y5 hy hq]; exact hx⟩,st',fun b hb=>(hf b hb).1⟩⟩
  done:=by
    intro X hP hw hK hc i pins s σ H E I hf st hg
    subst hP hw hK
    obtain ⟨xs,hq,hx⟩:=hg
    obtain ⟨its,rv,p,hz⟩:=I.tuple hq
    obtain ⟨f0,f1,f2,f3,f4,f5⟩:=hf it (by simp)
    have hl:=rv.length
    exact wpAny_pyNext_tuple_end (I.ok.hd hc) st (show s.heap.IsTuple a its.toArray from p) (by simp; omega) fun h' eb=>⟨rfl,I.turned (t':=s.toks) (fun b o hb e=>eb b o hb e) f0 f1 f3 f4 f5⟩
  self:=fun _ _ _ _ _ st h=>wpAny_pyIter_tupleiter st h
theorem Wt {P:Program} {w:World} {K:PySem.W.Frag} {tg:Expr} (it:Addr) (lo:Int) (n:Nat):Turn P w K tg (Itr lo n) [it] it (fun i h=>IsRangeIter h it (lo+(i:Nat) * 1) ((n:Int) - (i:Nat)) 1) where
  mem:=by simp
  obj:=fun i h st b hb=>by
    have e:b=it:=by simpa using hb
    subst e
    exact ⟨_,st,fun v z=>by
      have z':Data.fields _=Data.cell v:=z
      cases z'⟩
  keep:=fun i h h' st k=>k it (by simp) _ st
  item:=by
    intro X hP hw hK hc i pins s σ H E I hf st hg
    subst hP hw hK
    obtain ⟨f0,f1,f2,f3,f4,f5⟩:=hf it (by simp)
    have W:=Walks.range (prog:=X.prog) (w:=X.w) (I.ok.hd hc) it lo 1 n
    refine W.item i s _ _ hg st fun v h' tk hv st' kk=>?_
    obtain ⟨t,rfl⟩:=hv
    have I1:Inv X pins σ H { s with heap:=h',toks:=tk }:=I.turned (fun b o hb e=>kk b o (by simpa using hb) e) f0 f1 f3 f4 f5
    refine ⟨_,rfl,a5m (s:={ s with heap:=h',toks:=tk }) (n := "range_iterator") st' rfl rfl (by decide) ⟨.int (lo+i),H,I1,⟨t,?_⟩,⟨rfl,rfl⟩,st',fun b hb=>(hf b hb).1⟩⟩
    rw [Int.mul_one]
  done:=by
    intro X hP hw hK hc i pins s σ H E I hf st hg
    subst hP hw hK
    obtain ⟨f0,f1,f2,f3,f4,f5⟩:=hf it (by simp)
    exact wpAny_pyNext_range_end (I.ok.hd hc) st (by have:n≤i:=hg; omega) fun h' eb=>⟨rfl,I.turned (t':=s.toks) (fun b o hb e=>eb b o hb e) f0 f1 f3 f4 f5⟩
  self:=fun _ _ _ _ _ st h=>wpAny_pyIter_rangeiter st h
end L2
namespace L2
open PySem PySem.Spec PyProof.Rows
noncomputable section
variable {X:Cx} {tg:Expr}
theorem Uq {pins:List (Addr × Obj)} {σ:St} {H:Hp} {s:Shared} {R:It→Hp→Prop} {E:Value→Shared→Prop} {lo hi:Int} {t u v:Tok} {tk:Nat} (I:Inv X pins σ H s) (h1:-(2 ^ 62)≤lo) (h2:lo<2 ^ 62) (h3:-(2 ^ 62)≤hi) (h4:hi<2 ^ 62)
    (q:R (Itr lo (hi - lo).toNat) H):wpAny (model X.prog X.w) X.A (pyIter (.ref s.heap.objs.size)) (PIE X pins σ tg R) E { s with heap:=s.heap.push { cls:=.type "range",data:=.fields #[.int lo t,.int hi u,.int 1 v] },toks:=tk }:=by
  refine wpAny_pyIter_range (IsRange.new ..) (small_one h1 h2 h3 h4) ?_
  have I1:Inv X pins σ H { s with heap:=s.heap.push { cls:=.type "range",data:=.fields #[.int lo t,.int hi u,.int 1 v] },toks:=tk }:=I.kept fun b o e=>Heap.get?_push_of_some _ e
  refine ⟨(s.heap.push { cls:=.type "range",data:=.fields #[.int lo t,.int hi u,.int 1 v] }).objs.size,[(s.heap.push { cls:=.type "range",data:=.fields #[.int lo t,.int hi u,.int 1 v] }).objs.size],_,_,H,rfl,
    I1.kept (t':=tk) fun b o e=>Heap.get?_push_of_some _ e,Wt _ lo (hi - lo).toNat,?_,fun b hb=>?_,q⟩
  · have e1:lo+((0:Nat):Int) * 1=lo:=by simp
    have e2:(((hi - lo).toNat:Nat):Int) - ((0:Nat):Int)=Builtin.Range.rangeSize lo hi 1:=by rw [rangeSize_one]; split <;> omega
    show IsRangeIter _ _ (lo+((0:Nat):Int) * 1) ((((hi - lo).toNat:Nat):Int) - ((0:Nat):Int)) 1
    rw [e1,e2]
    exact Heap.get?_push_size _ rfl
  · have e:b=(s.heap.push { cls:=.type "range",data:=.fields #[.int lo t,.int hi u,.int 1 v] }).objs.size:=by simpa using hb
    subst e
    exact I1.aaf (Nat.le_refl _) (I1.hok.fresh (Nat.le_refl _))
noncomputable def ab0 (ta:TA):TI:=fun σ H R=>ta σ H fun vs H1=>∃ j:Int,vs=[.int j]∧-(2 ^ 62)≤j∧j<2 ^ 62∧R (Itr 0 j.toNat) H1
noncomputable def abq (ta:TA):TI:=fun σ H R=>ta σ H fun vs H1=>∃ i j:Int,vs=[.int i,.int j]∧(-(2 ^ 62)≤i∧i<2 ^ 62∧-(2 ^ 62)≤j∧j<2 ^ 62)∧R (Itr i (j - i).toNat) H1
theorem a0u {a:Expr} {ta:TA} {p pos:Pos} (hg:Gl X "range") (hm:X.mg "range" = none) (ha:PA X [a] ta) (hs:starEach [a] X.env=[(false,eval a X.env)]:=by rfl):PI X tg (.Call (.Name "range" p) [a] [] pos) (ab0 ta):=by
  intro pins s σ H R I h
  refine Call_ (Ml I hg hm boot_range (PyProof.Rows.callWith_type1 (thn (ha pos pins s σ H _ I h) fun us s1 z0=>?_) hs rfl))
  obtain ⟨vs,H1,I1,r1,q1⟩:=z0
  obtain ⟨j,e,q1,q2,q⟩:=q1
  subst e
  cases r1 with
  | cons r rr =>
    cases rr
    obtain ⟨t,rfl⟩:=r
    exact call_range_1 (Uq I1 (by omega) (by omega) q1 q2 (by simpa using q))
theorem Z1 {a b:Expr} {ta:TA} {p pos:Pos} (hg:Gl X "range") (hm:X.mg "range" = none) (ha:PA X [a,b] ta) (hs:starEach [a,b] X.env=[(false,eval a X.env),(false,eval b X.env)]:=by rfl) (hs2:starEach [b] X.env=[(false,eval b X.env)]:=by rfl) :
    PI X tg (.Call (.Name "range" p) [a,b] [] pos) (abq ta):=by
  intro pins s σ H R I h
  refine Call_ (Ml I hg hm boot_range (PyProof.Rows.callWith_type1 (thn (ha pos pins s σ H _ I h) fun us s1 z0=>?_) (by rw [hs,hs2]) (by rw [hs2]; rfl)))
  obtain ⟨vs,H1,I1,r1,q1⟩:=z0
  obtain ⟨i,j,e,⟨q1,q2,q3,q4⟩,q⟩:=q1
  subst e
  cases r1 with
  | cons r rr =>
    cases rr with
    | cons r' rr =>
      cases rr
      obtain ⟨t,rfl⟩:=r
      obtain ⟨t',rfl⟩:=r'
      exact call_range_2 (Uq I1 q1 q2 q3 q4 q)
noncomputable def aem (wi:TI) (g:TG) (tb:TS):TS:=fun D σ H=>wi σ H fun J H1=>∃ W:Nat→Nat→St→Hp→Prop,(∃ m,W 0 m σ H1)∧∀ i m σ H,W i m σ H →
  (J.stop i H∧D.nx σ H)∨(J.go i H∧∃ N:St→Hp→Prop,(∀ σ' H',N σ' H'→∃ m',m'<m∧W (i+1) m' σ' H')∧∀ x H',J.yld i H x H'→g x σ H' fun σ2 H2=>tb { D with nx:=N,ct:=N,bk:=D.nx } σ2 H2)
noncomputable def Qt (fp:List Addr) (h:Heap):List (Addr × Obj):=fp.filterMap fun b=>(h.get? b).map fun o=>(b,o)
theorem Cg {fp:List Addr} {h:Heap} {b:Addr} {o:Obj} (hb:b∈fp) (e:h.get? b=some o):(b,o)∈Qt fp h:=List.mem_filterMap.mpr ⟨b,hb,by rw [e]; rfl⟩
theorem Zi {fp:List Addr} {h:Heap} {p:Addr × Obj} (hp:p∈Qt fp h):p.1∈fp∧h.get? p.1=some p.2:=by
  obtain ⟨b,hb,e⟩:=List.mem_filterMap.mp hp
  cases q:h.get? b with
  | none=>rw [q] at e; cases e
  | some o =>
    rw [q] at e
    have e':(b,o)=p:=Option.some.inj e
    subst e'
    exact ⟨hb,q⟩
theorem Inv.pinned {pins:List (Addr × Obj)} {σ:St} {H:Hp} {s:Shared} {fp:List Addr} (I:Inv X pins σ H s) (hf:∀ b∈fp,Wa X pins H b) (ho:∀ b∈fp,∃ o,s.heap.get? b=some o∧∀ v,o.data≠.cell v):Inv X (pins++Qt fp s.heap) σ H s :=
  I.Zb fun p hp=>(List.mem_append.mp hp).elim (fun z=>I.pin p (List.mem_append_right _ z)) fun z=>by
    obtain ⟨hb,e⟩:=Zi z
    obtain ⟨f0,f1,f2,_⟩:=hf p.1 hb
    obtain ⟨o,e',d⟩:=ho p.1 hb
    rw [e] at e'; cases e'
    exact ⟨e,f0,f1,f2,d⟩
theorem Inv.Gj {pins pl:List (Addr × Obj)} {σ:St} {H:Hp} {s:Shared} (I:Inv X (pins++pl) σ H s):Inv X pins σ H s:=I.Zb fun p hp=>I.pin p (List.mem_append_right _ (List.mem_append_left _ hp))
theorem a8x {iter:Expr} {body:List Stmt} {wi:TI} {g:TG} {tb:TS} {pos:Pos} (hp:PassesOwn (model X.prog X.w) X.A X.env X.xe) (hc:X.calm=true) (hi:PI X tg iter wi) (hg:PG X tg g) (hb:PSs X body tb)
    (hs:∀ x,foldedSetIterable iter X.env x=pure x:=by intro _; rfl):PS X (.For tg iter body [] pos) (aem wi g tb):=by
  intro pins s σ H D I h
  refine wpAny_For (thn (hi pins s σ H _ I h) fun v s1 h1=>thn h1 fun itv s2 h2=>?_) hs
  obtain ⟨it,fp,tn,J,H2,e,I2,T,st2,f2,W,⟨m0,w0⟩,turn⟩:=h2
  subst e
  have stat:∀ {H':Hp},(∀ b∈fp,H' b=none)→∀ b∈fp,Wa X pins H' b:=fun hn b hb=>⟨hn b hb,(f2 b hb).2⟩
  refine codeAny_forLoop_any (fun n s'=>∃ i σ' H',Inv X pins σ' H' s'∧tn i s'.heap∧(∀ b∈fp,H' b=none)∧W i n σ' H') ?_ m0 ⟨0,σ,H2,I2,st2,fun b hb=>(f2 b hb).1,w0⟩
  rintro n s3 ⟨i,σ3,H3,I3,st3,fr3,w3⟩
  rcases turn i n σ3 H3 w3 with ⟨stop,qn⟩ | ⟨go,N,hN,step⟩
  · refine wpAny_passesOwn hp (thn (T.done X rfl rfl rfl hc i pins s3 σ3 H3 X.xe I3 (stat fr3) st3 stop) fun r s4 z0=>?_)
    obtain ⟨hr,I4⟩:=z0
    subst hr
    exact wpAny_execs_nil ⟨σ3,H3,I4,qn⟩
  · refine wpAny_passesOwn hp (thn (T.item X rfl rfl rfl hc i pins s3 σ3 H3 X.xe I3 (stat fr3) st3 go) fun r s4 z0=>?_)
    obtain ⟨u,hr,h4⟩:=z0
    subst hr
    refine wpAny_passesOwn hp (thn h4 fun _ s5 z0=>?_)
    obtain ⟨x,H5,I5,r5,y5,st5,fr5⟩:=z0
    have I5':=I5.pinned (stat fr5) (T.obj _ _ st5)
    refine wpAny_passesOwn hp (thn (hg _ s5 σ3 H5 x u _ I5' r5 (step x H5 y5)) fun _ s6 z0=>?_)
    obtain ⟨σ6,H6,I6,q6⟩:=z0
    refine wpAny_passesOwn hp (thn (hb _ s6 σ6 H6 _ I6 q6) fun f s7 q7=>?_)
    have again:∀ {σ7:St} {H7:Hp},Inv X (pins++Qt fp s5.heap) σ7 H7 s7→N σ7 H7→∃ m,m<n∧∃ i σ' H',Inv X pins σ' H' s7∧tn i s7.heap∧(∀ b∈fp,H' b=none)∧W i m σ' H':=fun {σ7 H7} I7 n7=>by
      obtain ⟨m',hm,w7⟩:=hN σ7 H7 n7
      refine ⟨m',hm,i+1,σ7,H7,I7.Gj,T.keep _ _ _ st5 fun b hb o e=>(I7.pin (b,o) (List.mem_append_right _ (List.mem_append_right _ (Cg hb e)))).1,fun b hb=>?_,w7⟩
      obtain ⟨o,e,d⟩:=T.obj _ _ st5 b hb
      exact (I7.pin (b,o) (List.mem_append_right _ (List.mem_append_right _ (Cg hb e)))).2.1
    cases f with
    | next=>obtain ⟨σ7,H7,I7,n7⟩:=q7; exact again I7 n7
    | cont=>obtain ⟨σ7,H7,I7,n7⟩:=q7; exact again I7 n7
    | brk=>obtain ⟨σ7,H7,I7,q7⟩:=q7; exact ⟨σ7,H7,I7.Gj,q7⟩
    | ret v=>obtain ⟨x7,σ7,H7,I7,r7,q7⟩:=q7; exact ⟨x7,σ7,H7,I7.Gj,r7,q7⟩
end
end L2
namespace L2
open PySem PySem.Spec PyProof.Rows
noncomputable abbrev R2:=V→V→Hp→VK→Prop
noncomputable def OpR (X:Cx) (f:Value→Value→Sem Value) (r:R2):Prop :=
  ∀ (pins:List (Addr × Obj)) (s:Shared) (σ:St) (H:Hp) (x y:V) (v u:Value) (Q:VK),Inv X pins σ H s→RelV x v→RelV y u→r x y H Q →
    wpAny (model X.prog X.w) X.A (f v u) (EP X pins σ Q) X.xe s
noncomputable def UnR (X:Cx) (f:Value→Sem Value) (r:V→Hp→VK→Prop):Prop :=
  ∀ (pins:List (Addr × Obj)) (s:Shared) (σ:St) (H:Hp) (x:V) (v:Value) (Q:VK),Inv X pins σ H s→RelV x v→r x H Q →
    wpAny (model X.prog X.w) X.A (f v) (EP X pins σ Q) X.xe s
noncomputable def Fo (X:Cx) (f:Value) (r:List V→Hp→VK→Prop):Prop :=
  ∀ (pins:List (Addr × Obj)) (s:Shared) (σ:St) (H:Hp) (xs:List V) (us:List Value) (Q:VK),Inv X pins σ H s→Vals xs us→r xs H Q →
    wpAny (model X.prog X.w) X.A (call f us) (EP X pins σ Q) X.xe s
noncomputable def tOp (r:R2) (ta tb:TE):TE:=fun σ H Q=>ta σ H fun x H1=>tb σ H1 fun y H2=>r x y H2 Q
noncomputable def tUn (r:V→Hp→VK→Prop) (ta:TE):TE:=fun σ H Q=>ta σ H fun x H1=>r x H1 Q
noncomputable def rI (C:Int→Int→Prop) (g:Int→Int→V):R2:=fun x y H Q=>∃ i j,x=.int i∧y=.int j∧C i j∧Q (g i j) H
noncomputable def rI0 (g:Int→Int→V):R2:=fun x y H Q=>∃ i j,x=.int i∧y=.int j∧Q (g i j) H
noncomputable def rU (g:Int→V):V→Hp→VK→Prop:=fun x H Q=>∃ i,x=.int i∧Q (g i) H
noncomputable section
variable {X:Cx} {a b c:Expr} {ta tb tc:TE} {pos:Pos}
theorem acw (ha:PE X a ta) (hb:PE X b tb) {pins:List (Addr × Obj)} {s:Shared} {σ:St} {H:Hp} {R:V→V→Hp→Prop} (I:Inv X pins σ H s)
    (h:ta σ H fun x H1=>tb σ H1 fun y H2=>R x y H2) {Q:Value→Shared→Prop} {f:Value→Value→Sem Value}
    (hf:∀ v u s2 x y H2,Inv X pins σ H2 s2→RelV x v→RelV y u→R x y H2→wpAny (model X.prog X.w) X.A (f v u) Q X.xe s2) :
    wpAny (model X.prog X.w) X.A (eval a X.env) (fun v s₁=>wpAny (model X.prog X.w) X.A (eval b X.env) (fun u s₂=>wpAny (model X.prog X.w) X.A (f v u) Q X.xe s₂) X.xe s₁) X.xe s:=by
  refine thn (ha pins s σ H _ I h) fun v s1 z0=>?_
  obtain ⟨x,H1,I1,r1,q1⟩:=z0
  refine thn (hb pins s1 σ H1 _ I1 q1) fun u s2 z0=>?_
  obtain ⟨y,H2,I2,r2,q2⟩:=z0
  exact hf v u s2 x y H2 I2 r1 r2 q2
theorem aap {op:Operator} {r:R2} (ho:OpR X (binaryOp op) r) (ha:PE X a ta) (hb:PE X b tb):PE X (.BinOp a op b pos) (tOp r ta tb):=by
  intro pins s σ H Q I h
  exact wpAny_BinOp (acw ha hb I h fun v u s2 x y H2 I2 rx ry q=>ho pins s2 σ H2 x y v u Q I2 rx ry q)
theorem acq {op:UnaryOp} {r:V→Hp→VK→Prop} (ho:UnR X (unaryOp op) r) (ha:PE X a ta):PE X (.UnaryOp op a pos) (tUn r ta):=by
  intro pins s σ H Q I h
  exact UnaryOp_ (thn (ha pins s σ H _ I h) fun v s1 z7=>by obtain ⟨x,H1,I1,r1,q1⟩:=z7; exact ho pins s1 σ H1 x v Q I1 r1 q1)
theorem opI {f:Value→Value→Sem Value} {C:Int→Int→Prop} {g:Int→Int→Int}
    (rule:∀ (i j:Int) (t u:Tok) (s:Shared) (Q:Value→Shared→Prop) (E:Value→Shared→Prop),C i j→Q (.int (g i j) s.toks) { s with toks:=s.toks+1 }→wpAny (model X.prog X.w) X.A (f (.int i t) (.int j u)) Q E s) :
    OpR X f (rI C fun i j=>.int (g i j)):=by
  intro pins s σ H x y v u Q I rx ry h
  obtain ⟨i,j,rfl,rfl,hc,q⟩:=h
  obtain ⟨t,rfl⟩:=rx
  obtain ⟨t',rfl⟩:=ry
  exact rule i j t t' s _ _ hc ⟨.int (g i j),H,I.tok _,⟨_,rfl⟩,q⟩
theorem adq {f:Value→Value→Sem Value} {g:Int→Int→Int}
    (rule:∀ (i j:Int) (t u:Tok) (s:Shared) (Q:Value→Shared→Prop) (E:Value→Shared→Prop),Q (.int (g i j) s.toks) { s with toks:=s.toks+1 }→wpAny (model X.prog X.w) X.A (f (.int i t) (.int j u)) Q E s) :
    OpR X f (rI0 fun i j=>.int (g i j)):=by
  intro pins s σ H x y v u Q I rx ry h
  obtain ⟨i,j,rfl,rfl,q⟩:=h
  obtain ⟨t,rfl⟩:=rx
  obtain ⟨t',rfl⟩:=ry
  exact rule i j t t' s _ _ ⟨.int (g i j),H,I.tok _,⟨_,rfl⟩,q⟩
theorem adb {f:Value→Value→Sem Value} {g:Int→Int→Bool}
    (rule:∀ (i j:Int) (t u:Tok) (s:Shared) (Q:Value→Shared→Prop) (E:Value→Shared→Prop),Q (.bool (g i j)) s→wpAny (model X.prog X.w) X.A (f (.int i t) (.int j u)) Q E s) :
    OpR X f (rI0 fun i j=>.bl (g i j)):=by
  intro pins s σ H x y v u Q I rx ry h
  obtain ⟨i,j,rfl,rfl,q⟩:=h
  obtain ⟨t,rfl⟩:=rx
  obtain ⟨t',rfl⟩:=ry
  exact rule i j t t' s _ _ ⟨.bl (g i j),H,I,rfl,q⟩
noncomputable def ae8 (i j:Int):Prop:=0≤j∧j≤1000000∧i.natAbs<2 ^ 64
noncomputable def ac7 (i j:Int):Prop:=(-(2 ^ 64)<i∧i<2 ^ 64)∨(-(2 ^ 64)<j∧j<2 ^ 64)
theorem ac7.ok {i j:Int} (h:ac7 i j):IntMulOk i j:=by
  rcases h with ⟨h1,h2⟩ | ⟨h1,h2⟩
  · exact .of_left (intBits_le_64 h1 h2)
  · exact .of_right (intBits_le_64 h1 h2)
theorem a8v:OpR X (binaryOp .Add) (rI0 fun i j=>.int (i+j)):=adq fun _ _ _ _ _ _ _ q=>add_int q
theorem a7v:OpR X (binaryOp .Sub) (rI0 fun i j=>.int (i - j)):=adq fun _ _ _ _ _ _ _ q=>sub_int q
theorem a7r:OpR X (binaryOp .Mult) (rI ac7 fun i j=>.int (i * j)):=opI fun _ _ _ _ _ _ _ hc q=>mul_int q hc.ok
theorem a80:OpR X (binaryOp .Mod) (rI (fun _ j=>0<j) fun i j=>.int (i%j)):=opI fun i j _ _ _ _ _ hc q=>by
  have h1:(0:Int)<j:=hc
  exact mod_int' (by omega) (by rw [Int.fmod_eq_emod_of_nonneg i (by omega)]; exact q)
theorem a9j:OpR X (binaryOp .Pow) (rI ae8 fun i j=>.int (i ^ j.toNat)):=opI fun _ _ _ _ _ _ _ hc q=>pow_int_small hc.1 hc.2.1 hc.2.2 q
theorem unI {f:Value→Sem Value} {g:Int→Int}
    (rule:∀ (i:Int) (t:Tok) (s:Shared) (Q:Value→Shared→Prop) (E:Value→Shared→Prop),Q (.int (g i) s.toks) { s with toks:=s.toks+1 }→wpAny (model X.prog X.w) X.A (f (.int i t)) Q E s) :
    UnR X f (rU fun i=>.int (g i)):=by
  intro pins s σ H x v Q I rx h
  obtain ⟨i,rfl,q⟩:=h
  obtain ⟨t,rfl⟩:=rx
  exact rule i t s _ _ ⟨.int (g i),H,I.tok _,⟨_,rfl⟩,q⟩
theorem a8h:UnR X (unaryOp .USub) (rU fun i=>.int (-i)):=unI fun _ _ _ _ _ q=>neg_int q
end
noncomputable def Xk:V→V→Bool
  | .non,.non=>true | .non,.int _=>true | .int _,.non=>true | .non,.bl _=>true | .bl _,.non=>true | .non,.str _=>true | .str _,.non=>true
  | .int _,.int _=>true | .bl _,.bl _=>true | .str _,.str _=>true | .byt _,.byt _=>true
  | .int _,.str _=>true | .str _,.int _=>true | .bl _,.str _=>true | .str _,.bl _=>true
  | _,_=>false
noncomputable section
variable {X:Cx} {a b c:Expr} {ta tb tc:TE} {pos:Pos}
theorem acu:OpR X (compareOp .Lt) (rI0 fun i j=>.bl (decide (i<j))):=adb fun _ _ _ _ _ _ _ q=>lt_int q
theorem aat:OpR X (compareOp .LtE) (rI0 fun i j=>.bl (decide (i≤j))):=adb fun _ _ _ _ _ _ _ q=>le_int q
theorem abo:OpR X (compareOp .Gt) (rI0 fun i j=>.bl (decide (j<i))):=adb fun _ _ _ _ _ _ _ q=>gt_int q
theorem OpR.or {f:Value→Value→Sem Value} {r r':R2} (h:OpR X f r) (h':OpR X f r'):OpR X f (fun x y H Q=>r x y H Q∨r' x y H Q):=by
  intro pins s σ H x y v u Q I rx ry q
  rcases q with q | q
  · exact h pins s σ H x y v u Q I rx ry q
  · exact h' pins s σ H x y v u Q I rx ry q
theorem jk (b:Expr) {op:CmpOp} (h:op≠.In:=by decide) (h2:op≠.NotIn:=by decide):behindInMarks op b=false:=by
  have e1:(op==CmpOp.In)=false:=by cases op <;> first | rfl | exact absurd rfl h
  have e2:(op==CmpOp.NotIn)=false:=by cases op <;> first | rfl | exact absurd rfl h2
  cases b <;> simp [behindInMarks,e1,e2]
theorem a6r {op:CmpOp} {r:R2} (ho:OpR X (compareOp op) r) (ha:PE X a ta) (hb:PE X b tb) (hm:behindInMarks op b=false):PE X (.Compare a [op] [b] pos) (tOp r ta tb):=by
  intro pins s σ H Q I h
  exact wpAny_Compare1 (acw ha hb I h fun v u s2 x y H2 I2 rx ry q=>ho pins s2 σ H2 x y v u Q I2 rx ry q) hm
noncomputable def a8r (t:TE):TT:=fun σ H Q=>t σ H fun x H'=>∃ k,x=.bl k∧Q k H'
theorem a5w {op:CmpOp} {r:R2} (ho:OpR X (compareOp op) r) (ha:PE X a ta) (hb:PE X b tb) (hm:behindInMarks op b=false):PT X (.Compare a [op] [b] pos) (a8r (tOp r ta tb)):=by
  intro pins s σ H Q I h
  refine wpAny_isTrue_Compare1 (thn (ha pins s σ H _ I h) fun v s1 ⟨x,H1,I1,r1,q1⟩=>thn (hb pins s1 σ H1 _ I1 q1) fun u s2 ⟨y,H2,I2,r2,q2⟩ =>
    thn (ho pins s2 σ H2 x y v u _ I2 r1 r2 q2) fun c s3 ⟨z,H3,I3,r3,k,e,q3⟩=>?_) hm
  subst e
  cases r3
  exact wpAny_truthy_bool ⟨H3,I3,q3⟩
theorem Q5:(sizeLine:Nat)<2 ^ 63:=by rw [sizeLine_eq]; decide
theorem Wm:OpR X (binaryOp .Add) (fun x y H Q=>∃ i j,x=.str i∧y=.str j∧i.length+j.length≤sizeLine∧Q (.str (i++j)) H):=by
  intro pins s σ H x y v u Q I rx ry h
  obtain ⟨i,j,rfl,rfl,hz,q⟩:=h
  obtain ⟨t,rfl⟩:=rx
  obtain ⟨t',rfl⟩:=ry
  exact add_str (fun t' tk=>⟨.str (i++j),H,I.tok _,⟨_,rfl⟩,q⟩) hz
theorem vals1 {x:V} {us:List Value} (r:Vals [x] us):∃ u,us=[u]∧RelV x u:=by
  cases r with
  | cons r1 r2=>cases r2; exact ⟨_,rfl,r1⟩
theorem Qf:Fo X (.type "int") (fun xs H Q=>(∃ i,xs=[.int i]∧Q (.int i) H)∨∃ k,xs=[.bl k]∧Q (.int (if k then 1 else 0)) H):=by
  intro pins s σ H xs us Q I r h
  rcases h with ⟨i,rfl,q⟩ | ⟨k,rfl,q⟩
  · obtain ⟨u,rfl,t,rfl⟩:=vals1 r
    exact call_int_int ⟨.int i,H,I,⟨_,rfl⟩,q⟩
  · obtain ⟨u,rfl,r1⟩:=vals1 r
    cases r1
    exact call_int_bool ⟨.int (if k then 1 else 0),H,I.tok _,⟨_,rfl⟩,q⟩
end
end L2
namespace L2
open PySem PySem.Spec PyProof.Rows
structure ad5 (h:Heap) (x dx C:Addr) (mA:Str→Option Value):Prop where
  obj:h.get? x=some (PySem.W.instObj C dx)
  ns:h.Ns1 dx mA
  ne:dx≠x
theorem a0a {h:Heap} {dx:Addr} {mA:Str→Option Value} (n:h.Ns1 dx mA):∃ od,h.get? dx=some od∧∀ name,PySem.W.lookIn name od=some (mA name):=by
  obtain ⟨o,es,ep,ho,hd,hk,_,hm⟩:=n
  refine ⟨o,ho,fun name=>?_⟩
  have e:=hm name
  unfold nsFind findBy at e
  rw [← Array.find?_toList] at e
  unfold PySem.W.lookIn
  rw [hd]
  dsimp only
  split
  · rename_i y q
    rw [q] at e
    exact congrArg some e
  · rename_i q
    rw [q] at e
    have a:es.toList.any (·.refKey)=false:=by
      rw [List.any_eq_false]
      intro y hy
      obtain ⟨z,t,hkey⟩:=hk y (Array.mem_toList_iff.mp hy)
      simp [DictEntry.refKey,hkey]
    have a':¬ es.toList.any (·.refKey)=true:=by rw [a]; exact Bool.false_ne_true
    rw [if_neg a']
    exact congrArg some e
theorem ad5.look {h:Heap} {x dx C:Addr} {mA:Str→Option Value} (I:ad5 h x dx C mA):∃ od,PySem.W.InstAt h x (PySem.W.instObj C dx) C (some od)∧∀ name,PySem.W.lookIn name od=some (mA name) :=
  let ⟨od,ho,hl⟩:=a0a I.ns
  ⟨od,⟨I.obj,rfl,rfl,ho⟩,hl⟩
noncomputable section
variable {prog:Program} {w:World} {A:Around} {E:Value→Shared→Prop} {s:Shared} {K:PySem.W.Frag} {x dx C f:Addr} {mA:Str→Option Value} {name:Str} {v:Value}
end
theorem Og.some_of {v:V} {o:Option Value} (r:Og (some v) o):∃ u,o=some u∧RelV v u:=by
  cases o with
  | none=>exact (show False from r).elim
  | some u=>exact ⟨u,rfl,r⟩
theorem Og.none_of {o:Option Value} (r:Og none o):o=none:=by
  cases o with
  | none=>rfl
  | some u=>exact (show False from r).elim
noncomputable section
variable {P:Program} {w:World} {H H':Hp} {h h':Heap} {a C dx:Addr} {fs fs':List (Str × V)}
theorem a6b (hok:HOk P w H h) (e:H a=some (.ins C dx fs)):∃ mA,ad5 h a dx C mA∧(∀ f,Og (fs.lookup f) (mA f))∧PySem.Within mA (fs.map (·.1))∧fs.length≤1000∧H dx=some (.own a):=by
  obtain ⟨d,z,ne,ob,mA,n,r,q⟩:=(show yr P w H h a (.ins C dx fs) from hok a _ e)
  exact ⟨mA,⟨ob,n,ne⟩,r,q,z,d⟩
end
structure Cls (K:PySem.W.Frag) (C:Addr):Prop where
  pg:PySem.W.plainGet K C Str.empty=true
  hd:PySem.W.hasDictIn K C=true
  po:PySem.W.plainOver K C=true
  sa:PySem.W.findIn K (.ref C) "__setattr__" = some (some (.builtin "object.__setattr__"))
theorem Cls.get {K:PySem.W.Frag} {C:Addr} (c:Cls K C) (f:Str):PySem.W.plainGet K C f=true:=c.pg
structure Con (K:PySem.W.Frag) (C:Addr) (f:Str) (v:V) (u:Value):Prop where
  at_:PySem.W.findIn K (.ref C) f=some (some u)
  rel:RelV v u
  get:PySem.W.specialIn K u "__get__" = some none
  cp:PySem.W.copiedNames.contains f=false
structure Meth (K:PySem.W.Frag) (C:Addr) (m:Str) (f:Addr):Prop where
  at_:PySem.W.findIn K (.ref C) m=some (some (.ref f))
  fn:PySem.W.isFn K (.ref f)=true
  kp:PySem.W.keepIn K (.ref f)=true
noncomputable section
variable {X:Cx} {pins:List (Addr × Obj)} {σ:St} {H:Hp} {s:Shared} {a C dx:Addr} {fs:List (Str × V)} {f:Str} {v:V} {A:Around} {E:Value→Shared→Prop}
end
noncomputable section
variable {X:Cx} {o e value:Expr} {f:Str} {pos pos' tpos:Pos} {ta tv:TE}
end
noncomputable section
variable {X:Cx} {pins:List (Addr × Obj)} {σ:St} {H:Hp} {s:Shared} {A:Around} {E:Value→Shared→Prop} {Q:Value→Shared→Prop} {c:Value} {b:Bool}
inductive Xo (K:PySem.W.Frag) (H:Hp):V→Value→Prop where
  | non:Xo K H .non (.type "NoneType")
  | bl (x:Bool):Xo K H (.bl x) (.type "bool")
  | int (i:Int):Xo K H (.int i) (.type "int")
  | str (x:Str):Xo K H (.str x) (.type "str")
  | flt (x:UInt64):Xo K H (.flt x) (.type "float")
  | lst {a:Addr} {xs:List V} (e:H a=some (.lst xs)):Xo K H (.ref a) (.type "list")
  | frz {a:Addr} {o:Obj} {xs:List V} (e:H a=some (.frz o (.lst xs))):Xo K H (.ref a) (.type "list")
  | tup {a:Addr} {xs:List V} (e:H a=some (.tup xs)):Xo K H (.ref a) (.type "tuple")
  | dK {a:Addr} {kvs:List (Key × V)} (e:H a=some (.dK kvs)):Xo K H (.ref a) (.type "dict")
  | dT {a:Addr} {kvs:List (List Key × V)} (e:H a=some (.dT kvs)):Xo K H (.ref a) (.type "dict")
  | ins {a C dx:Addr} {fs:List (Str × V)} (e:H a=some (.ins C dx fs)) (cl:Cls K C) (ha:PySem.W.findIn K (.ref C) "__class__" = some (some (.builtin "object.__class__")))
      (hn:PySem.W.specialIn K (.builtin "object.__class__") "__get__" = some (some (.builtin "getset_descriptor.__get__"))) (htk:PySem.W.takesIn K (.builtin "object.__class__")=some true)
      (hm:PySem.W.mroIn K C (.type "object")=some true):Xo K H (.ref a) (.ref C)
theorem Ga {x:V} {u t:Value} (I:Inv X pins σ H s) (rx:RelV x u) (ty:Xo X.K H x t) (e:PySem.W.kitOne X.K t c=some b) (h:∀ tk,Q (.bool b) { s with toks:=tk }) :
    wpAny (model X.prog X.w) A (call (.builtin "isinstance") [u,c]) Q E s:=by
  cases ty with
  | non=>cases (show u=Value.none from rx); exact PySem.W.kia_one PySem.W.kitx_none I.kIn True.intro e (fun z=>nomatch z) h
  | bl y=>cases (show u=Value.bool y from rx); exact PySem.W.kia_one PySem.W.kitx_bool I.kIn True.intro e (fun z=>nomatch z) h
  | int i=>obtain ⟨t,q⟩:=(show ∃ t,u=Value.int i t from rx); cases q; exact PySem.W.kia_one PySem.W.kitx_int I.kIn True.intro e (fun z=>nomatch z) h
  | str y=>obtain ⟨t,q⟩:=(show ∃ t,u=Value.str y t from rx); cases q; exact PySem.W.kia_one PySem.W.kitx_str I.kIn True.intro e (fun z=>nomatch z) h
  | flt y=>obtain ⟨t,q⟩:=(show ∃ t,u=Value.float y t from rx); cases q; exact PySem.W.kia_one PySem.W.kitx_float I.kIn True.intro e (fun z=>nomatch z) h
  | @lst a xs ea =>
    cases (show u=Value.ref a from rx)
    obtain ⟨_,_,n,_,h1⟩:=(show yr X.prog X.w H s.heap a (.lst xs) from I.hok a _ ea)
    exact PySem.W.kia_one PySem.W.kitx_list I.kIn ⟨_,h1,rfl⟩ e (fun z=>nomatch z) h
  | @frz a ob xs ea =>
    cases (show u=Value.ref a from rx)
    obtain ⟨_,_,_,n,_,h1⟩:=(show yr X.prog X.w H s.heap a (.frz ob (.lst xs)) from I.hok a _ ea)
    exact PySem.W.kia_one PySem.W.kitx_list I.kIn ⟨_,h1,rfl⟩ e (fun z=>nomatch z) h
  | @tup a xs ea =>
    cases (show u=Value.ref a from rx)
    obtain ⟨_,_,_,p⟩:=(show yr X.prog X.w H s.heap a (.tup xs) from I.hok a _ ea)
    obtain ⟨o,h1,h2,_⟩:=p
    exact PySem.W.kia_one PySem.W.kitx_tuple I.kIn ⟨o,h1,h2⟩ e (fun z=>nomatch z) h
  | @dK a kvs ea =>
    cases (show u=Value.ref a from rx)
    obtain ⟨_,_,vs,_,p⟩:=(show yr X.prog X.w H s.heap a (.dK kvs) from I.hok a _ ea)
    obtain ⟨o,es,ep,h1,h2,_⟩:=p
    exact PySem.W.kia_one PySem.W.kitx_dict I.kIn ⟨o,h1,h2.1⟩ e (fun z=>nomatch z) h
  | @dT a kvs ea =>
    cases (show u=Value.ref a from rx)
    obtain ⟨_,_,xs,_,o,es,ep,h1,h2,_⟩:=(show yr X.prog X.w H s.heap a (.dT kvs) from I.hok a _ ea)
    exact PySem.W.kia_one PySem.W.kitx_dict I.kIn ⟨o,h1,h2.1⟩ e (fun z=>nomatch z) h
  | @ins a C dx fs ea cl ha hn htk hm =>
    cases (show u=Value.ref a from rx)
    obtain ⟨mA,O,_⟩:=a6b I.hok ea
    obtain ⟨od,J,_⟩:=O.look
    exact PySem.W.kia_one (PySem.W.kitx_own (cl.get _) cl.hd ha hn htk hm) I.kIn J e (fun z=>nomatch z) h
end
end L2
namespace L2
open PySem PySem.Spec PyProof.Rows
structure K3 (k:Nat) (A:Around):Prop where
  hd:A.handled=none
  dp:A.depth+3 * k+5<recursionLimit
  un:A.units+16 * k+200<cLine
theorem K3.mono {j k:Nat} {A:Around} (r:K3 k A) (h:j≤k):K3 j A:=⟨r.hd,by have:=r.dp; omega,by have:=r.un; omega⟩
theorem K3.deeper {k:Nat} {A:Around} (r:K3 (k+1) A) (env:Env):K3 k (A.deeper env) :=
  ⟨r.hd,by have:=r.dp; show A.depth+1+3 * k+5<_; omega,by have:=r.un; show A.units+3+16 * k+200<_; omega⟩
theorem K3.depth {k:Nat} {A:Around} (r:K3 k A):A.depth<recursionLimit:=by have:=r.dp; omega
theorem K3.units {k:Nat} {A:Around} (r:K3 k A):A.units+64<cLine:=by have:=r.un; omega
noncomputable def a8g:TA:=fun _ H Q=>Q [] H
noncomputable def Wn (ta:TE) (tr:TA):TA:=fun σ H Q=>ta σ H fun x H1=>tr σ H1 fun xs H2=>Q (x::xs) H2
noncomputable section
variable {X:Cx} {e:Expr} {es:List Expr} {te:TE} {t:TA} {pos:Pos}
theorem wu:PA X [] a8g:=fun _ _ _ _ H Q I h=>Calls.spliced_nil ⟨[],H,I,.nil,h⟩
theorem qz (ha:PE X e te) (hr:PA X es t) (hs:starEach (e::es) X.env=(false,eval e X.env)::starEach es X.env:=by rfl):PA X (e::es) (Wn te t):=by
  intro pos pins s σ H Q I h
  rw [hs]
  show wpAny _ _ (spliced ((false,eval e X.env)::backTo pos (starEach es X.env))) _ _ s
  refine Calls.spliced_cons (thn (ha pins s σ H _ I h) fun u s1 z0=>?_)
  obtain ⟨x,H1,I1,r1,q1⟩:=z0
  exact thn (hr pos pins s1 σ H1 _ I1 q1) fun us s2 ⟨xs,H2,I2,r2,q2⟩=>⟨x::xs,H2,I2,.cons r1 r2,q2⟩
noncomputable def aed (t:TA):TE:=fun σ H Q=>t σ H fun xs H1=>xs.length≤sizeLine∧∀ p,H1 p=none→Q (.ref p) (upd H1 p (.tup xs))
noncomputable def ae3 (t:TA):TE:=fun σ H Q=>t σ H fun xs H1=>xs.length≤sizeLine∧∀ p,H1 p=none→Q (.ref p) (upd H1 p (.lst xs))
theorem a4a {x1} (h:PA X es t):PE X (.Tuple es x1 pos) (aed t):=by
  intro pins s σ H Q I hq
  refine wpAny_Tuple_spliced (thn (h pos pins s σ H _ I hq) fun us s1 ⟨xs,H1,I1,r,z,q⟩=>⟨by rw [← r.length]; exact z,?_⟩)
  have hf:H1 s1.heap.objs.size=none:=I1.hok.fresh (Nat.le_refl _)
  refine ⟨.ref s1.heap.objs.size,upd H1 s1.heap.objs.size (.tup xs),I1.laid (t':=s1.toks) (fun b u e=>Heap.get?_push_of_some _ e) (Nat.le_refl _) ?_,rfl,q _ hf⟩
  exact ⟨z,us,r,⟨_,Heap.get?_push_size _ rfl,rfl,rfl,_,rfl⟩⟩
theorem a4z (h:PA X es t):PE X (.List es pos) (ae3 t):=by
  intro pins s σ H Q I hq
  refine wpAny_List_spliced (thn (h pos pins s σ H _ I hq) fun us s1 ⟨xs,H1,I1,r,z,q⟩=>⟨by rw [← r.length]; exact z,?_⟩)
  have hf:H1 s1.heap.objs.size=none:=I1.hok.fresh (Nat.le_refl _)
  refine ⟨.ref s1.heap.objs.size,upd H1 s1.heap.objs.size (.lst xs),I1.laid (t':=s1.toks) (fun b u e=>Heap.get?_push_of_some _ e) (Nat.le_refl _) ?_,rfl,q _ hf⟩
  exact ⟨z,us,0,r,Heap.get?_push_size _ rfl⟩
end
noncomputable abbrev Sp:=List V→Hp→VK→XK→Prop
noncomputable abbrev CXT:=List Env→Hp→Shared→XK→Value→Shared→Prop
structure aae (P:Program) (w:World) (K:PySem.W.Frag) (mg:Str→Option Value) (base:Heap) (A:Around) (outer:List Env) (s:Shared) (H:Hp):Prop where
  frames:A.frames=some outer
  mod:Mod K mg base
  bs:∀ b o,base.get? b=some o→s.heap.get? b=some o∧H b=none
  bsz:base.objs.size≤s.heap.objs.size
  Xn:s.heap.FunFrames base outer
  frf:∀ b∈frs outer,H b=none
  hok:HOk P w H s.heap
  bare:AllBare s.gens
noncomputable def CE (outer:List Env) (P:Program) (w:World) (H:Hp) (s:Shared) (Q:VK) (u:Value) (s':Shared):Prop :=
  ∃ v H',s'.os=s.os∧AllBare s'.gens∧Un (frs outer) [] H H' s.heap s'.heap∧HOk P w H' s'.heap∧RelV v u∧Q v H'
noncomputable def CR (CX:CXT) (outer:List Env) (P:Program) (w:World) (H:Hp) (s:Shared) (Q:VK) (E:XK) (r:Result) (s':Shared):Prop :=
  match r with
  | .ok (.ret u)=>CE outer P w H s Q u s'
  | .ok _=>False
  | .error e=>CX outer H s E e s'
structure yh (P:Program) (w:World) (K:PySem.W.Frag) (mg:Str→Option Value) (base:Heap) (CX:CXT) (k:Nat) (f:Addr) (fd:FuncData) (ps:List Str) (sp:Sp):Prop where
  len:∀ vs H Q E,sp vs H Q E→vs.length=ps.length
  run:∀ (A:Around) (outer:List Env) (s:Shared) (H:Hp) (args:Args) (us:List Value) (vs:List V) (Q:VK) (E:XK),K3 k A→aae P w K mg base A outer s H→BindsTo s fd args (ps.zip us)→Vals vs us→sp vs H Q E →
    codeAny (model P w) A (.call (.ref f) args) (CR CX outer P w H s Q E) s
theorem yh.mono {P:Program} {w:World} {K:PySem.W.Frag} {mg:Str→Option Value} {base:Heap} {CX:CXT} {j k:Nat} {f:Addr} {fd:FuncData} {ps:List Str} {sp:Sp} (F:yh P w K mg base CX j f fd ps sp) (h:j≤k) :
    yh P w K mg base CX k f fd ps sp:=⟨F.len,fun A outer s H args us vs Q E hr=>F.run A outer s H args us vs Q E (hr.mono h)⟩
theorem yh.imp {P:Program} {w:World} {K:PySem.W.Frag} {mg:Str→Option Value} {base:Heap} {CX:CXT} {k:Nat} {f:Addr} {fd:FuncData} {ps:List Str} {sp sp':Sp} (F:yh P w K mg base CX k f fd ps sp)
    (h:∀ vs H Q E,sp' vs H Q E→sp vs H Q E):yh P w K mg base CX k f fd ps sp' :=
  ⟨fun vs H Q E q=>F.len vs H Q E (h _ _ _ _ q),fun A outer s H args us vs Q E hr he hb hv hs=>F.run A outer s H args us vs Q E hr he hb hv (h _ _ _ _ hs)⟩
noncomputable section
variable {X:Cx} {pins:List (Addr × Obj)} {σ:St} {H:Hp} {s s':Shared}
theorem Inv.env0 (I:Inv X pins σ H s):aae X.prog X.w X.K X.mg X.base X.A X.stack s H :=
  ⟨I.ok.frames,I.ok.mod,I.bs,Nat.le_trans I.ok.bsz I.sz,I.stack,I.Xv,I.hok,I.bare⟩
theorem Inv.after {Q:VK} {u:Value} (I:Inv X pins σ H s) (h:CE X.stack X.prog X.w H s Q u s'):EP X pins σ Q u s':=by
  obtain ⟨v,H',os,bare,un,hok,r,q⟩:=h
  obtain ⟨hh,g,d,t,os'⟩:=s'
  obtain rfl:os'=s.os:=os
  exact ⟨v,H',I.call (h':=hh) (g':=g) (d':=d) (t':=t) (ch:=[]) un hok bare (fun b z=>absurd z (by simp)),r,q⟩
end
noncomputable def abb (sp:Sp) (dvs:List V) (E:XK) (t:TA):TE:=fun σ H Q=>t σ H fun vs H1=>sp (vs++dvs) H1 Q E
noncomputable def Binds (K:PySem.W.Frag) (fd:FuncData) (ps:List Str) (ds:List Value):Prop :=
  ∀ (s:Shared) (us:List Value),K.In s.heap→(us++ds).length=ps.length→BindsTo s fd ⟨us,[]⟩ (ps.zip (us++ds))
theorem Binds.all {K:PySem.W.Frag} {fd:FuncData} {ps:List Str} (h:∀ us:List Value,us.length=ps.length→bindArgs fd ⟨us,[]⟩=pure (ps.zip us)):Binds K fd ps []:=fun s us _ hl=>by
  rw [List.append_nil] at hl ⊢
  exact .of_eq (h us hl)
noncomputable def Passes (CX:CXT) (X:Cx) (E:XK):Prop:=∀ (pins:List (Addr × Obj)) (σ:St) (H:Hp) (s:Shared) (e:Value) (s':Shared),Inv X pins σ H s→CX X.stack H s E e s'→X.xe e s'
noncomputable section
variable {X:Cx} {CX:CXT} {k:Nat} {f C:Addr} {fd:FuncData} {ps:List Str} {sp:Sp} {dvs:List V} {ds:List Value} {E:XK} {x m:Str} {p pos apos:Pos} {e o:Expr} {es:List Expr} {ta:TE} {t:TA}
theorem aa7 {pins:List (Addr × Obj)} {σ:St} {H:Hp} {s:Shared} {Q:VK} {us:List Value} {vs:List V} (F:yh X.prog X.w X.K X.mg X.base CX k f fd ps sp) (hr:K3 k X.A) (hb:Binds X.K fd ps ds) (hd:Vals dvs ds) (hx:Passes CX X E)
    (I:Inv X pins σ H s) (r:Vals vs us) (h:sp (vs++dvs) H Q E):wpAny (model X.prog X.w) X.A (call (.ref f) us) (EP X pins σ Q) X.xe s:=by
  have r2:Vals (vs++dvs) (us++ds):=r.append hd
  have hl:(us++ds).length=ps.length:=by rw [← r2.length]; exact F.len _ _ _ _ h
  refine wpAny_call (codeAny_mono (F.run X.A X.stack s H ⟨us,[]⟩ (us++ds) (vs++dvs) Q E hr I.env0 (hb s us I.kIn hl) r2 h) fun r s' hq=>?_)
  cases r with
  | error e=>exact hx pins σ H s e s' I hq
  | ok fl =>
    cases fl with
    | ret u=>exact I.after hq
    | next=>exact False.elim hq
    | brk=>exact False.elim hq
    | cont=>exact False.elim hq
theorem Yu (F:yh X.prog X.w X.K X.mg X.base CX k f fd ps sp) (hr:K3 k X.A) (hg:Gl X x) (hm:X.mg x=some (.ref f)) (hk:PySem.W.keepIn X.K (.ref f)=true) (hb:Binds X.K fd ps ds) (hd:Vals dvs ds) (hx:Passes CX X E)
    (ha:PA X (e::es) t) (hdb:(x==("__debug__" : Str))=false:=by decide) (he:starEach (e::es) X.env=(false,eval e X.env)::starEach es X.env:=by rfl) (hpl:(backTo pos (starEach es X.env)).any (·.1)=false:=by rfl) :
    PE X (.Call (.Name x p) (e::es) [] pos) (abb sp dvs E t):=by
  intro pins s σ H Q I h
  refine wpAny_Call_Name_kw (a0v I hg hm ?_ hdb)
  refine PySem.W.callWith_K (h₀:=X.base) I.ok.mod.kin hk (thn (ha pos pins s σ H _ I h) fun us s1 ⟨vs,H1,I1,r,q⟩=>⟨I1.kIn,?_⟩) he hpl
  exact aa7 F hr hb hd hx I1 r q
structure Mk (K:PySem.W.Frag) (C f:Addr):Prop where
  makes:PySem.W.makesIn K C=true
  init:PySem.W.findIn K (.ref C) "__init__" = some (some (.ref f))
  fn:PySem.W.isFn K (.ref f)=true
  kp:PySem.W.keepIn K (.ref C)=true
end
noncomputable section
variable {X:Cx} {CX:CXT} {k:Nat} {f C:Addr} {fd:FuncData} {ps ks:List Str} {sp:Sp} {E:XK} {x m:Str} {p pos apos kpos:Pos} {e o:Expr} {es:List Expr} {kws:List Keyword} {te ta:TE} {t tk:TA} {nm:Option Str}
structure adz (K:PySem.W.Frag) (fd:FuncData) (ps ks:List Str) (g:List Value→List Value→List Value) (gV:List V→List V→List V):Prop where
  to:∀ (s:Shared) (us ws:List Value),K.In s.heap→(g us ws).length=ps.length→BindsTo s fd ⟨us,ks.zip ws⟩ (ps.zip (g us ws))
  rel:∀ {vs:List V} {us:List Value} {zs:List V} {ws:List Value},Vals vs us→Vals zs ws→Vals (gV vs zs) (g us ws)
variable {g:List Value→List Value→List Value} {gV:List V→List V→List V}
end
structure jg (N P:List Str) (sc:Scope):Prop where
  kind:sc.kind=.function
  co:sc.isCoroutine=false
  gen:sc.isGenerator=false
  nd:N.Nodup
  pre:N.take P.length=P
  par:∀ x∈P,sc.names.lookup x=some .local∨sc.names.lookup x=some .cell
  nofree:∀ y∈sc.names,y.2≠.free
theorem Qe {kindOf:Str→Option NameKind} {x:Str}:∀ {binds:List (Str × Value)} {m:Str→Option Value},(∀ v,(x,v)∉binds)→bindL kindOf binds m x=m x
  | [],_,_=>rfl
  | (n,v)::r,m,h=>by
    unfold bindL
    rw [Qe fun w hw=>h w (List.mem_cons_of_mem _ hw)]
    split
    · have:x≠n:=by rintro rfl; exact h v List.mem_cons_self
      simp [this]
    · rfl
theorem R9 {kindOf:Str→Option NameKind} {x:Str}:∀ {binds:List (Str × Value)} {m:Str→Option Value},(∀ v,(x,v)∉binds)→bindC kindOf binds m x=m x
  | [],_,_=>rfl
  | (n,v)::r,m,h=>by
    unfold bindC
    rw [R9 fun w hw=>h w (List.mem_cons_of_mem _ hw)]
    split
    · rfl
    · have:x≠n:=by rintro rfl; exact h v List.mem_cons_self
      simp [this]
theorem Pj {kindOf:Str→Option NameKind} {x:Str} {v:Value}:∀ {P:List Str} {vs:List Value} {i:Nat} {m:Str→Option Value},P.Nodup→P[i]? = some x→vs[i]? = some v→kindOf x=some .local →
    bindL kindOf (P.zip vs) m x=some v
  | [],_,_,_,_,h,_,_=>by simp at h
  | _::_,[],_,_,_,_,h,_=>by simp at h
  | p::P,w::vs,0,m,nd,h1,h2,hk=>by
    simp at h1 h2; subst h1; subst h2
    show bindL kindOf ((p,w)::P.zip vs) m p=_
    unfold bindL
    rw [Qe fun v hv=>(List.nodup_cons.mp nd).1 (List.of_mem_zip hv).1,if_pos hk]
    simp
  | p::P,w::vs,i+1,m,nd,h1,h2,hk=>by
    show bindL kindOf ((p,w)::P.zip vs) m x=_
    unfold bindL
    exact Pj (i:=i) (List.nodup_cons.mp nd).2 (by simpa using h1) (by simpa using h2) hk
theorem Qz {kindOf:Str→Option NameKind} {x:Str} {v:Value}:∀ {P:List Str} {vs:List Value} {i:Nat} {m:Str→Option Value},P.Nodup→P[i]? = some x→vs[i]? = some v→kindOf x≠some .local →
    bindC kindOf (P.zip vs) m x=some v
  | [],_,_,_,_,h,_,_=>by simp at h
  | _::_,[],_,_,_,_,h,_=>by simp at h
  | p::P,w::vs,0,m,nd,h1,h2,hk=>by
    simp at h1 h2; subst h1; subst h2
    show bindC kindOf ((p,w)::P.zip vs) m p=_
    unfold bindC
    rw [R9 fun v hv=>(List.nodup_cons.mp nd).1 (List.of_mem_zip hv).1,if_neg hk]
    simp
  | p::P,w::vs,i+1,m,nd,h1,h2,hk=>by
    show bindC kindOf ((p,w)::P.zip vs) m x=_
    unfold bindC
    exact Qz (i:=i) (List.nodup_cons.mp nd).2 (by simpa using h1) (by simpa using h2) hk
noncomputable def start (N:List Str) (vs:List V):St:=vs.map some++List.replicate (N.length - vs.length) none
noncomputable def a4k (CX:CXT) (P:Program) (w:World) (K:PySem.W.Frag) (mg:Str→Option Value) (base:Heap) (N:List Str) (qual:Str) (scope:Scope) (f:Addr) (cd:Value) (A:Around) (outer:List Env) (s:Shared) (H:Hp) (E:XK):Cx where
  prog:=P
  w:=w
  K:=K
  mg:=mg
  base:=base
  A:=A.deeper (envOfC qual scope s.heap.objs.size f cd)
  N:=N
  s₀:=s
  H₀:=H
  env:=envOfC qual scope s.heap.objs.size f cd
  outer:=outer
  stack:=envOfC qual scope s.heap.objs.size f cd::outer
  ex:=[]
  calm:=true
  fn:=fun _=>true
  pn:=[]
  xe:=fun e s'=>wpAny (model P w) (A.deeper (envOfC qual scope s.heap.objs.size f cd)) (leaving (envOfC qual scope s.heap.objs.size f cd) e) (fun _ s''=>CX outer H s E e s'') (fun e' s''=>CX outer H s E e' s'') s'
theorem V1 {sc:Scope} {n:Nat} {x:Str} (h:sc.names.lookup x=some .cell):∃ c,(cellsFrom n sc.names []).lookup x=some c:=by
  have q:=PySem.W.cellsFrom_some sc.names n [] (.inl h)
  exact Option.isSome_iff_exists.mp q
theorem Zk {CX:CXT} {P:Program} {w:World} {K:PySem.W.Frag} {mg:Str→Option Value} {base:Heap} {N ps:List Str} {qual:Str} {scope:Scope} {f:Addr} {cd:Value} {A:Around} {outer:List Env} {s s1:Shared} {H:Hp} {E:XK} {us:List Value} {vs:List V}
    (S:jg N ps scope) (hd:A.handled=none) (e0:aae P w K mg base A outer s H) (hl:vs.length=ps.length) (r:Vals vs us)
    (x:InCallC s s.heap.objs.size (bindL (envOfC qual scope s.heap.objs.size f cd).kindOf (ps.zip us) fun _=>none) (cellsFrom (s.heap.objs.size+1) scope.names []) (bindC (envOfC qual scope s.heap.objs.size f cd).kindOf (ps.zip us) fun _=>none) s1) :
    Inv (a4k CX P w K mg base N qual scope f cd A outer s H E) [] (start N vs) H s1:=by
  have hpl:ps.length≤N.length:=by have:=congrArg List.length S.pre; rw [List.length_take] at this; omega
  obtain ⟨h1,tk,rfl,hk⟩:=x.done
  have noA:∀ b:Addr,b∉(a4k CX P w K mg base N qual scope f cd A outer s H E).ex:=fun b z=>absurd (show b∈([]:List Addr) from z) (by simp)
  refine ⟨⟨e0.mod,S.kind,rfl,rfl,Nat.le_refl _,fun y z c h1 h2=>?_,fun y hy=>?_,fun y c _ h=>?_,fun _=>hd,Around.frames_deeper e0.frames,.inr ⟨rfl,rfl⟩,fun b z=>absurd z (noA b),e0.bs,e0.bsz,fun b _ _=>noA b,fun b z=>absurd z (noA b),e0.Xn,e0.frf⟩,
    rfl,e0.bare,Un.kept hk,⟨_,x.toInCall.ns,fun i y v h1 h2 h3=>?_⟩,fun y c h=>⟨_,x.cell y c h⟩,e0.hok.fresh (Nat.le_refl _),fun y c h=>?_,fun p hp=>absurd (show p∈([]:List (Addr × Obj)) from hp) (by simp),e0.hok.kept hk,?_⟩
  · exact name_of_addr x.apart (PySem.mem_of_lookup h1) (PySem.mem_of_lookup h2)
  · have hy:scope.names.lookup y=some .cell∨scope.names.lookup y=some .free:=hy
    rcases hy with hy | hy
    · exact V1 hy
    · exact absurd rfl (S.nofree _ (PySem.mem_of_lookup hy))
  · exact Nat.le_of_lt (x.above y c (PySem.mem_of_lookup h))
  · have hi:i<vs.length:=by
      unfold start at h2
      by_cases hi:i<vs.length
      · exact hi
      · rw [List.getElem?_append_right (by simpa using hi)] at h2
        rw [List.getElem?_replicate] at h2
        split at h2 <;> cases h2
    have ha:vs[i]? = some v:=by
      unfold start at h2
      rw [List.getElem?_append_left (by simpa using hi),List.getElem?_map] at h2
      cases e:vs[i]? with
      | none=>rw [e] at h2; cases h2
      | some a=>rw [e] at h2; cases h2; rfl
    obtain ⟨u,hu,rv⟩:=r.get ha
    have hp:ps[i]? = some y:=by
      rw [← S.pre,List.getElem?_take_of_lt (by omega)]; exact h1
    have ndP:ps.Nodup:=by rw [← S.pre]; exact S.nd.sublist (List.take_sublist _ _)
    refine ⟨u,rv,?_⟩
    rcases S.par y (List.mem_of_getElem? hp) with k | k
    · exact .inl ⟨k,Pj ndP hp hu k⟩
    · obtain ⟨c,e⟩:=V1 (n:=s.heap.objs.size+1) k
      refine .inr ⟨.inl k,c,e,?_⟩
      have q:=x.cell y c e
      rw [Qz ndP hp hu (by show scope.names.lookup y≠_; rw [k]; decide)] at q
      exact q
  · exact e0.hok.fresh (Nat.le_of_lt (x.above y c (PySem.mem_of_lookup h)))
  · unfold start
    show _=N.length
    rw [List.length_append,List.length_map,List.length_replicate]
    omega
theorem aau {CX:CXT} {P:Program} {w:World} {K:PySem.W.Frag} {mg:Str→Option Value} {base:Heap} {k:Nat} {f:Addr} {name qual:Str} {params:Arguments} {body:List Stmt} {scope:Scope} {dV kV doc pm cdv ct oc:Value} {an od:Option Addr}
    {osl:Array (Option Value)} {N ps:List Str} {sp:Sp} (lk:K.lookup f=some ⟨oc,od,.func (PySem.W.fnOf name qual params body scope dV kV doc pm an cdv ct),osl⟩) (hcd:PySem.W.codeIn K cdv qual=true) (S:jg N ps scope)
    (len:∀ vs H Q E,sp vs H Q E→vs.length=ps.length)
    (hbody:∀ (A:Around) (outer:List Env) (s:Shared) (H:Hp) (vs:List V) (Q:VK) (E:XK),K3 k (A.deeper (envOfC qual scope s.heap.objs.size f cdv))→sp vs H Q E →
      ∃ t,PSs (a4k CX P w K mg base N qual scope f cdv A outer s H E) body t∧t { nx:=fun _ H'=>Q .non H',rt:=Q } (start N vs) H) :
    yh P w K mg base CX (k+1) f (PySem.W.fnOf name qual params body scope dV kV doc pm an cdv ct) ps sp:=by
  refine ⟨len,fun A outer s H args us vs Q E hr e0 hb r hsp=>?_⟩
  have hl:=len _ _ _ _ hsp
  have KX:K.In s.heap:=e0.mod.kin.keeps fun b o e=>(e0.bs b o e).1
  have lim:s.heap.NoLimit:=e0.mod.nolimit.keeps fun b o e=>(e0.bs b o e).1
  have hkind:∀ y∈ps.zip us,scope.names.lookup y.1=some .local∨(scope.names.lookup y.1=some .cell∧((cellsFrom (s.heap.objs.size+1) scope.names []).lookup y.1).isSome=true):=fun ⟨n,v⟩ hy=>by
    rcases S.par n (List.of_mem_zip hy).1 with q | q
    · exact .inl q
    · exact .inr ⟨q,PySem.W.cellsFrom_some _ _ _ (.inl q)⟩
  refine codeAny_call_function hr.depth (KX _ _ lk) rfl S.co S.gen rfl (PySem.W.codeRec_of KX hcd) (hb _ _ _ _ ?_)
  refine wpAny_newFunctionEnv_cells S.kind hkind fun env he s1 x=>?_
  subst he
  refine ⟨lim.keeps x.toInCall.keep,codeAny_func ?_⟩
  obtain ⟨t,ht,hq⟩:=hbody A outer s H vs Q E (hr.deeper _) hsp
  have I:Inv (a4k CX P w K mg base N qual scope f cdv A outer s H E) [] (start N vs) H s1:=Zk S hr.hd e0 hl r x
  refine wpAny_mono (ht [] s1 (start N vs) H _ I hq) (fun fl s' hs=>?_) fun e s' hs=>hs
  have fin:∀ {σ':St} {H':Hp} {v:V} {u:Value},Inv (a4k CX P w K mg base N qual scope f cdv A outer s H E) [] σ' H' s'→RelV v u→Q v H'→CE outer P w H s Q u s' :=
    fun {σ' H' v u} J rv q=>⟨v,H',J.os,J.bare,J.base,J.hok,rv,q⟩
  cases fl with
  | ret u =>
    obtain ⟨v,σ',H',J,rv,q⟩:=hs
    exact fin J rv q
  | next =>
    obtain ⟨σ',H',J,q⟩:=hs
    exact fin (v:=V.non) (u:=Value.none) J rfl q
  | brk =>
    obtain ⟨_,_,_,q⟩:=hs
    exact False.elim q
  | cont =>
    obtain ⟨_,_,_,q⟩:=hs
    exact False.elim q
end L2
namespace L2
open PySem PySem.Spec PyProof.Rows
noncomputable section
variable {X:Cx} {x:Str} {p pos:Pos} {e:Expr} {es:List Expr} {t:TA} {id T:String} {r:List V→Hp→VK→Prop}
noncomputable def tCB (r:List V→Hp→VK→Prop) (t:TA):TE:=fun σ H Q=>t σ H fun vs H1=>r vs H1 Q
theorem v9 (hc:Fo X (.builtin id) r) (hg:Gl X x) (hm:X.mg x=none) (hv:bootBuiltins x=some (.builtin id)) (ha:PA X (e::es) t) (hn:x ≠ "__name__" := by decide) (hdb:(x==("__debug__" : Str))=false:=by decide)
    (he:starEach (e::es) X.env=(false,eval e X.env)::starEach es X.env:=by rfl) (hpl:(backTo pos (starEach es X.env)).any (·.1)=false:=by rfl):PE X (.Call (.Name x p) (e::es) [] pos) (tCB r t):=by
  intro pins s σ H Q I h
  refine wpAny_Call_Name_kw (Ml I hg hm hv ?_ hn hdb)
  exact PyProof.Rows.callWith_builtin1 (thn (ha pos pins s σ H _ I h) fun us s1 z7=>by obtain ⟨vs,H1,I1,r1,q1⟩:=z7; exact hc pins s1 σ H1 vs us Q I1 r1 q1) he hpl
theorem v7 (hc:Fo X (.type T) r) (hg:Gl X x) (hm:X.mg x=none) (hv:bootBuiltins x=some (.type T)) (ha:PA X (e::es) t) (hn:x ≠ "__name__" := by decide) (hdb:(x==("__debug__" : Str))=false:=by decide)
    (he:starEach (e::es) X.env=(false,eval e X.env)::starEach es X.env:=by rfl) (hpl:(backTo pos (starEach es X.env)).any (·.1)=false:=by rfl):PE X (.Call (.Name x p) (e::es) [] pos) (tCB r t):=by
  intro pins s σ H Q I h
  refine wpAny_Call_Name_kw (Ml I hg hm hv ?_ hn hdb)
  exact PyProof.Rows.callWith_type1 (thn (ha pos pins s σ H _ I h) fun us s1 z7=>by obtain ⟨vs,H1,I1,r1,q1⟩:=z7; exact hc pins s1 σ H1 vs us Q I1 r1 q1) he hpl
end
end L2
end
noncomputable section
set_option linter.all false
set_option maxRecDepth 100000
namespace HT
open PySem PyProof.Rows
noncomputable section
open PySem.SeqAt
open PySem.AutoSeq1 (wpAny_loadPart')
open PySem.MeetsSeq PySem.MeetsSeq2 PySem.MeetsSeq3
end
noncomputable section
variable {prog:Program} {w:World} {A:Around} {E:Value→Shared→Prop} {s:Shared}
theorem a6f {t b:Addr} {vs ws:List Value} {Q:Value→Shared→Prop} (ht:IsTup s.heap t vs.toArray) (hb:IsTup s.heap b ws.toArray) (hv:vs≠[])
    (h1:ws=[]→Q (.ref t) s) (h2:ws≠[]→Q (.ref s.heap.objs.size) { s with heap:=s.heap.push { cls:=.type "tuple",data:=.seq (vs++ws).toArray } })
    (hsz:vs.length+ws.length≤sizeLine):wpAny (model prog w) A (binaryOp .Add (.ref t) (.ref b)) Q E s:=by
  obtain ⟨⟨cls,dd,data,sl⟩,ho,hc,n,hd⟩:=id ht
  obtain ⟨⟨cls2,dd2,data2,sl2⟩,ho2,hc2,n2,hd2⟩:=id hb
  simp only at hc hd hc2 hd2
  subst hc hd hc2 hd2
  have e:vs.toArray++ws.toArray=(vs++ws).toArray:=by simp
  by_cases hw:ws=[]
  · exact concat_meets ⟨_,ho,rfl⟩ ⟨_,ho2,rfl⟩ noFill_tuple_add seq_tuple_add PySem.F.slot_tuple_add PySem.F.entry_tuple_add (PySem.F.args_tuple_add_2 _ _)
      (tuple_addW1 t b vs.toArray ws.toArray n n2 dd dd2 sl sl2 (by simpa using hv) (by simp [hw])) ⟨ho,ho2,h1 hw⟩
  · refine concat_meets ⟨_,ho,rfl⟩ ⟨_,ho2,rfl⟩ noFill_tuple_add seq_tuple_add PySem.F.slot_tuple_add PySem.F.entry_tuple_add (PySem.F.args_tuple_add_2 _ _)
      (tuple_addW2 t b vs.toArray ws.toArray n n2 dd dd2 sl sl2 (by simpa using hv) (by simpa using hw) (by rw [List.size_toArray,List.size_toArray]; exact hsz)) ⟨ho,ho2,?_⟩
    rw [e]
    exact h2 hw
noncomputable def sIx (n d:Nat):Option Int→Nat
  | none=>d
  | some v=>if v<0 then (v+(n:Int)).toNat else min v.toNat n
theorem a8p (n d:Nat) (hd:d≤n) (o:Option Int):sIx n d o≤n:=by
  cases o with
  | none=>exact hd
  | some v =>
    show (if v<0 then (v+(n:Int)).toNat else min v.toNat n)≤n
    by_cases hv:v<0
    · rw [if_pos hv]; omega
    · rw [if_neg hv]; exact Nat.min_le_right _ _
theorem Y9 (v:Int) (n d:Nat):(if v<0 then max (v+(n:Int)) 0 else min v (n:Int))=((sIx n d (some v):Nat):Int):=by
  show (if v<0 then max (v+(n:Int)) 0 else min v (n:Int))=(((if v<0 then (v+(n:Int)).toNat else min v.toNat n):Nat):Int)
  by_cases hv:v<0
  · simp only [if_pos hv]; omega
  · simp only [if_neg hv]; omega
theorem Wq (lo hi:Option Int) (n:Nat):Builtin.Slice.sliceAdjust lo hi 1 (n:Int)=(((sIx n 0 lo:Nat):Int),((sIx n n hi:Nat):Int)):=by
  have h1:¬ ((1:Int)<0):=by omega
  unfold Builtin.Slice.sliceAdjust
  simp only [h1,if_false]
  refine Prod.ext ?_ ?_
  · cases lo with
    | none=>rfl
    | some v=>exact Y9 v n 0
  · cases hi with
    | none=>rfl
    | some v=>exact Y9 v n n
theorem X3 (i j:Nat):Builtin.Slice.slicePlaces (i:Int) (j:Int) 1=j - i:=by
  unfold Builtin.Slice.slicePlaces
  have h1:(1:Int) > 0:=by omega
  simp only [h1,if_true,Int.ediv_one]
  split <;> omega
theorem Mp {v:Value} {o:Option Int} {Q:Option Int→Shared→Prop} (p:IsPart v o) (h:Q o s):wpAny (model prog w) A (Builtin.Slice.slicePartIndex v) Q E s:=by
  cases p with
  | none=>exact slicePart_none h
  | int i t=>exact slicePart_int h
theorem J2 {sl:Addr} {vl vu:Value} {lo hi:Option Int} {n:Nat} {Q:Int × Int × Nat→Shared→Prop} (hs:s.heap.IsSliceOf sl vl vu .none) (pl:IsPart vl lo) (pu:IsPart vu hi)
    (h:Q (((sIx n 0 lo:Nat):Int),1,sIx n n hi - sIx n 0 lo) s):wpAny (model prog w) A (Builtin.Slice.sliceApplied (.ref sl) (pure (n:Int))) Q E s:=by
  obtain ⟨os,hos,hcs,hds⟩:=id hs
  unfold Builtin.Slice.sliceApplied Builtin.Slice.sliceFields
  refine wpAny_bind (wpAny_bind (wpAny_field hos hds (x:=vl) rfl (wpAny_bind (wpAny_field hos hds (x:=vu) rfl (wpAny_bind (wpAny_field hos hds (x:=.none) rfl (wpAny_pure ?_)))))))
  refine wpAny_bind (slicePart_none ?_)
  show wpAny _ _ (if ((1:Int)==0)=true then _ else _) _ _ s
  rw [if_neg (by decide)]
  refine wpAny_bind (Mp pl (wpAny_bind (Mp pu (wpAny_bind (wpAny_pure ?_)))))
  show wpAny _ _ (match Builtin.Slice.sliceAdjust lo hi 1 (n:Int) with | (lo,hi)=>pure (lo,(1:Int),Builtin.Slice.slicePlaces lo hi 1)) _ _ s
  rw [Wq lo hi n]
  show wpAny _ _ (pure (((sIx n 0 lo:Nat):Int),(1:Int),Builtin.Slice.slicePlaces ((sIx n 0 lo:Nat):Int) ((sIx n n hi:Nat):Int) 1)) _ _ s
  rw [X3]
  exact wpAny_pure h
theorem a2z (xs:Array Value) (i k:Nat):((List.range k).filterMap fun (m:Nat)=>xs[((i:Int)+(m:Int) * 1).toNat]?).toArray=((xs.toList.drop i).take k).toArray:=by
  have e:(fun (m:Nat)=>xs[((i:Int)+(m:Int) * 1).toNat]?)=fun m=>xs[i+m]?:=by
    funext m
    have:((i:Int)+(m:Int) * 1).toNat=i+m:=by omega
    rw [this]
  rw [e]
  have:=pick_run xs i k
  rw [List.filterMap_map] at this
  have e2:((fun x=>xs[x]?) ∘ fun x=>i+x)=fun m=>xs[i+m]?:=rfl
  rw [e2] at this
  rw [this]
theorem Hr {t sl:Addr} {items:Array Value} {vl vu:Value} {lo hi:Option Int} {Q:Value→Shared→Prop} (ht:IsTup s.heap t items) (hs:s.heap.IsSliceOf sl vl vu .none) (pl:IsPart vl lo) (pu:IsPart vu hi)
    (hw:¬ (sIx items.size 0 lo=0∧sIx items.size items.size hi=items.size))
    (h:Q (.ref s.heap.objs.size) { s with heap:=s.heap.push { cls:=.type "tuple",data:=.seq ((items.toList.drop (sIx items.size 0 lo)).take (sIx items.size items.size hi - sIx items.size 0 lo)).toArray } })
    (hsz:items.size≤sizeLine):wpAny (model prog w) A (getItem (.ref t) (.ref sl)) Q E s:=by
  have htake:sizeOk (.seq ((items.toList.drop (sIx items.size 0 lo)).take (sIx items.size items.size hi - sIx items.size 0 lo)).toArray):=by
    show ((items.toList.drop (sIx items.size 0 lo)).take (sIx items.size items.size hi - sIx items.size 0 lo)).toArray.size≤sizeLine
    rw [List.size_toArray,List.length_take,List.length_drop,Array.length_toList]
    omega
  have hj:sIx items.size items.size hi≤items.size:=a8p _ _ (Nat.le_refl _) hi
  obtain ⟨os,hos,hcs,hds⟩:=id hs
  have hTs:s.TypeIs (.ref sl) "slice" := ⟨os,hos,hcs⟩
  unfold getItem
  try with_reducible refine wpAny_holding ?_
  first | refine wpAny_bind (wpAny_pure ?_) | skip
  refine wpAny_bind (wpAny_sequenceKey ht.typeIs (by decide) ?_)
  refine wpAny_bind (wpAny_callSpecial?_slot (name:=Str.ofString "__getitem__") ht.typeIs PyProof.Rows.slot_tuple_getitem
    (wpAny_call_entry PyProof.Rows.slot_tuple_getitem ht.typeIs entry_tuple_getitem ?_ (args_tuple_getitem _ _)))
  show wpAny _ _ (Builtin.Tuple.tupleItemsOf (.ref t) >>= _) _ _ s
  refine wpAny_bind (tupleItemsOf_ ht ?_)
  refine wpAny_bind (wpAny_typeOf hTs ?_)
  rw [if_pos (by decide)]
  refine wpAny_bind (J2 hs pl pu ?_)
  have hno:¬ ((((sIx items.size 0 lo:Nat):Int)==0&&(1:Int)==1&&(sIx items.size items.size hi - sIx items.size 0 lo)==items.size)=true):=by
    intro q
    rw [Bool.and_eq_true,Bool.and_eq_true] at q
    have q1:((sIx items.size 0 lo:Nat):Int)=0:=eq_of_beq q.1.1
    have q2:sIx items.size items.size hi - sIx items.size 0 lo=items.size:=eq_of_beq q.2
    exact hw ⟨by omega,by omega⟩
  show wpAny _ _ (if (((sIx items.size 0 lo:Nat):Int)==0&&(1:Int)==1&&(sIx items.size items.size hi - sIx items.size 0 lo)==items.size)=true then _ else _) _ _ s
  rw [if_neg hno,a2z]
  first
    | exact wpAny_bind (m:=Builtin.Tuple.tupleExact _) (wpAny_newObj_type (wpAny_pure ⟨_,rfl,wpAny_pure h⟩) htake)
    | exact wpAny_bind (m:=Builtin.Tuple.tupleExact _) (wpAny_newObj_type (wpAny_bind (wpAny_pure (wpAny_pure ⟨_,rfl,wpAny_pure h⟩))) htake)
    | exact wpAny_bind (wpAny_bind (m:=Builtin.Tuple.tupleExact _) (wpAny_newObj_type (wpAny_pure (wpAny_pure ⟨_,rfl,wpAny_pure h⟩)) htake))
    | exact wpAny_bind (wpAny_bind (m:=Builtin.Tuple.tupleExact _) (wpAny_newObj_type (wpAny_pure ⟨_,rfl,wpAny_pure h⟩) htake))
end
end HT
namespace L2
open PySem PySem.Spec PyProof.Rows
noncomputable abbrev TO:=St→Hp→(Option Int→Hp→Prop)→Prop
noncomputable def PO (X:Cx) (e:Option Expr) (t:TO):Prop :=
  ∀ (pins:List (Addr × Obj)) (s:Shared) (σ:St) (H:Hp) (Q:Option Int→Hp→Prop),Inv X pins σ H s→t σ H Q →
    wpAny (model X.prog X.w) X.A (evalPart e X.env) (fun u s'=>∃ o H',Inv X pins σ H' s'∧IsPart u o∧Q o H') X.xe s
noncomputable def a6x:TO:=fun _ H Q=>Q none H
noncomputable def abg (t:TE):TO:=fun σ H Q=>t σ H fun x H1=>∃ i,x=.int i∧Q (some i) H1
noncomputable section
variable {X:Cx} {e:Expr} {te:TE} {lo hi:Option Expr} {tl th:TO} {pos p2:Pos}
theorem a5z:PO X none a6x:=by
  intro pins s σ H Q I h
  rw [evalPart_none]
  exact wpAny_pure ⟨none,H,I,.none,h⟩
theorem a6e (h:PE X e te):PO X (some e) (abg te):=by
  intro pins s σ H Q I hw
  rw [evalPart_some]
  refine thn (h pins s σ H _ I hw) fun u s1 z0=>?_
  obtain ⟨x,H1,I1,r1,q1⟩:=z0
  obtain ⟨i,rfl,q⟩:=q1
  obtain ⟨t,rfl⟩:=r1
  exact ⟨some i,H1,I1,.int i t,q⟩
noncomputable def SlR (X:Cx) (r:V→Option Int→Option Int→Hp→VK→Prop):Prop :=
  ∀ (pins:List (Addr × Obj)) (s:Shared) (σ:St) (H:Hp) (x:V) (v vl vu:Value) (lo hi:Option Int) (sl:Addr) (Q:VK),Inv X pins σ H s→RelV x v→s.heap.IsSliceOf sl vl vu .none→IsPart vl lo→IsPart vu hi→r x lo hi H Q →
    ∃ T id,typeLookup (.type T) "__getitem__" = pure (some (.builtin id))∧s.TypeIs v T∧wpAny (model X.prog X.w) X.A (getItem v (.ref sl)) (EP X pins σ Q) X.xe s
theorem SlR.or {r r':V→Option Int→Option Int→Hp→VK→Prop} (h:SlR X r) (h':SlR X r'):SlR X (fun x lo hi H Q=>r x lo hi H Q∨r' x lo hi H Q):=by
  intro pins s σ H x v vl vu lo hi sl Q I rx hs pl pu q
  rcases q with q | q
  · exact h pins s σ H x v vl vu lo hi sl Q I rx hs pl pu q
  · exact h' pins s σ H x v vl vu lo hi sl Q I rx hs pl pu q
noncomputable def tSl (r:V→Option Int→Option Int→Hp→VK→Prop) (te:TE) (tl th:TO):TE:=fun σ H Q=>te σ H fun x H1=>tl σ H1 fun l H2=>th σ H2 fun u H3=>r x l u H3 Q
theorem a2u {r:V→Option Int→Option Int→Hp→VK→Prop} (hr:SlR X r) (he:PE X e te) (hl:PO X lo tl) (hu:PO X hi th):PE X (.Subscript e (.Slice lo hi none p2) pos) (tSl r te tl th):=by
  intro pins s σ H Q I h
  refine Subscript_ (thn (he pins s σ H _ I h) fun v s1 z0=>?_)
  obtain ⟨x,H1,I1,r1,q1⟩:=z0
  refine wpAny_Slice (thn (hl pins s1 σ H1 _ I1 q1) fun vl s2 ⟨l,H2,I2,pl,q2⟩=>thn (hu pins s2 σ H2 _ I2 q2) fun vu s3 ⟨u,H3,I3,pu,q3⟩=>?_)
  rw [evalPart_none]
  refine wpAny_pure ?_
  have I4:Inv X pins σ H3 { s3 with heap:=s3.heap.push { cls:=.type "slice",data:=.fields #[vl,vu,.none] } }:=I3.kept (t':=s3.toks) fun b ob q=>Heap.get?_push_of_some _ q
  obtain ⟨T,id,hT,ht,hg⟩:=hr pins { s3 with heap:=s3.heap.push { cls:=.type "slice",data:=.fields #[vl,vu,.none] } } σ H3 x v vl vu l u s3.heap.objs.size Q I4 r1 (Heap.IsSliceOf.new ..) pl pu q3
  show wpAny (model X.prog X.w) X.A (subscriptTail e (.Slice lo hi none p2) v (.ref s3.heap.objs.size)) (EP X pins σ Q) X.xe { s3 with heap:=s3.heap.push { cls:=.type "slice",data:=.fields #[vl,vu,.none] } }
  exact tail_any (ops:=[.ref s3.heap.objs.size,v]) ht hT hg (by with_unfolding_all rfl)
noncomputable def a1e (xs:List V) (lo hi:Option Int):List V:=(xs.drop (HT.sIx xs.length 0 lo)).take (HT.sIx xs.length xs.length hi - HT.sIx xs.length 0 lo)
theorem Jk (xs:List V) (lo hi:Option Int):(a1e xs lo hi).length≤xs.length:=by
  unfold a1e
  rw [List.length_take,List.length_drop]
  omega
noncomputable def aek (K:PySem.W.Frag):V→Option Int→Option Int→Hp→VK→Prop:=fun x lo hi H Q=>∃ a xs,x=.ref a∧SqT K H a xs ∧
  ¬ (HT.sIx xs.length 0 lo=0∧HT.sIx xs.length xs.length hi=xs.length)∧∀ p,H p=none→Q (.ref p) (upd H p (.tup (a1e xs lo hi)))
theorem a8i:SlR X (aek X.K):=by
  intro pins s σ H x v vl vu lo hi sl Q I rx hs pl pu h
  obtain ⟨a,xs,rfl,hx,hw,q⟩:=h
  cases rx
  obtain ⟨its,r,ht,hz⟩:=I.tuple hx
  have hlen:its.toArray.size=xs.length:=by rw [List.size_toArray]; exact r.length.symm
  refine ⟨"tuple",_,PyProof.Rows.slot_tuple_getitem.lookup,ht.typeIs,?_⟩
  refine HT.Hr ht hs pl pu (by rw [hlen]; exact hw) ?_ (by rw [hlen]; exact hz)
  rw [hlen]
  refine ⟨.ref s.heap.objs.size,_,I.laid (t':=s.toks) (o:=.tup (a1e xs lo hi)) (fun b ob q=>Heap.get?_push_of_some _ q) (Nat.le_refl _) ?_,rfl,q _ (I.hok.fresh (Nat.le_refl _))⟩
  exact ⟨Nat.le_trans (Jk xs lo hi) hz,_,(r.drop (HT.sIx xs.length 0 lo)).take (HT.sIx xs.length xs.length hi - HT.sIx xs.length 0 lo),a1n.new _ _⟩
noncomputable def abh (K:PySem.W.Frag):R2:=fun x y H Q=>∃ a b xs ys,x=.ref a∧y=.ref b∧SqT K H a xs∧SqT K H b ys∧xs≠[]∧xs.length+ys.length≤sizeLine ∧
  (ys=[]→Q (.ref a) H)∧(ys≠[]→∀ p,H p=none→Q (.ref p) (upd H p (.tup (xs++ys))))
theorem Vals.Uh {xs:List V} {us:List Value} (r:Vals xs us):us=[]↔xs=[]:=by
  cases r with
  | nil=>simp
  | cons _ _=>simp
theorem a5v:OpR X (binaryOp .Add) (abh X.K):=by
  intro pins s σ H x y v u Q I rx ry h
  obtain ⟨a,b,xs,ys,rfl,rfl,ha,hb,hx,hz,q1,q2⟩:=h
  cases rx
  cases ry
  obtain ⟨its,r1,p1,_⟩:=I.tuple ha
  obtain ⟨its2,r2,p2,_⟩:=I.tuple hb
  refine HT.a6f p1 p2 (fun z=>hx (r1.Uh.mp z)) (fun z=>⟨.ref a,H,I,rfl,q1 (r2.Uh.mp z)⟩) (fun z=>?_) (by rw [← r1.length,← r2.length]; exact hz)
  refine ⟨.ref s.heap.objs.size,_,I.laid (t':=s.toks) (o:=.tup (xs++ys)) (fun b ob q=>Heap.get?_push_of_some _ q) (Nat.le_refl _) ?_,rfl,q2 (fun w=>z (r2.Uh.mpr w)) _ (I.hok.fresh (Nat.le_refl _))⟩
  exact ⟨by rw [List.length_append]; exact hz,_,r1.append r2,a1n.new _ _⟩
end
end L2
namespace L2
open PySem PySem.Spec PyProof.Rows
noncomputable def ixN (n:Nat) (i:Int):Option Nat:=if 0≤i then (if i<n then some i.toNat else none) else if -(n:Int)≤i then some (i+n).toNat else none
noncomputable def atI {α:Type} (xs:List α) (i:Int):Option α:=(ixN xs.length i).bind fun j=>xs[j]?
theorem a5t {n:Nat} {i:Int} {j:Nat} (h:ixN n i=some j):seqIndex? i n=some j∧j<n∧-(n:Int)≤i∧i<n:=by
  unfold ixN at h
  by_cases h0:0≤i
  · rw [if_pos h0] at h
    by_cases h1:i<n
    · rw [if_pos h1] at h
      have e:i.toNat=j:=Option.some.inj h
      exact ⟨by rw [seqIndex_of h0 h1,e],by omega,by omega,h1⟩
    · rw [if_neg h1] at h; cases h
  · rw [if_neg h0] at h
    by_cases h1:-(n:Int)≤i
    · rw [if_pos h1] at h
      have e:(i+n).toNat=j:=Option.some.inj h
      exact ⟨by rw [seqIndex_neg (by omega) h1,e],by omega,h1,by omega⟩
    · rw [if_neg h1] at h; cases h
theorem Sg {α:Type} {xs:List α} {i:Int} {v:α} (h:atI xs i=some v):∃ j,seqIndex? i xs.length=some j∧xs[j]? = some v∧j<xs.length∧-(xs.length:Int)≤i∧i<xs.length:=by
  unfold atI at h
  cases e:ixN xs.length i with
  | none=>rw [e] at h; cases h
  | some j =>
    rw [e] at h
    obtain ⟨h1,h2,h3,h4⟩:=a5t e
    exact ⟨j,h1,h,h2,h3,h4⟩
noncomputable def Zx (b:Expr):Prop:=∀ o i,subscripted b false o i=operate [o,i] (getItem o i)
noncomputable def IxR (X:Cx) (r:R2):Prop :=
  ∀ (value slice:Expr) (pins:List (Addr × Obj)) (s:Shared) (σ:St) (H:Hp) (x y:V) (v u:Value) (Q:VK),Inv X pins σ H s→RelV x v→RelV y u→r x y H Q →
    subscripted slice false v u=operate [v,u] (getItem v u)→wpAny (model X.prog X.w) X.A (subscriptTail value slice v u) (EP X pins σ Q) X.xe s
noncomputable def MtR (X:Cx) (id:String) (r:V→List V→Hp→VK→Prop):Prop :=
  ∀ (pins:List (Addr × Obj)) (s:Shared) (σ:St) (H:Hp) (x:V) (xs:List V) (v:Value) (us:List Value) (Q:VK),Inv X pins σ H s→RelV x v→Vals xs us→r x xs H Q →
    wpAny (model X.prog X.w) X.A (call (.builtin id) (v::us)) (EP X pins σ Q) X.xe s
noncomputable section
variable {X:Cx} {a b:Expr} {ta tb:TE} {pos:Pos}
theorem IxR.or {r r':R2} (h:IxR X r) (h':IxR X r'):IxR X (fun x y H Q=>r x y H Q∨r' x y H Q):=by
  intro value slice pins s σ H x y v u Q I rx ry q hs
  rcases q with q | q
  · exact h value slice pins s σ H x y v u Q I rx ry q hs
  · exact h' value slice pins s σ H x y v u Q I rx ry q hs
theorem MtR.or {id:String} {r r':V→List V→Hp→VK→Prop} (h:MtR X id r) (h':MtR X id r'):MtR X id (fun x xs H Q=>r x xs H Q∨r' x xs H Q):=by
  intro pins s σ H x xs v us Q I rx rs q
  rcases q with q | q
  · exact h pins s σ H x xs v us Q I rx rs q
  · exact h' pins s σ H x xs v us Q I rx rs q
theorem abp {r:R2} (hr:IxR X r) (ha:PE X a ta) (hb:PE X b tb) (hs:Zx b):PE X (.Subscript a b pos) (tOp r ta tb):=by
  intro pins s σ H Q I h
  exact Subscript_ (acw ha hb I h fun v u s2 x y H2 I2 rx ry q=>hr a b pins s2 σ H2 x y v u Q I2 rx ry q (hs _ _))
noncomputable def aeg (K:PySem.W.Frag):R2:=fun x y H Q=>∃ p xs i v,x=.ref p∧y=.int i∧SqL K H p xs∧atI xs i=some v∧Q v H
noncomputable def ae0 (K:PySem.W.Frag):R2:=fun x y H Q=>∃ p xs i v,x=.ref p∧y=.int i∧SqT K H p xs∧atI xs i=some v∧Q v H
noncomputable def ae2:R2:=fun x y H Q=>∃ z i c,x=.str z∧y=.int i∧z.length≤sizeLine∧atI z.cps.toList i=some c∧Q (.str ⟨#[c]⟩) H
theorem a65:IxR X (aeg X.K):=by
  intro value slice pins s σ H x y v u Q I rx ry h hs
  obtain ⟨p,xs,i,z,rfl,rfl,hq,he,q⟩:=h
  cases rx
  obtain ⟨t,rfl⟩:=ry
  obtain ⟨its,r,pl,hz⟩:=I.list hq
  obtain ⟨j,h1,h2,h3,h4,h5⟩:=Sg he
  obtain ⟨w,ew,rw'⟩:=r.get h2
  have hl:=r.length
  have hn:=Q5
  have fin:EP X pins σ Q w s:=⟨z,H,I,rw',q⟩
  by_cases h0:0≤i
  · have hj:i.toNat=j:=by
      rw [seqIndex_of h0 h5] at h1
      exact Option.some.inj h1
    exact item_listR pl.isList h0 (by omega) (by rw [hj]; simpa using ew) fin hs
  · have hj:(i+(its.toArray.size:Int)).toNat=j:=by
      rw [seqIndex_neg (by omega) h4] at h1
      rw [List.size_toArray,← hl]
      exact Option.some.inj h1
    exact subscriptTail_builtinR (x:=w) pl.isList.typeIs slot_list_getitem.lookup
      (wpAny_getItem_list_neg (Q:=fun r s'=>r=w∧EP X pins σ Q r s') pl.isList (by omega) (by rw [List.size_toArray] <;> omega) (by omega) (by rw [hj]; simpa using ew) ⟨rfl,fin⟩) hs
theorem a94:IxR X (ae0 X.K):=by
  intro value slice pins s σ H x y v u Q I rx ry h hs
  obtain ⟨p,xs,i,z,rfl,rfl,hq,he,q⟩:=h
  cases rx
  obtain ⟨t,rfl⟩:=ry
  obtain ⟨its,r,pl,hz⟩:=I.tuple hq
  obtain ⟨j,h1,h2,h3,h4,h5⟩:=Sg he
  obtain ⟨w,ew,rw'⟩:=r.get h2
  have hl:=r.length
  have hn:=Q5
  have fin:EP X pins σ Q w s:=⟨z,H,I,rw',q⟩
  exact subscriptTail_builtinR (x:=w) pl.typeIs slot_tuple_getitem.lookup
    (getItem_tuple (j:=j) (Q:=fun r s'=>r=w∧EP X pins σ Q r s') pl (by omega) (by omega) (by rw [List.size_toArray,← hl]; exact h1) (by simpa using ew) ⟨rfl,fin⟩) hs
theorem a8u:IxR X ae2:=by
  intro value slice pins s σ H x y v u Q I rx ry h hs
  obtain ⟨z,i,c,rfl,rfl,hz,he,q⟩:=h
  obtain ⟨t,rfl⟩:=rx
  obtain ⟨t',rfl⟩:=ry
  obtain ⟨j,h1,h2,h3,h4,h5⟩:=Sg he
  have hl:z.cps.toList.length=z.length:=by simp [Str.length]
  rw [hl] at h1 h4 h5
  have hn:=Q5
  exact tail_any (typeIs_str s z t) slot_str_getitem.lookup (getItem_str (c:=c) (by
    have e1:decide (i < -(2 ^ 63:Int))=false:=decide_eq_false (by omega)
    have e2:decide (i ≥ 2 ^ 63)=false:=decide_eq_false (by omega)
    rw [e1,e2,Bool.or_false]) (by rw [h1]; simpa using h2) ⟨.str ⟨#[c]⟩,H,I.tok _,⟨_,rfl⟩,q⟩) hs
theorem Inv.lst {pins:List (Addr × Obj)} {σ:St} {H:Hp} {s:Shared} {p:Addr} {xs:List V} (I:Inv X pins σ H s) (h:H p=some (.lst xs)) :
    ∃ (its:List Value) (n:Nat),Vals xs its∧s.heap.get? p=some { cls:=.type "list",data:=.seq its.toArray n }∧xs.length≤sizeLine:=by
  obtain ⟨z,its,n,r,e⟩:=I.hok p _ h
  exact ⟨its,n,r,e,z⟩
theorem Qk (lo hi:Option Int) (n:Nat):(sliceBounds lo hi none n).1=((HT.sIx n 0 lo:Nat):Int)∧(sliceBounds lo hi none n).2.1=((HT.sIx n n hi:Nat):Int)∧(sliceBounds lo hi none n).2.2=1:=by
  refine ⟨?_,?_,rfl⟩
  · cases lo with
    | none=>simp [sliceBounds,HT.sIx]
    | some i =>
      simp only [sliceBounds,HT.sIx,Option.getD_none,show (1:Int) > 0 by decide,if_true]
      by_cases h:i<0
      · simp only [h,if_true] <;> omega
      · simp only [h,if_false] <;> omega
  · cases hi with
    | none=>simp [sliceBounds,HT.sIx]
    | some i =>
      simp only [sliceBounds,HT.sIx,Option.getD_none,show (1:Int) > 0 by decide,if_true]
      by_cases h:i<0
      · simp only [h,if_true] <;> omega
      · simp only [h,if_false] <;> omega
theorem Mw (its:List Value) (lo hi:Option Int):slicePick its.toArray lo hi none=((its.drop (HT.sIx its.length 0 lo)).take (HT.sIx its.length its.length hi - HT.sIx its.length 0 lo)).toArray:=by
  obtain ⟨h1,h2,h3⟩:=Qk lo hi its.toArray.size
  unfold slicePick
  rw [h1,h2,h3]
  simp only [sliceRange_one,pick_run,List.size_toArray] <;> rfl
noncomputable def ae9 (K:PySem.W.Frag):V→Option Int→Option Int→Hp→VK→Prop:=fun x lo hi H Q=>∃ a xs,x=.ref a∧SqL K H a xs∧∀ p,H p=none→Q (.ref p) (upd H p (.lst (a1e xs lo hi)))
theorem a5p:SlR X (ae9 X.K):=by
  intro pins s σ H x v vl vu lo hi sl Q I rx hs pl pu h
  obtain ⟨a,xs,rfl,hx,q⟩:=h
  cases rx
  obtain ⟨its,r,ht,hz⟩:=I.list hx
  have hlen:=r.length
  refine ⟨"list",_,slot_list_getitem.lookup,ht.isList.typeIs,?_⟩
  refine wpAny_getItem_list_slice ht.isList hs pl pu .none (by simp) ?_ (by rw [List.size_toArray] <;> omega)
  rw [Mw,← hlen]
  refine ⟨.ref s.heap.objs.size,_,I.laid (t':=s.toks) (o:=.lst (a1e xs lo hi)) (fun b ob q=>Heap.get?_push_of_some _ q) (Nat.le_refl _) ?_,rfl,q _ (I.hok.fresh (Nat.le_refl _))⟩
  exact ⟨Nat.le_trans (Jk xs lo hi) hz,_,0,(r.drop (HT.sIx xs.length 0 lo)).take (HT.sIx xs.length xs.length hi - HT.sIx xs.length 0 lo),Heap.get?_push_size _ rfl⟩
theorem Ii:Fo X (.builtin "len") (fun xs H Q=>∃ p ys,xs=[.ref p]∧(SqL X.K H p ys∨SqT X.K H p ys)∧Q (.int ys.length) H):=by
  intro pins s σ H xs us Q I r h
  obtain ⟨p,ys,rfl,hq,q⟩:=h
  obtain ⟨u,rfl,rx⟩:=vals1 r
  cases rx
  have hn:=Q5
  rcases hq with hq | hq
  · obtain ⟨its,r',pl,hz⟩:=I.list hq
    have hlen:=r'.length
    exact Calls.call_len_list pl.isList (by simp only [List.size_toArray] <;> omega) ⟨.int ys.length,H,I.tok _,⟨s.toks+1,by rw [List.size_toArray,hlen]⟩,q⟩
  · obtain ⟨its,r',pl,hz⟩:=I.tuple hq
    have hlen:=r'.length
    exact len_tuple pl (by simp only [List.size_toArray] <;> omega) ⟨.int ys.length,H,I.tok _,⟨s.toks+1,by rw [List.size_toArray,hlen]⟩,q⟩
theorem Pz:Fo X (.builtin "len") (fun xs H Q=>∃ z,xs=[.str z]∧z.length≤sizeLine∧Q (.int z.length) H):=by
  intro pins s σ H xs us Q I r h
  obtain ⟨z,rfl,hz,q⟩:=h
  obtain ⟨u,rfl,t,rfl⟩:=vals1 r
  have hn:=Q5
  exact len_str (by omega) ⟨.int z.length,H,I.tok _,⟨_,rfl⟩,q⟩
theorem Fo.or {f:Value} {r r':List V→Hp→VK→Prop} (h:Fo X f r) (h':Fo X f r'):Fo X f (fun xs H Q=>r xs H Q∨r' xs H Q):=by
  intro pins s σ H xs us Q I rs q
  rcases q with q | q
  · exact h pins s σ H xs us Q I rs q
  · exact h' pins s σ H xs us Q I rs q
theorem Gq:Fo X (.type "tuple") (fun xs H Q=>∃ p ys,xs=[.ref p]∧((SqL X.K H p ys∧∀ l,H l=none→Q (.ref l) (upd H l (.tup ys)))∨(SqT X.K H p ys∧Q (.ref p) H))):=by
  intro pins s σ H xs us Q I r h
  obtain ⟨p,ys,rfl,h⟩:=h
  obtain ⟨u,rfl,rx⟩:=vals1 r
  cases rx
  rcases h with ⟨hq,q⟩ | ⟨hq,q⟩
  · obtain ⟨its,r',pl,hz⟩:=I.list hq
    have hlen:=r'.length
    refine call_tuple_list pl.isList (fun h' kp=>?_) (by simp only [List.size_toArray] <;> omega)
    have I1:Inv X pins σ H { s with heap:=h' }:=I.kept (t':=s.toks) kp
    have I2:Inv X pins σ (upd H h'.objs.size (.tup ys)) { s with heap:=h'.push { cls:=.type "tuple",data:=.seq its.toArray } } :=
      I1.laid (t':=s.toks) (fun b o e=>Heap.get?_push_of_some _ e) (Nat.le_refl _) (show yr X.prog X.w _ _ _ (.tup ys) from ⟨hz,its,r',a1n.new _ _⟩)
    exact ⟨.ref h'.objs.size,_,I2,rfl,q _ (I1.hok.fresh (Nat.le_refl _))⟩
  · obtain ⟨its,r',pl,hz⟩:=I.tuple hq
    exact call_tuple_same pl ⟨.ref p,H,I,rfl,q⟩
noncomputable def tyV (K:PySem.W.Frag) (T:String) (x:V) (H:Hp):Prop:=match x with
  | .str _=>T = "str"
  | .int _=>T = "int"
  | .ref p=>(T = "list" ∧ ∃ xs,SqL K H p xs)∨(T = "tuple" ∧ ∃ o,K.lookup p=some o∧o.cls=.type "tuple" ∧ o.dict=none) ∨
      (T = "dict" ∧ ((∃ kvs,H p=some (.dK kvs))∨∃ kvs,H p=some (.dT kvs)))∨(T = "set" ∧ ∃ S n,H p=some (.set S n))
  | _=>False
theorem a8b {pins:List (Addr × Obj)} {σ:St} {H:Hp} {s:Shared} {T:String} {x:V} {v:Value} (I:Inv X pins σ H s) (r:RelV x v) (ty:tyV X.K T x H) :
    s.TypeIs v T∧∀ a,v=.ref a→∃ ob,s.heap.get? a=some ob∧ob.dict=none:=by
  cases x with
  | str z =>
    obtain ⟨t,rfl⟩:=r
    cases (show T = "str" from ty)
    exact ⟨typeIs_str s z t,fun _ e=>nomatch e⟩
  | int i =>
    obtain ⟨t,rfl⟩:=r
    cases (show T = "int" from ty)
    exact ⟨typeIs_int s i t,fun _ e=>nomatch e⟩
  | ref p =>
    cases r
    rcases ty with ⟨rfl,xs,hq⟩ | ⟨rfl,o,hk,hc,hd⟩ | ⟨rfl,hk⟩ | ⟨rfl,S,n,hk⟩
    · obtain ⟨its,_,pl,_⟩:=I.list hq
      refine ⟨pl.isList.typeIs,fun a e=>?_⟩
      cases e
      obtain ⟨o,n,e,c,hd,_⟩:=pl
      exact ⟨o,e,hd⟩
    · refine ⟨⟨o,I.kIn p o hk,hc⟩,fun a e=>?_⟩
      cases e
      exact ⟨o,I.kIn _ o hk,hd⟩
    · have z:∃ o,s.heap.get? p=some o∧o.ExactDict:=by
        rcases hk with ⟨kvs,hk⟩ | ⟨kvs,hk⟩
        · obtain ⟨_,_,_,_,o,_,_,e,ex,_⟩:=I.hok p _ hk
          exact ⟨o,e,ex⟩
        · obtain ⟨_,_,_,_,o,_,_,e,ex,_⟩:=I.hok p _ hk
          exact ⟨o,e,ex⟩
      obtain ⟨o,e,ex⟩:=z
      refine ⟨⟨o,e,ex.1⟩,fun a e2=>?_⟩
      cases e2
      exact ⟨o,e,ex.2.1⟩
    · obtain ⟨o,_,_,_,e,ex,_⟩:=I.hok p _ hk
      refine ⟨⟨o,e,ex.1⟩,fun a e2=>?_⟩
      cases e2
      exact ⟨o,e,ex.2.1⟩
  | _=>exact False.elim ty
noncomputable def tBM (K:PySem.W.Frag) (T:String) (r:V→List V→Hp→VK→Prop) (to:TE) (t:TA):TE:=fun σ H Q=>to σ H fun x H1=>tyV K T x H1∧t σ H1 fun xs H2=>r x xs H2 Q
variable {o e:Expr} {es:List Expr} {to:TE} {t:TA} {name:Str} {apos cpos:Pos} {T id:String} {r:V→List V→Hp→VK→Prop}
theorem Hx (pa:PlainAttrs T) (slot:Slot T name id) (hty:typeOf (.builtin id)=pure (.type "method_descriptor")) (hm:MtR X id r) (ho:PE X o to) (ha:PA X (e::es) t)
    (hbase:attributeBase o name X.env (eval o X.env)=eval o X.env:=by rfl)
    (hfew:((backTo cpos (starEach (e::es) X.env)).all (fun x=>!x.1)&&(backToKw cpos (keywordEach [] X.env)).all (fun x=>x.1.isSome)
      && decide ((e::es).length+([]:List Keyword).length+(if ([]:List Keyword).isEmpty then 0 else 1)<30))=true:=by rfl)
    (hline:(apos.endLine==cpos.line)=true:=by rfl) (hs:starEach (e::es) X.env=(false,eval e X.env)::starEach es X.env:=by rfl) (hplain:(backTo cpos (starEach es X.env)).any (·.1)=false:=by rfl) :
    PE X (.Call (.Attribute o name apos) (e::es) [] cpos) (tBM X.K T r to t):=by
  intro pins s σ H Q I h
  refine wpAny_Call_method_late hbase hfew hline rfl (thn (ho pins s σ H _ I h) fun v s1 z0=>?_)
  obtain ⟨x,H1,I1,r1,ty,q1⟩:=z0
  obtain ⟨h1,h2⟩:=a8b I1 r1 ty
  refine ⟨T,id,pa,slot,hty,h1,h2,?_⟩
  have hA:=ha cpos pins s1 σ H1 _ I1 q1
  rw [hs] at hA ⊢
  refine Calls.callWith_builtin (by show (false||(backTo cpos (starEach es X.env)).any (·.1))=false; rw [hplain] <;> rfl) (Calls.evalArgs_plain ?_)
  exact thn hA fun us s2 ⟨vs,H2,I2,r2,q2⟩=>hm pins s2 σ H2 x vs v us Q I2 r1 r2 q2
end
end L2
namespace L2
open PySem PySem.Spec PyProof.Rows
noncomputable def MtM (X:Cx) (id:String) (r:V→List V→Hp→VK→Prop):Prop :=
  ∀ (pins:List (Addr × Obj)) (s:Shared) (σ:St) (H:Hp) (x:V) (xs:List V) (v:Value) (us:List Value) (Q:VK),Inv X pins σ H s→RelV x v→Vals xs us→r x xs H Q →
    wpAny (model X.prog X.w) X.A (call (.builtin id) (v::us)) (EP X pins σ Q) X.xe s
theorem Vals.one {x:V} {us:List Value} (h:Vals [x] us):∃ u,us=[u]∧RelV x u:=by
  cases h with
  | cons r t=>cases t; exact ⟨_,rfl,r⟩
theorem Vals.two {x y:V} {us:List Value} (h:Vals [x,y] us):∃ u v,us=[u,v]∧RelV x u∧RelV y v:=by
  cases h with
  | cons r t=>obtain ⟨v,e,q⟩:=Vals.one t; exact ⟨_,v,congrArg _ e,r,q⟩
theorem Vals.zero:∀ {us:List Value},Vals [] us→us=[]
  | _,.nil=>rfl
theorem Vals.rep {xs:List V} {us:List Value} (h:Vals xs us):∀ k:Nat,Vals (List.replicate k xs).flatten (List.replicate k us).flatten
  | 0=>.nil
  | k+1=>by
    rw [List.replicate_succ,List.replicate_succ,List.flatten_cons,List.flatten_cons]
    exact Vals.append h (Vals.rep h k)
noncomputable section
variable {X:Cx} {pins:List (Addr × Obj)} {σ:St} {H:Hp} {s:Shared} {l b:Addr} {xs ys zs:List V}
theorem Inv.ado {its its':List Value} {n:Nat} {f:Array Value→Array Value} {t':Nat} (I:Inv X pins σ H s) (hH:H l=some (.lst xs))
    (e:s.heap.get? l=some { cls:=.type "list",data:=.seq its.toArray n }) (hf:f its.toArray=its'.toArray) (hv:Vals ys its') (hz:ys.length≤sizeLine) :
    Inv X pins σ (upd H l (.lst ys)) { s with heap:=s.heap.update l (Obj.mapSeq f),toks:=t' }:=by
  have q:=PySem.IsL.update e f
  rw [hf] at q
  refine I.write (x:=l) (e:=l) (by rw [hH]; exact trivial) (.inl rfl) (fun b' u hb hu=>(Heap.get?_update_other s.heap (Obj.mapSeq f) (Ne.symm hb)).trans hu) ⟨_,q⟩ ?_
  exact ⟨hz,its',_,hv,q⟩
theorem Inv.aeb {its:List Value} {t':Nat} (I:Inv X pins σ H s) (hv:Vals ys its) (hz:ys.length≤sizeLine) :
    Inv X pins σ (upd H s.heap.objs.size (.lst ys)) { s with heap:=s.heap.push { cls:=.type "list",data:=.seq its.toArray },toks:=t' } :=
  I.laid (fun _ _ q=>Heap.get?_push_of_some _ q) (Nat.le_refl _) ⟨hz,its,0,hv,Heap.get?_push_size _ rfl⟩
theorem Inv.fresh (I:Inv X pins σ H s):H s.heap.objs.size=none:=I.hok.fresh (Nat.le_refl _)
theorem Inv.adf (I:Inv X pins σ H s) (hH:H l=some (.lst xs)):xs.length≤sizeLine∧∃ (its:List Value) (n:Nat),Vals xs its∧xs.length=its.length∧s.heap.get? l=some { cls:=.type "list",data:=.seq its.toArray n }:=by
  obtain ⟨z,its,n,r,e⟩:=I.hok l _ hH
  exact ⟨z,its,n,r,r.length,e⟩
theorem a3m {n:Nat} (h:n≤sizeLine):Builtin.List.listTooLong n=false:=by
  unfold Builtin.List.listTooLong
  exact decide_eq_false (by omega)
end
noncomputable section
variable {X:Cx}
noncomputable def Zv:V→List V→Hp→VK→Prop:=fun x vs H Q=>∃ l xs y,x=.ref l∧vs=[y]∧H l=some (.lst xs)∧xs.length<sizeLine∧Q .non (upd H l (.lst (xs++[y])))
theorem Ay:MtM X "list.append" Zv:=by
  intro pins s σ H x vs v us Q I rx rv h
  obtain ⟨l,xs,y,rfl,rfl,hH,hz,q⟩:=h
  cases rx
  obtain ⟨u,rfl,ru⟩:=rv.one
  obtain ⟨z,its,n,r,hl,e⟩:=I.adf hH
  refine call_meets F.slot_list_append ⟨_,e,rfl⟩ F.entry_list_append (F.args_list_append_2 _ _) (PySem.list_append l its.toArray n u (by rw [List.size_toArray]; omega)) ⟨e,?_⟩
  refine ⟨.non,_,I.ado (its':=its++[u]) hH e (by simp) (r.append (.cons ru .nil)) ?_,rfl,q⟩
  rw [List.length_append,List.length_singleton]
  omega
end
noncomputable section
variable {prog:Program} {w:World} {A:Around} {E:Value→Shared→Prop} {s:Shared}
end
noncomputable section
variable {X:Cx}
end
end L2
end
noncomputable section
set_option linter.all false
set_option maxRecDepth 100000
namespace L2
open PySem PySem.Spec PyProof.Rows
noncomputable section
variable {κ:Type} [DecidableEq κ]
noncomputable def Ln (kvs:List (κ × V)) (k:κ):Option V:=(kvs.find? fun kv=>decide (kv.1=k)).map (·.2)
noncomputable def putK (kvs:List (κ × V)) (k:κ) (v:V):List (κ × V) :=
  if (kvs.any fun kv=>decide (kv.1=k))=true then kvs.map (fun kv=>if kv.1=k then (kv.1,v) else kv) else kvs++[(k,v)]
theorem Gm {p:κ × V} {r:List (κ × V)} {k:κ} (e:p.1=k):Ln (p::r) k=some p.2:=by simp [Ln,List.find?_cons,e]
theorem Gf {p:κ × V} {r:List (κ × V)} {k:κ} (e:¬ p.1=k):Ln (p::r) k=Ln r k:=by simp [Ln,List.find?_cons,e]
theorem V4 (k:κ):∀ kvs:List (κ × V),(kvs.any fun kv=>decide (kv.1=k))=(Ln kvs k).isSome
  | []=>rfl
  | p::r=>by
    rw [List.any_cons]
    by_cases e:p.1=k
    · simp only [Gm e,decide_eq_true e,Bool.true_or,Option.isSome_some]
    · rw [Gf e,decide_eq_false e,Bool.false_or]; exact V4 k r
theorem Kq (kvs:List (κ × V)) (k:κ) (v:V):(putK kvs k v).length≤kvs.length+1:=by
  unfold putK
  split
  · rw [List.length_map]; omega
  · rw [List.length_append,List.length_cons,List.length_nil]; omega
theorem Og.Dp {o:Option V} {u:Option Value} (r:Og o u):o.isSome=u.isSome:=by
  cases o with
  | none=>cases u with
    | none=>rfl
    | some _=>exact (show False from r).elim
  | some _=>cases u with
    | none=>exact (show False from r).elim
    | some _=>rfl
theorem Og.getD {o:Option V} {u:Option Value} {d:V} {d':Value} (r:Og o u) (rd:RelV d d'):RelV (o.getD d) (u.getD d'):=by
  cases o with
  | none=>cases u with
    | none=>exact rd
    | some _=>exact (show False from r).elim
  | some _=>cases u with
    | none=>exact (show False from r).elim
    | some _=>exact r
theorem KV.val {kvs:List (κ × V)} {vs:List (κ × Value)} (r:KV kvs vs) (k:κ):Og (Ln kvs k) (valueAt vs k):=by
  unfold KV at r
  induction r with
  | nil=>exact True.intro
  | @cons p q ps qs h t ih =>
    obtain ⟨h1,h2⟩:=h
    by_cases e:p.1=k
    · have e':q.1=k:=h1.symm.trans e
      have b:valueAt (q::qs) k=some q.2:=by simp [valueAt,List.find?_cons,e']
      rw [Gm e,b]; exact h2
    · have e':¬ q.1=k:=fun z=>e (h1.trans z)
      have b:valueAt (q::qs) k=valueAt qs k:=by simp [valueAt,List.find?_cons,e']
      rw [Gf e,b]; exact ih
theorem KV.any {kvs:List (κ × V)} {vs:List (κ × Value)} (r:KV kvs vs) (k:κ):(kvs.any fun kv=>decide (kv.1=k))=vs.any fun kv=>decide (kv.1=k):=by
  unfold KV at r
  induction r with
  | nil=>rfl
  | cons h t ih=>rw [List.any_cons,List.any_cons,ih,h.1]
theorem KV.repl {kvs:List (κ × V)} {vs:List (κ × Value)} (r:KV kvs vs) (k:κ) {y:V} {u:Value} (ry:RelV y u) :
    KV (kvs.map fun kv=>if kv.1=k then (kv.1,y) else kv) (vs.map fun kv=>if kv.1=k then (kv.1,u) else kv):=by
  unfold KV at r ⊢
  induction r with
  | nil=>exact .nil
  | @cons p q ps qs h t ih =>
    rw [List.map_cons,List.map_cons]
    refine .cons ?_ ih
    obtain ⟨h1,h2⟩:=h
    by_cases e:p.1=k
    · rw [if_pos e,if_pos (h1.symm.trans e)]; exact ⟨h1,ry⟩
    · rw [if_neg e,if_neg (fun z=>e (h1.trans z))]; exact ⟨h1,h2⟩
theorem KV.put {kvs:List (κ × V)} {vs:List (κ × Value)} (r:KV kvs vs) (k:κ) {y:V} {u:Value} (ry:RelV y u):KV (putK kvs k y) (stored vs k u):=by
  unfold putK stored
  rw [r.any k]
  by_cases e:(vs.any fun kv=>decide (kv.1=k))=true
  · rw [if_pos e,if_pos e]; exact r.repl k ry
  · rw [if_neg e,if_neg e]; exact Paired.snoc r ⟨rfl,ry⟩
theorem KV.keys {kvs:List (κ × V)} {vs:List (κ × Value)} (r:KV kvs vs):kvs.map (·.1)=vs.map (·.1):=by
  unfold KV at r
  induction r with
  | nil=>rfl
  | cons h t ih=>rw [List.map_cons,List.map_cons,ih,h.1]
theorem KV.length {kvs:List (κ × V)} {vs:List (κ × Value)} (r:KV kvs vs):kvs.length=vs.length:=Paired.length r
end
theorem Rb {P:Program} {w:World} {k:Key} {u:Value} (r:RelV (kV k) u):(nj P w).is k u=true:=by
  cases k with
  | inl i=>obtain ⟨t,e⟩:=(show ∃ t,u=Value.int i t from r); subst e; exact Rr P w i t
  | inr x=>obtain ⟨t,e⟩:=(show ∃ t,u=Value.str x t from r); subst e; exact T4 P w x t
theorem Jq {P:Program} {w:World}:∀ {ks:List Key} {us:List Value},Vals (ks.map kV) us→ItemsAre (nj P w) ks us
  | [],_,r=>by rw [List.map_nil] at r; cases r; exact .nil
  | k::ks,_,r=>by
    rw [List.map_cons] at r
    cases r with
    | cons h t=>exact .cons (Rb h) (Jq t)
noncomputable abbrev KT (H:Hp):List (List Key × V)→List (List Key × Addr × Value)→Prop:=Paired fun p q=>p.1=q.1∧H q.2.1=some (.tup (p.1.map kV))∧RelV p.2 q.2.2
theorem KT.val {H:Hp} {kvs:List (List Key × V)} {xs:List (List Key × Addr × Value)} (r:KT H kvs xs) (k:List Key):Og (Ln kvs k) ((atKey xs k).map (·.2)):=by
  induction r with
  | nil=>exact True.intro
  | @cons p q ps qs h t ih =>
    obtain ⟨h1,_,h2⟩:=h
    by_cases e:p.1=k
    · have e':q.1=k:=h1.symm.trans e
      have b:atKey (q::qs) k=some q.2:=by simp [atKey,List.find?_cons,e']
      rw [Gm e,b]; exact h2
    · have e':¬ q.1=k:=fun z=>e (h1.trans z)
      have b:atKey (q::qs) k=atKey qs k:=by simp [atKey,List.find?_cons,e']
      rw [Gf e,b]; exact ih
theorem KT.repl {H:Hp} {kvs:List (List Key × V)} {xs:List (List Key × Addr × Value)} (r:KT H kvs xs) (k:List Key) {y:V} {u:Value} (ry:RelV y u) :
    KT H (kvs.map fun kv=>if kv.1=k then (kv.1,y) else kv) (xs.map (putAt k u)):=by
  induction r with
  | nil=>exact .nil
  | @cons p q ps qs h t ih =>
    rw [List.map_cons,List.map_cons]
    refine .cons ?_ ih
    obtain ⟨h1,h2,h3⟩:=h
    unfold putAt
    by_cases e:p.1=k
    · rw [if_pos e,if_pos (h1.symm.trans e)]; exact ⟨h1,h2,ry⟩
    · rw [if_neg e,if_neg (fun z=>e (h1.trans z))]; exact ⟨h1,h2,h3⟩
theorem KT.put {H:Hp} {kvs:List (List Key × V)} {xs:List (List Key × Addr × Value)} (r:KT H kvs xs) (k:List Key) {b:Addr} {y:V} {u:Value} (hb:H b=some (.tup (k.map kV))) (ry:RelV y u) :
    KT H (putK kvs k y) (storedH xs k b u):=by
  have e:(kvs.any fun kv=>decide (kv.1=k))=(atKey xs k).isSome:=by
    rw [V4,(r.val k).Dp,Option.isSome_map]
  unfold putK storedH
  rw [e]
  by_cases q:(atKey xs k).isSome=true
  · rw [if_pos q,if_pos q]; exact r.repl k ry
  · rw [if_neg q,if_neg q]; exact Paired.snoc r ⟨rfl,hb,ry⟩
theorem KT.keeps {H H':Hp} {kvs:List (List Key × V)} {xs:List (List Key × Addr × Value)} (r:KT H kvs xs) (ht:∀ b ys,H b=some (.tup ys)→H' b=some (.tup ys)):KT H' kvs xs :=
  Paired.adh r fun _ _ z=>⟨z.1,ht _ _ z.2.1,z.2.2⟩
noncomputable section
variable {P:Program} {w:World} {H:Hp} {h:Heap} {a:Addr}
theorem a9f {u:HO} (ok:HOk P w H h) (e:Rd H a u):yr P w H h a u:=e.ok ok
theorem Ia {kvs:List (Key × V)} (ok:HOk P w H h) (e:Rd H a (.dK kvs)):kvs.length≤sizeLine∧(a==sysModules)=false∧∃ vs,KV kvs vs∧h.DictOf (nj P w) a vs :=
  show yr P w H h a (.dK kvs) from a9f ok e
theorem ac6 {kvs:List (Key × V)} (ok:HOk P w H h) (e:H a=some (.dK kvs)):kvs.length≤sizeLine∧(a==sysModules)=false∧∃ vs,KV kvs vs∧h.DictOf (nj P w) a vs:=Ia ok (.inl e)
theorem Mh {ks:List Key} (ok:HOk P w H h) (e:H a=some (.tup (ks.map kV))):(tupleKind (nj P w)).is h ks a:=by
  obtain ⟨_,its,r,o,h1,h2,_,n,h3⟩:=(show yr P w H h a (.tup (ks.map kV)) from ok a _ e)
  exact ⟨o,its.toArray,n,h1,h2,h3,by simpa using Jq r⟩
theorem O7 {kvs:List (List Key × V)} (ok:HOk P w H h) (e:Rd H a (.dT kvs)):kvs.length≤sizeLine∧(a==sysModules)=false ∧
    ∃ xs,KT H kvs xs∧h.DictOfH (tupleKind (nj P w)) a xs:=by
  obtain ⟨z,y,xs,r,o,es,ep,h1,h2,h3,h4,h5⟩:=(show yr P w H h a (.dT kvs) from a9f ok e)
  refine ⟨z,y,xs,r,o,es,ep,h1,h2,h3,h4,fun x hx=>?_,h5⟩
  have all:∀ {l:List (List Key × V)} {m:List (List Key × Addr × Value)},KT H l m→∀ x∈m,(tupleKind (nj P w)).is h x.1 x.2.1:=by
    intro l m q
    induction q with
    | nil=>intro x hx; exact nomatch hx
    | @cons p q ps qs hq t ih =>
      intro x hx
      rcases List.mem_cons.mp hx with e | hx
      · subst e
        exact Mh ok (by rw [← hq.1]; exact hq.2.1)
      · exact ih x hx
  exact all r x hx
theorem ab1 {kvs:List (List Key × V)} (ok:HOk P w H h) (e:H a=some (.dT kvs)):kvs.length≤sizeLine∧(a==sysModules)=false ∧
    ∃ xs,KT H kvs xs∧h.DictOfH (tupleKind (nj P w)) a xs:=O7 ok (.inl e)
end
noncomputable def Wj (H:Hp) (a:Addr) (y:V) (r:Option V):Prop :=
  (∃ kvs k,Rd H a (.dK kvs)∧y=kV k∧r=Ln kvs k)∨∃ kvs k b,Rd H a (.dT kvs)∧y=.ref b∧H b=some (.tup (k.map kV))∧r=Ln kvs k
noncomputable def a5e (H:Hp) (a:Addr) (y v:V) (H':Hp):Prop :=
  (∃ kvs k,H a=some (.dK kvs)∧y=kV k∧kvs.length<sizeLine∧H'=upd H a (.dK (putK kvs k v))) ∨
  ∃ kvs k b,H a=some (.dT kvs)∧y=.ref b∧H b=some (.tup (k.map kV))∧kvs.length<sizeLine∧H'=upd H a (.dT (putK kvs k v))
theorem Wj.k {H:Hp} {a:Addr} {kvs:List (Key × V)} {k:Key} (e:H a=some (.dK kvs)):Wj H a (kV k) (Ln kvs k):=.inl ⟨kvs,k,.inl e,rfl,rfl⟩
theorem Wj.t {H:Hp} {a b:Addr} {kvs:List (List Key × V)} {k:List Key} (e:H a=some (.dT kvs)) (eb:H b=some (.tup (k.map kV))):Wj H a (.ref b) (Ln kvs k):=.inr ⟨kvs,k,b,.inl e,rfl,eb,rfl⟩
theorem a5e.k {H:Hp} {a:Addr} {kvs:List (Key × V)} {k:Key} {v:V} (e:H a=some (.dK kvs)) (hl:kvs.length<sizeLine):a5e H a (kV k) v (upd H a (.dK (putK kvs k v))):=.inl ⟨kvs,k,e,rfl,hl,rfl⟩
theorem a5e.t {H:Hp} {a b:Addr} {kvs:List (List Key × V)} {k:List Key} {v:V} (e:H a=some (.dT kvs)) (eb:H b=some (.tup (k.map kV))) (hl:kvs.length<sizeLine) :
    a5e H a (.ref b) v (upd H a (.dT (putK kvs k v))):=.inr ⟨kvs,k,b,e,rfl,eb,hl,rfl⟩
noncomputable section
variable {X:Cx} {pins:List (Addr × Obj)} {σ:St} {H:Hp} {s:Shared} {a:Addr} {y v:V} {u r:Value} {o:Option V} {A:Around} {E:Value→Shared→Prop}
theorem Inv.big (I:Inv X pins σ H s):sysModules<s.heap.objs.size:=by
  have h:mainGlobals<s.heap.objs.size:=(I.mod.glob.keeps I.bk).lt
  exact Nat.lt_trans (by decide) h
theorem Q7 {Q:Value→Shared→Prop} (hu:A.units+1<cLine) (I:Inv X pins σ H s) (g:Wj H a y (some v)) (ry:RelV y u) (h:∀ w' s',Inv X pins σ H s'→RelV v w'→Q w' s') :
    wpAny (model X.prog X.w) A (getItem (.ref a) u) Q E s:=by
  rcases g with ⟨kvs,k,e,ey,l⟩ | ⟨kvs,k,b,e,ey,eb,l⟩
  · subst ey
    obtain ⟨z,hd,vs,rel,dd⟩:=Ia I.hok e
    obtain ⟨w',hw,rw'⟩:=Og.some_of (v:=v) (o:=valueAt vs k) (by rw [l]; exact rel.val k)
    exact wpAny_getItem_of (Rb ry) dd.mapOf hw (h w' _ (I.tok _) rw')
  · subst ey
    cases (show u=Value.ref b from ry)
    obtain ⟨z,hd,xs,rel,dd⟩:=O7 I.hok e
    obtain ⟨w',hw,rw'⟩:=Og.some_of (v:=v) (o:=(atKey xs k).map (·.2)) (by rw [l]; exact rel.val k)
    obtain ⟨p,hp,hp2⟩:=Option.map_eq_some_iff.mp hw
    refine wpAny_getItem_heap (tupleKind_room_in1 hu) (Mh I.hok eb) dd hp ?_
    rw [hp2]
    exact h w' _ (I.tok _) rw'
theorem aeu {Q:Value→Shared→Prop} (hu:A.units+1<cLine) (I:Inv X pins σ H s) (g:Wj H a y o) (ry:RelV y u) (h:∀ s',Inv X pins σ H s'→Q (.bool o.isSome) s') :
    wpAny (model X.prog X.w) A (compareOp .In u (.ref a)) Q E s:=by
  rcases g with ⟨kvs,k,e,ey,l⟩ | ⟨kvs,k,b,e,ey,eb,l⟩
  · subst ey
    obtain ⟨z,hd,vs,rel,dd⟩:=Ia I.hok e
    refine wpAny_in_of (Rb ry) hd dd.mapOf ?_
    rw [← (rel.val k).Dp,← l]
    exact h _ (I.tok _)
  · subst ey
    cases (show u=Value.ref b from ry)
    obtain ⟨z,hd,xs,rel,dd⟩:=O7 I.hok e
    refine wpAny_in_heap (tupleKind_room_in1 hu) (Mh I.hok eb) hd dd ?_
    have q:=(rel.val k).Dp
    rw [Option.isSome_map] at q
    rw [← q,← l]
    exact h _ (I.tok _)
theorem a6s {Q:Value→Shared→Prop} (hu:A.units+1<cLine) (I:Inv X pins σ H s) (g:Wj H a y o) (ry:RelV y u) (h:∀ s',Inv X pins σ H s'→Q (.bool (!o.isSome)) s') :
    wpAny (model X.prog X.w) A (compareOp .NotIn u (.ref a)) Q E s:=by
  rcases g with ⟨kvs,k,e,ey,l⟩ | ⟨kvs,k,b,e,ey,eb,l⟩
  · subst ey
    obtain ⟨z,hd,vs,rel,dd⟩:=Ia I.hok e
    refine wpAny_notIn_of (Rb ry) hd dd.mapOf ?_
    rw [← (rel.val k).Dp,← l]
    exact h _ (I.tok _)
  · subst ey
    cases (show u=Value.ref b from ry)
    obtain ⟨z,hd,xs,rel,dd⟩:=O7 I.hok e
    refine wpAny_notIn_heap (tupleKind_room_in1 hu) (Mh I.hok eb) hd dd ?_
    have q:=(rel.val k).Dp
    rw [Option.isSome_map] at q
    rw [← q,← l]
    exact h _ (I.tok _)
theorem Y6 {h':Heap} {t':Nat} {ob:HO} (I:Inv X pins σ H s) (mu:Mut (H a)) (hs:Heap.SameBut a s.heap h') (he:∃ q,h'.get? a=some q) (new:yr X.prog X.w (upd H a ob) h' a ob) :
    Inv X pins σ (upd H a ob) { s with heap:=h',toks:=t' } :=
  I.write (x:=a) (e:=a) mu (.inl rfl) (fun b q hb z=>(hs.2 b hb).trans z) he new
theorem Uu {P:Program} {w:World} {H':Hp} {h':Heap} {kvs:List (Key × V)} {vs:List (Key × Value)} (z:kvs.length≤sizeLine) (hd:(a==sysModules)=false) (rel:KV kvs vs) (dd:h'.DictOf (nj P w) a vs) :
    yr P w H' h' a (.dK kvs):=⟨z,hd,vs,rel,dd⟩
theorem Yy {H':Hp} {Q:Unit→Shared→Prop} (hu:A.units+1<cLine) (I:Inv X pins σ H s) (g:a5e H a y v H') (ry:RelV y u) (rv:RelV v r) (h:∀ s',Inv X pins σ H' s'→Q () s') :
    wpAny (model X.prog X.w) A (setItem (.ref a) u r) Q E s:=by
  rcases g with ⟨kvs,k,e,ey,l,eH⟩ | ⟨kvs,k,b,e,ey,eb,l,eH⟩
  · subst ey eH
    obtain ⟨z,hd,vs,rel,dd⟩:=ac6 I.hok e
    have hz:vs.length≤sizeLine:=by rw [← rel.length]; exact z
    have hl:(putK kvs k v).length≤sizeLine:=by have:=Kq kvs k v; omega
    refine wpAny_setItem_pairs (hsz:=hz) (Rb ry) dd fun h' dd' hs=>h _ ?_
    have he:∃ q,h'.get? a=some q:=let ⟨q,_,_,hq,_⟩:=dd'; ⟨q,hq⟩
    exact Y6 I (by rw [e]; exact True.intro) hs he (Uu hl hd (rel.put k rv) dd')
  · subst ey eH
    cases (show u=Value.ref b from ry)
    obtain ⟨z,hd,xs,rel,dd⟩:=ab1 I.hok e
    have hz:xs.length≤sizeLine:=by rw [← Paired.length rel]; exact z
    have hl:(putK kvs k v).length≤sizeLine:=by have:=Kq kvs k v; omega
    refine wpAny_setItem_heap (hsz:=hz) (tupleKind_room_in1 hu) (Mh I.hok eb) dd fun h' dd' hs=>h _ ?_
    obtain ⟨q,es,ep,hq,h2,h3,h4,_,h5⟩:=dd'
    refine Y6 I (by rw [e]; exact True.intro) hs ⟨q,hq⟩ ⟨hl,hd,_,(rel.put k eb rv).keeps fun c ys ec=>?_,q,es,ep,hq,h2,h3,h4,h5⟩
    rw [m7 (aay ec e (fun z=>nomatch z))]
    exact ec
end
noncomputable section
variable {X:Cx} {pins:List (Addr × Obj)} {σ:St} {H:Hp} {s:Shared} {a:Addr} {kvs:List (Key × V)} {k:Key} {u:Value} {A:Around} {E:Value→Shared→Prop}
theorem acv {Q:Value→Shared→Prop} (I:Inv X pins σ H s) (e:Rd H a (.dK kvs)) (h:∀ t s',Inv X pins σ H s'→Q (.int kvs.length t) s'):wpAny (model X.prog X.w) A (call (.builtin "len") [.ref a]) Q E s:=by
  obtain ⟨z,hd,vs,rel,dd⟩:=Ia I.hok e
  refine call_len_dict hd dd (by rw [← rel.length]; rw [sizeLine_eq] at z; omega) ?_
  rw [← rel.length]
  exact h _ _ (I.tok _)
end
noncomputable def a7j (i:Expr):Prop:=∀ ov iv,subscripted i false ov iv=operate [ov,iv] (getItem ov iv)
theorem Uc {prog:Program} {w:World} {A:Around} {E:Value→Shared→Prop} {s:Shared} {env:Env} {value slice:Expr} {pos:Pos} {T id:String} {Q:Value→Shared→Prop}
    (hl:typeLookup (.type T) "__getitem__" = pure (some (.builtin id))) (hs:a7j slice)
    (h:wpAny (model prog w) A (eval value env) (fun o s₁=>wpAny (model prog w) A (eval slice env) (fun i s₂=>s₂.TypeIs o T∧wpAny (model prog w) A (getItem o i) Q E s₂) E s₁) E s) :
    wpAny (model prog w) A (eval (.Subscript value slice pos) env) Q E s:=by
  refine Subscript_ (wpAny_mono h (fun o s₁ h₁=>wpAny_mono h₁ (fun i s₂ h₂=>?_) fun _ _ x=>x) fun _ _ x=>x)
  obtain ⟨hT,h₂⟩:=h₂
  unfold subscriptTail
  refine wpAny_bind ?_
  rw [getitemInPython_of_ne hT.not_modules]
  refine wpAny_bind (wpAny_specialOf hT hl ?_)
  have fin:wpAny (model prog w) A (subscripted slice false o i) (fun r s₃=>wpAny (model prog w) A (letTemporaryGo value o r >>= fun _=>pure r) Q E s₃) E s₂:=by
    rw [hs o i]
    exact wpAny_operating (wpAny_mono h₂ (fun r s₃ h₃=>wpAny_bind (wpAny_letTemporaryGo (wpAny_pure h₃))) fun _ _ x=>x)
  first
    | exact wpAny_pure (wpAny_bind fin)
    | exact wpAny_bind (wpAny_pure (wpAny_bind fin))
    | exact wpAny_bind fin
theorem K1 {X:Cx} {pins:List (Addr × Obj)} {σ:St} {H:Hp} {s:Shared} {a:Addr} {y:V} {o:Option V} (I:Inv X pins σ H s) (g:Wj H a y o):s.TypeIs (.ref a) "dict" := by
  rcases g with ⟨kvs,k,e,_,_⟩ | ⟨kvs,k,b,e,_,_,_⟩
  · obtain ⟨_,_,vs,_,dd⟩:=Ia I.hok e
    exact dd.typeIs
  · obtain ⟨_,_,xs,_,dd⟩:=O7 I.hok e
    exact dd.typeIs
noncomputable def abe (td ty:TE):TE:=fun σ H Q=>td σ H fun x H1=>ty σ H1 fun y H2=>∃ a v,x=.ref a∧Wj H2 a y (some v)∧Q v H2
noncomputable def ab8 (td ty tv:TE):TS:=fun D σ H=>tv σ H fun v H1=>td σ H1 fun x H2=>ty σ H2 fun y H3=>∃ a H4,x=.ref a∧a5e H3 a y v H4∧D.nx σ H4
noncomputable section
variable {X:Cx} {o i e value:Expr} {pos pos' tpos:Pos} {td ty tv:TE}
theorem a5h (hu:X.A.units+1<cLine) (ho:PE X o td) (hi:PE X i ty) (hs:a7j i):PE X (.Subscript o i pos) (abe td ty):=by
  intro pins s σ H Q I h
  refine Uc PySem.F.slot_dict_getitem.lookup hs (thn (ho pins s σ H _ I h) fun u s1 ⟨x,H1,I1,rx,q1⟩=>thn (hi pins s1 σ H1 _ I1 q1) fun iv s2 ⟨y,H2,I2,ry,a,v,ex,g,q2⟩=>?_)
  subst ex
  obtain rfl:u=Value.ref a:=rx
  exact ⟨K1 I2 g,Q7 hu I2 g ry fun w' s3 I3 rw'=>⟨v,H2,I3,rw',q2⟩⟩
theorem Yj (hu:X.A.units+1<cLine) (ho:PE X o td) (hi:PE X i ty) (hv:PE X value tv) (hs:swapsWith value (some (.Subscript o i pos')) pos.line X.env=pure false) :
    PS X (.Assign [.Subscript o i pos'] value pos) (ab8 td ty tv):=by
  intro pins s σ H D I h
  refine wpAny_Assign_Subscript (thn (hv pins s σ H _ I h) fun r s1 ⟨v,H1,I1,rv,q1⟩=>thn (ho pins s1 σ H1 _ I1 q1) fun u s2 ⟨x,H2,I2,rx,q2⟩=>thn (hi pins s2 σ H2 _ I2 q2) fun iv s3 ⟨y,H3,I3,ry,a,H4,ex,g,q3⟩=>?_) hs
  subst ex
  obtain rfl:u=Value.ref a:=rx
  exact Yy hu I3 g ry rv fun s4 I4=>⟨σ,H4,I4,q3⟩
end
theorem a2e {P:Program} {w:World} {H:Hp} (h:Heap) (hb:sysModules<h.objs.size):yr P w H (h.push { cls:=.type "dict",data:=.dict #[] }) h.objs.size (.dK []) :=
  ⟨Nat.zero_le _,beq_eq_false_iff_ne.mpr (Ne.symm (Nat.ne_of_lt hb)),[],.nil,Heap.DictOf.new h⟩
theorem a2x {P:Program} {w:World} {H:Hp} (h:Heap) (hb:sysModules<h.objs.size):yr P w H (h.push { cls:=.type "dict",data:=.dict #[] }) h.objs.size (.dT []) :=
  ⟨Nat.zero_le _,beq_eq_false_iff_ne.mpr (Ne.symm (Nat.ne_of_lt hb)),[],.nil,_,#[],0,Heap.get?_push_size _ rfl,⟨rfl,rfl,rfl⟩,rfl,rfl,List.nodup_nil⟩
noncomputable def a99:TE:=fun _ H Q=>∀ p,H p=none→Q (.ref p) (upd H p (.dK []))
noncomputable def a8m:TE:=fun _ H Q=>∀ p,H p=none→Q (.ref p) (upd H p (.dT []))
noncomputable section
variable {X:Cx} {pos:Pos}
theorem a2c:PE X (.Dict [] [] pos) a99:=fun pins s σ H Q I h =>
  wpAny_Dict_empty ⟨.ref s.heap.objs.size,_,I.laid (a:=s.heap.objs.size) (o:=.dK []) (t':=s.toks) (fun _ _ q=>Heap.get?_push_of_some _ q) (Nat.le_refl _) (a2e s.heap I.big),rfl,h _ (I.hok.fresh (Nat.le_refl _))⟩
theorem a3t:PE X (.Dict [] [] pos) a8m:=fun pins s σ H Q I h =>
  wpAny_Dict_empty ⟨.ref s.heap.objs.size,_,I.laid (a:=s.heap.objs.size) (o:=.dT []) (t':=s.toks) (fun _ _ q=>Heap.get?_push_of_some _ q) (Nat.le_refl _) (a2x s.heap I.big),rfl,h _ (I.hok.fresh (Nat.le_refl _))⟩
end
structure M1 (X:Cx) (o:Expr) (m:Str) (apos:Pos) (e:Expr) (cpos:Pos):Prop where
  base:attributeBase o m X.env (eval o X.env)=eval o X.env
  few:((backTo cpos (starEach [e] X.env)).all (fun x=>!x.1)&&(backToKw cpos (keywordEach [] X.env)).all (fun x=>x.1.isSome)
    && decide (([e]:List Expr).length+([]:List Keyword).length+(if ([]:List Keyword).isEmpty then 0 else 1)<30))=true
  line:(apos.endLine==cpos.line)=true
  trees:backTo cpos (starEach [e] X.env)=[(false,eval e X.env)]
structure M2 (X:Cx) (o:Expr) (m:Str) (apos:Pos) (e f:Expr) (cpos:Pos):Prop where
  base:attributeBase o m X.env (eval o X.env)=eval o X.env
  few:((backTo cpos (starEach [e,f] X.env)).all (fun x=>!x.1)&&(backToKw cpos (keywordEach [] X.env)).all (fun x=>x.1.isSome)
    && decide (([e,f]:List Expr).length+([]:List Keyword).length+(if ([]:List Keyword).isEmpty then 0 else 1)<30))=true
  line:(apos.endLine==cpos.line)=true
  trees:backTo cpos (starEach [e,f] X.env)=[(false,eval e X.env),(false,eval f X.env)]
noncomputable def IsD (H:Hp) (a:Addr):Prop:=(∃ kvs,Rd H a (.dK kvs))∨∃ kvs,Rd H a (.dT kvs)
theorem a95 {X:Cx} {pins:List (Addr × Obj)} {σ:St} {H:Hp} {s:Shared} {a:Addr} (I:Inv X pins σ H s) (d:IsD H a) :
    s.TypeIs (.ref a) "dict" ∧ (∀ b,Value.ref a=.ref b→∃ ob,s.heap.get? b=some ob∧ob.dict=none)∧(a==sysModules)=false:=by
  rcases d with ⟨kvs,e⟩ | ⟨kvs,e⟩
  · obtain ⟨_,hd,vs,_,dd⟩:=Ia I.hok e
    refine ⟨dd.typeIs,fun b q=>?_,hd⟩
    cases q
    obtain ⟨ob,_,_,h1,h2,_⟩:=dd
    exact ⟨ob,h1,h2.2.1⟩
  · obtain ⟨_,hd,xs,_,dd⟩:=O7 I.hok e
    refine ⟨dd.typeIs,fun b q=>?_,hd⟩
    cases q
    obtain ⟨ob,_,_,h1,h2,_⟩:=dd
    exact ⟨ob,h1,h2.2.1⟩
noncomputable section
variable {X:Cx} {pins:List (Addr × Obj)} {σ:St} {H:Hp} {s:Shared} {a:Addr} {y d:V} {u r:Value} {o:Option V} {A:Around} {E:Value→Shared→Prop}
theorem a84 {Q:Value→Shared→Prop} (hu:A.units+1<cLine) (I:Inv X pins σ H s) (g:Wj H a y o) (ry:RelV y u) (rd:RelV d r) (h:∀ w' s',Inv X pins σ H s'→RelV (o.getD d) w'→Q w' s') :
    wpAny (model X.prog X.w) A (call (.builtin "dict.get") [.ref a,u,r]) Q E s:=by
  rcases g with ⟨kvs,k,e,ey,l⟩ | ⟨kvs,k,b,e,ey,eb,l⟩
  · subst ey
    obtain ⟨z,hd,vs,rel,dd⟩:=Ia I.hok e
    refine call_meetsIn PySem.F.slot_dict_get dd.typeIs PySem.F.entry_dict_get (PySem.F.args_dict_get_3 _ _ _) (meets_dict_get_default (nj X.prog X.w) a (Rb ry) hd r) ⟨_,dd.mapOf,h _ _ (I.tok _) ?_⟩
    rw [l]
    exact (rel.val k).getD rd
  · subst ey
    cases (show u=Value.ref b from ry)
    obtain ⟨z,hd,xs,rel,dd⟩:=O7 I.hok e
    refine call_meetsIn PySem.F.slot_dict_get dd.typeIs PySem.F.entry_dict_get (PySem.F.args_dict_get_3 _ _ _) (meetsH_dict_get_default (tupleKind (nj X.prog X.w)) a b hd r) ⟨tupleKind_room_in1 hu,k,xs,Mh I.hok eb,dd,h _ _ (I.tok _) ?_⟩
    rw [l]
    exact (rel.val k).getD rd
end
noncomputable def a9g (td ty tx:TE):TE:=fun σ H Q=>td σ H fun x H1=>∃ a,x=.ref a∧IsD H1 a∧ty σ H1 fun y H2=>tx σ H2 fun z H3=>∃ o,Wj H3 a y o∧Q (o.getD z) H3
noncomputable section
variable {X:Cx} {o e f:Expr} {apos cpos:Pos} {td ty tx:TE}
theorem Va (hu:X.A.units+1<cLine) (ho:PE X o td) (he:PE X e ty) (hf:PE X f tx) (m:M2 X o "get" apos e f cpos):PE X (.Call (.Attribute o "get" apos) [e,f] [] cpos) (a9g td ty tx):=by
  intro pins s σ H Q I h
  refine wpAny_Call_method m.base m.few m.line PySem.F.plainAttrs_dict PySem.F.slot_dict_get PySem.F.type_dict_get (thn (ho pins s σ H _ I h) fun u s1 z0=>?_)
  obtain ⟨x,H1,I1,rx,a,ex,d,q1⟩:=z0
  subst ex
  obtain rfl:u=Value.ref a:=rx
  obtain ⟨t1,t2,_⟩:=a95 I1 d
  refine ⟨t1,t2,?_⟩
  rw [m.trees]
  refine Calls.callWith_builtin rfl (Calls.evalArgs_plain (Calls.spliced_cons (thn (he pins s1 σ H1 _ I1 q1) fun iv s2 ⟨y,H2,I2,ry,q2⟩ =>
    Calls.spliced_cons (thn (hf pins s2 σ H2 _ I2 q2) fun fv s3 ⟨z,H3,I3,rz,ov,g,q3⟩=>Calls.spliced_nil ?_))))
  exact a84 hu I3 g ry rz fun w' s4 I4 rw'=>⟨_,H3,I4,rw',q3⟩
end
noncomputable section
variable {X:Cx} {pins:List (Addr × Obj)} {σ:St} {H:Hp} {s:Shared} {a:Addr} {kvs:List (Key × V)} {A:Around} {E:Value→Shared→Prop}
theorem W4 {Q:Value→Shared→Prop} (I:Inv X pins σ H s) (e:Rd H a (.dK kvs)) (h:∀ p s',H p=none→Inv X pins σ (upd H p (.dK kvs)) s'→Q (.ref p) s'):wpAny (model X.prog X.w) A (call (.type "dict") [.ref a]) Q E s:=by
  obtain ⟨z,hd,vs,rel,dd⟩:=Ia I.hok e
  refine kt_call_dict hd dd (by rw [← rel.length]; exact z) fun h' dd' hs=>?_
  refine h _ _ (I.hok.fresh (Nat.le_refl _)) (I.laid (a:=s.heap.objs.size) (o:=.dK kvs) (t':=s.toks) (fun b q hq=>?_) (Nat.le_refl _) (Uu z (beq_eq_false_iff_ne.mpr (Ne.symm (Nat.ne_of_lt I.big))) rel dd'))
  exact (hs.2 b (Nat.ne_of_lt (Heap.lt_size hq))).trans (Heap.get?_push_of_some _ hq)
end
noncomputable section
variable {X:Cx} {pins:List (Addr × Obj)} {σ:St} {H:Hp} {s:Shared} {a:Addr} {y:V} {u:Value} {A:Around} {E:Value→Shared→Prop}
end
end L2
end
noncomputable section
set_option linter.all false
set_option maxRecDepth 100000
namespace Att
open PySem PySem.W PySem.Calls PyProof.Rows
theorem Kh {P:Params} {h:Heap}:∀ (ns:List Int) (vs:List Value),WellAll P h vs (ns.map WData.int)→IntsAre vs ns:=by
  intro ns
  induction ns with
  | nil =>
    intro vs w
    rw [List.map_nil] at w
    cases w
    exact .nil
  | cons n ns ih =>
    intro vs w
    rw [List.map_cons] at w
    cases w with
    | cons a b =>
      cases a
      exact .cons _ _ (ih _ b)
theorem a0t {l:OpenLaw} {n:Nat} (hn:l.most=some n) {P:Params} {h:Heap} {args:List WData} {vals:List Value}
    (hpre:l.row.toRowW.claim.pre args=true) (hwl:WellAll P h vals args) :
    ∃ a vs ns,vals=[Value.ref a]∧args=[WData.list (ns.map WData.int)]∧h.get? a=some { cls:=.type "list",data:=.seq vs.toArray }∧IntsAre vs ns∧ns.length≤n:=by
  have hsh:WShape.hasAll [] args [.list .int]=true:=(pre_splitW hpre).1
  have hc:l.pre.holds [] { args:=args } = true:=(pre_splitW hpre).2
  obtain ⟨d,r,rfl,h1,h2⟩:=hasAllW_cons hsh
  obtain rfl:=hasAllW_nil h2
  obtain ⟨xs,rfl,h3⟩:=hasW_list h1
  obtain ⟨ns,rfl⟩:=items_int h3
  have hlen:ns.length≤n:=by
    unfold OpenLaw.pre at hc
    have h4:(WTm.not (.lt (.lit (.int (n:Int))) (.len (.arg 0)))).holds [] { args:=[.list (ns.map .int)] } = true:=by
      have h4:=(holds_andW hc).1
      rw [hn] at h4
      exact h4
    have h5:=condW_of h4 (w_not (w_lt w_lit (w_len_list (w_arg rfl))))
    rw [List.length_map] at h5
    refine Nat.le_of_not_lt fun q=>?_
    have q':(n:Int)<((ns.length:Nat):Int):=by omega
    first
      | (rw [decide_eq_true q'] at h5; exact absurd h5 (by decide))
      | (simp at h5; omega)
  cases hwl with
  | cons w1 w2 =>
    cases w2
    cases w1 with
    | list ho hall=>exact ⟨_,_,ns,rfl,rfl,ho,Kh ns _ hall,hlen⟩
theorem Zw (l:OpenLaw) (args:List WData):l.row.toRowW.claim.post args (.bool true) args=true :=
  postW_of (r:=l.row.toRowW) (X:=(true==true))
    (show WShape.has [] (.bool true) .bool=true by first | rfl | decide | simp [WShape.has,WShape.arms,WShape.armsAll])
    (show (WTm.eq .res (.lit (.bool true))).value [] { args:=args,res:=some (.bool true),after:=args } = some (.bool (true==true)) from w_eq_bool (w_res rfl) w_lit) rfl
theorem T7 {l:OpenLaw} {n:Nat} {q:Program} {loose:List Str} {XP:(Str→Option Value)→Heap→Prop} {YP:World→Heap→Prop} {d:DefRec}
    (hn:l.most=some n) (hdf:d.params.defaults=[])
    (call:∀ (w:World) (s₀ s₁:Shared) (mg mb:Str→Option Value) (fa:Addr) (o:Obj) (pm cd doc:Value) (a:Addr) (vs:List Value) (ns:List Int),
      Ground q loose [] XP w s₀ mg mb s₁.heap→YP w s₁.heap →
      s₁.heap.get? fa=some o→o.data=.func (docDef d.name d.params d.body d.scope pm cd doc)→s₁.heap.CodeRec cd d.name→mg d.name=some (.ref fa) →
      s₁.heap.get? a=some { cls:=.type "list",data:=.seq vs.toArray }→IntsAre vs ns→ns.length≤n→s₁.gens = #[] →
      codeAny (model l.prog w) callerA (.call (.ref fa) ⟨[.ref a],[]⟩) (fun r s'=>r=.ok (.ret (.bool true))∧OldK s₁.heap s'.heap∧s'.os=s₁.os∧AllBare s'.gens) s₁) :
    WalkO q loose XP YP l.row.toRowW d [] (fun f vs=>PySem.call f vs):=by
  intro w s₀ s₁ mg mb G Y fa o pm cd doc dV kV ho hd hcd hD hmg hg args vals as hpre hlay hrd hwl hlo
  obtain rfl:dV=.none:=Dflts.none hD hdf
  obtain rfl:kV=.none:=Dflts.noKw hD
  obtain ⟨a,vs,ns,rfl,rfl,hobj,hints,hlen⟩:=a0t hn hpre hwl
  refine enter_call (codeAny_mono (call w s₀ s₁ mg mb fa o pm cd doc a vs ns G Y ho (fd_plain hd) hcd hmg hobj hints hlen hg) fun r s' hq=>?_)
  obtain ⟨rfl,h2,h3,h4⟩:=hq
  exact ⟨.inl ⟨.bool true,.bool true,[],rfl,fun _=>rfl,.bool true,Zw l _,fun _=>⟨List.Pairwise.nil,fun _ hm=>(nomatch hm)⟩⟩,h2,h3,h4⟩
noncomputable section
variable {prog:Program} {w:World} {A:Around} {E:Value→Shared→Prop} {s:Shared} {K:Frag}
end
end Att
namespace L2
open PySem PySem.Spec PyProof.Rows
theorem Ot:∀ {vs:List Value} {ns:List Int},IntsAre vs ns→Vals (ns.map V.int) vs
  | _,_,.nil=>.nil
  | _,_,.cons n t h=>.cons ⟨t,rfl⟩ (Ot h)
noncomputable def Only (H:Hp):Prop:=∀ b,H b=none∨∃ o xs,H b=some (.frz o (.lst xs))
theorem a2y {P:Program} {w:World} {K:PySem.W.Frag} {mg mb:Str→Option Value} {CX:CXT} {k:Nat} {fa a:Addr} {fd:FuncData} {x:Str} {sp:Sp} {s₁:Shared} {vs:List Value} {ns:List Int}
    (KX:K.In s₁.heap) (hns:s₁.heap.Ns mainGlobals mg) (hb:s₁.heap.Ns builtinsNs mb) (hbb:∀ x:Str,x ≠ "__name__" → mb x=bootBuiltins x) (hlim:s₁.heap.NoLimit) (hg:s₁.gens = #[])
    (ha:s₁.heap.get? a=some { cls:=.type "list",data:=.seq vs.toArray }) (hi:IntsAre vs ns) (hl:ns.length≤sizeLine) (hr:K3 k callerA)
    (F:∀ base:Heap,K.In base→base.Ns mainGlobals mg→yh P w K mg base CX k fa fd [x] sp) (hbind:∀ (s:Shared) (u:Value),BindsTo s fd ⟨[u],[]⟩ [(x,u)])
    (hsp:∀ H:Hp,Only H→SqL K H a (ns.map V.int)→sp [.ref a] H (fun v _=>v=.bl true) fun _ _ _=>False)
    (hCX:∀ H e s',CX [] H s₁ (fun _ _ _=>False) e s'→False) :
    codeAny (model P w) callerA (.call (.ref fa) ⟨[.ref a],[]⟩) (fun r s'=>r=.ok (.ret (.bool true))∧OldK s₁.heap s'.heap∧s'.os=s₁.os∧AllBare s'.gens) s₁:=by
  have rv:=Ot hi
  have lenV:=hi.length
  have core:∀ H:Hp,Only H→SqL K H a (ns.map V.int)→HOk P w H s₁.heap→(∀ b,H b≠none→b=a)→(H a≠none→K.lookup a=none) →
      codeAny (model P w) callerA (.call (.ref fa) ⟨[.ref a],[]⟩) (fun r s'=>r=.ok (.ret (.bool true))∧OldK s₁.heap s'.heap∧s'.os=s₁.os∧AllBare s'.gens) s₁:=by
    intro H hO hS hok hA hK
    have base_of:∀ {b:Addr} {o:Obj},s₁.heap.get? b=some o→H b=none→(a2r s₁.heap H).get? b=some o:=fun e n=>a2p e n
    have noA:∀ {b:Addr} {o:Obj} {es:Array DictEntry} {ep:Nat},s₁.heap.get? b=some o→o.data=.dict es ep→H b=none:=fun {b o es ep} e d=>by
      cases q:H b with
      | none=>rfl
      | some u =>
        have e':b=a:=hA b (by rw [q]; simp)
        subst e'
        rw [ha] at e; cases e
        have d':Data.seq vs.toArray _=Data.dict es ep:=d
        cases d'
    have nsK:∀ {b:Addr} {m:Str→Option Value},s₁.heap.Ns b m→(a2r s₁.heap H).Ns b m:=fun {b m} ⟨o,es,ep,e,d,r⟩=>⟨o,es,ep,base_of e (noA e d),d,r⟩
    have hKb:K.In (a2r s₁.heap H):=fun b o e=>base_of (KX b o e) (by
      cases q:H b with
      | none=>rfl
      | some u =>
        have e':b=a:=hA b (by rw [q]; simp)
        subst e'
        rw [hK (by rw [q]; simp)] at e; cases e)
    have hM:Mod K mg (a2r s₁.heap H):=⟨hKb,nsK hns,⟨mb,nsK hb,hbb⟩,let ⟨mc,h1,h2⟩:=hlim; ⟨mc,nsK h1,h2⟩⟩
    have e0:aae P w K mg (a2r s₁.heap H) callerA [] s₁ H:=⟨rfl,hM,fun b o e=>a7b e,Nat.le_of_eq (Xr _ _),trivial,fun b hb=>absurd (show b∈([]:List Addr) from hb) (by simp),hok,.of_eq hg⟩
    refine codeAny_mono ((F _ hKb (nsK hns)).run callerA [] s₁ H ⟨[.ref a],[]⟩ [.ref a] [.ref a] _ _ hr e0 (hbind s₁ (.ref a)) (.cons rfl .nil) (hsp H hO hS)) fun r s' h=>?_
    cases r with
    | error e=>exact (hCX H e s' h).elim
    | ok fl =>
      cases fl with
      | next=>exact False.elim h
      | brk=>exact False.elim h
      | cont=>exact False.elim h
      | ret u =>
        obtain ⟨v,H',os,bare,un,hok',r',q⟩:=h
        have q':v=.bl true:=q
        subst q'
        obtain rfl:u=Value.bool true:=r'
        refine ⟨rfl,OldK.of_keep fun b o e=>?_,os,bare⟩
        cases q:H b with
        | none=>exact un.keep b o e q (by intro z; exact absurd (show b∈([]:List Addr) from z) (by simp)) (by simp)
        | some u =>
          rcases hO b with z | ⟨ob,xs,z⟩
          · rw [q] at z; cases z
          · have z2:=un.frzs b ob _ z
            obtain ⟨e1,_⟩:=hok b _ z
            obtain ⟨e2,_⟩:=hok' b _ z2
            rw [e] at e1; cases e1
            exact e2
  cases hk:K.lookup a with
  | some o =>
    have e:=KX a o hk
    rw [ha] at e
    cases e
    refine core (fun _=>none) (fun _=>.inl rfl) (.inr ⟨_,vs.toArray,_,hk,rfl,rfl,rfl,by rw [List.size_toArray,lenV]; exact hl,by simpa using rv⟩) (fun b u z=>by have z':(none:Option HO)=some u:=z; cases z') (fun b z=>absurd rfl z) fun z=>absurd rfl z
  | none =>
    refine core (fun b=>if b=a then some (.frz { cls:=.type "list",data:=.seq vs.toArray } (.lst (ns.map V.int))) else none) (fun b=>?_) (.inl (.inr ⟨{ cls:=.type "list",data:=.seq vs.toArray },if_pos rfl⟩)) (fun b u z=>?_) (fun b z=>?_) fun _=>hk
    · by_cases hb:b=a
      · exact .inr ⟨_,_,if_pos hb⟩
      · exact .inl (if_neg hb)
    · by_cases hb:b=a
      · have z':=(if_pos hb).symm.trans z
        cases z'
        subst hb
        exact ⟨ha,by rw [List.length_map]; exact hl,vs,_,rv,ha⟩
      · have z':=(if_neg hb).symm.trans z
        cases z'
    · by_cases hb:b=a
      · exact hb
      · exact absurd (if_neg hb) z
end L2
namespace L2
open PySem PySem.Spec PyProof.Rows
theorem a72 {l:PySem.W.OpenLaw} {n k:Nat} {q:Program} {loose:List Str} {XP:(Str→Option Value)→Heap→Prop} {YP:World→Heap→Prop} {d:DefRec} {K:Params→PySem.W.Frag} {CX:World→CXT} {sp:World→Sp} {x:Str}
    (hn:l.most=some n) (hn2:n≤sizeLine) (hdf:d.params.defaults=[]) (hr:K3 k callerA)
    (hY:∀ (w:World) (h:Heap),YP w h→(K w.params).In h)
    (F:∀ (w:World) (mg:Str→Option Value) (fa:Addr) (h:Heap),(K w.params).In h→h.Ns mainGlobals mg→mg d.name=some (.ref fa) →
      ∃ fd:FuncData,(∀ (s:Shared) (u:Value),BindsTo s fd ⟨[u],[]⟩ [(x,u)]) ∧
        ∀ base:Heap,(K w.params).In base→base.Ns mainGlobals mg→yh l.prog w (K w.params) mg base (CX w) k fa fd [x] (sp w))
    (hsp:∀ (w:World) (H:Hp) (a:Addr) (ns:List Int),ns.length≤n→Only H→SqL (K w.params) H a (ns.map V.int)→sp w [.ref a] H (fun v _=>v=.bl true) fun _ _ _=>False)
    (hCX:∀ (w:World) (H:Hp) (s:Shared) (e:Value) (s':Shared),CX w [] H s (fun _ _ _=>False) e s'→False) :
    PySem.W.WalkO q loose XP YP l.row.toRowW d [] (fun f vs=>PySem.call f vs):=by
  refine Att.T7 hn hdf fun w s₀ s₁ mg mb fa o pm cd doc a vs ns G Y ho hd hcd hmg hobj hints hlen hg=>?_
  have KX:=hY w _ Y
  obtain ⟨fd,hb,hF⟩:=F w mg fa _ KX G.T.g hmg
  exact a2y KX G.T.g G.T.b G.T.builtins G.T.nolimit hg hobj hints (Nat.le_trans hlen hn2) hr hF hb (fun H hO hS=>hsp w H a ns hlen hO hS) fun H e s'=>hCX w H s₁ e s'
end L2
namespace L2
open PySem PySem.Spec PyProof.Rows
noncomputable def Dv (s:Stmt):Arguments:=match s with
  | .FunctionDef _ a _ _ _ _ _ _ _ _=>a
  | _=>{ posonlyargs:=[],args:=[],vararg:=none,kwonlyargs:=[],kw_defaults:=[],kwarg:=none,defaults:=[] }
noncomputable def Bg (s:Stmt):List Stmt:=match s with
  | .FunctionDef _ _ b _ _ _ _ _ _ _=>b
  | _=>[]
noncomputable def gw (s:Stmt):Scope:=match s with
  | .FunctionDef _ _ _ _ _ _ sc _ _ _=>sc
  | _=>{ kind:=.function,names:=[],isGenerator:=false,isCoroutine:=false }
noncomputable abbrev CX0:CXT:=fun _ _ _ _ _ _=>False
noncomputable abbrev E0:XK:=fun _ _ _=>False
theorem a93 {X:Cx}:Passes CX0 X E0:=fun _ _ _ _ _ _ _ h=>h.elim
structure Fun (K:PySem.W.Frag) (x qual:Str) (st:Stmt) (f:Addr) (fd:FuncData):Prop where
  ex:∃ (oc:Value) (od:Option Addr) (kV doc pm:Value) (an:Option Addr) (cdv ct:Value) (osl:Array (Option Value)),
    fd=PySem.W.fnOf x qual (Dv st) (Bg st) (gw st) .none kV doc pm an cdv ct∧K.lookup f=some ⟨oc,od,.func fd,osl⟩∧PySem.W.codeIn K cdv qual=true
  kp:PySem.W.keepIn K (.ref f)=true
noncomputable section
variable {P:Program} {w:World} {K:PySem.W.Frag} {mg:Str→Option Value} {base:Heap}
theorem Fun.ok {x qual:Str} {st:Stmt} {f:Addr} {fd:FuncData} {N ps:List Str} {k:Nat} {sp:Sp} (F:Fun K x qual st f fd) (S:jg N ps (gw st)) (len:∀ vs H Q E,sp vs H Q E→vs.length=ps.length)
    (hbody:∀ (cdv:Value) (A:Around) (outer:List Env) (s:Shared) (H:Hp) (vs:List V) (Q:VK) (E:XK),K3 k (A.deeper (envOfC qual (gw st) s.heap.objs.size f cdv))→sp vs H Q E →
      ∃ t,PSs (a4k CX0 P w K mg base N qual (gw st) f cdv A outer s H E).nox (Bg st) t∧t { nx:=fun _ H'=>Q .non H',rt:=Q } (start N vs) H):yh P w K mg base CX0 (k+1) f fd ps sp:=by
  obtain ⟨oc,od,kV,doc,pm,an,cdv,ct,osl,rfl,lk,hcd⟩:=F.ex
  refine aau lk hcd S len fun A outer s H vs Q E hr hsp=>?_
  obtain ⟨t,h,q⟩:=hbody cdv A outer s H vs Q E hr hsp
  exact ⟨t,h.nox,q⟩
theorem Fun.binds {x qual:Str} {st:Stmt} {f:Addr} {fd:FuncData} {ps:List Str} (F:Fun K x qual st f fd)
    (h:∀ (kV doc pm:Value) (an:Option Addr) (cdv ct:Value) (us:List Value),us.length=ps.length→bindArgs (PySem.W.fnOf x qual (Dv st) (Bg st) (gw st) .none kV doc pm an cdv ct) ⟨us,[]⟩=pure (ps.zip us)):Binds K fd ps []:=by
  obtain ⟨oc,od,kV,doc,pm,an,cdv,ct,osl,rfl,lk,hcd⟩:=F.ex
  exact .all (h kV doc pm an cdv ct)
theorem bd1 {fd:FuncData} {ps:List Str} (h:∀ a,bindArgs fd ⟨[a],[]⟩=pure (ps.zip [a])) (us:List Value) (hl:us.length=1):bindArgs fd ⟨us,[]⟩=pure (ps.zip us):=by
  cases us with
  | nil=>exact nomatch hl
  | cons a us =>
  cases us with
  | cons _ _=>simp at hl
  | nil=>exact h a
theorem bd2 {fd:FuncData} {ps:List Str} (h:∀ a b,bindArgs fd ⟨[a,b],[]⟩=pure (ps.zip [a,b])) (us:List Value) (hl:us.length=2):bindArgs fd ⟨us,[]⟩=pure (ps.zip us):=by
  cases us with
  | nil=>exact nomatch hl
  | cons a us =>
  cases us with
  | nil=>exact nomatch hl
  | cons b us =>
  cases us with
  | cons _ _=>simp at hl
  | nil=>exact h a b
theorem bd3 {fd:FuncData} {ps:List Str} (h:∀ a b c,bindArgs fd ⟨[a,b,c],[]⟩=pure (ps.zip [a,b,c])) (us:List Value) (hl:us.length=3):bindArgs fd ⟨us,[]⟩=pure (ps.zip us):=by
  cases us with
  | nil=>exact nomatch hl
  | cons a us =>
  cases us with
  | nil=>exact nomatch hl
  | cons b us =>
  cases us with
  | nil=>exact nomatch hl
  | cons c us =>
  cases us with
  | cons _ _=>simp at hl
  | nil=>exact h a b c
theorem bd4 {fd:FuncData} {ps:List Str} (h:∀ a b c d,bindArgs fd ⟨[a,b,c,d],[]⟩=pure (ps.zip [a,b,c,d])) (us:List Value) (hl:us.length=4):bindArgs fd ⟨us,[]⟩=pure (ps.zip us):=by
  cases us with
  | nil=>exact nomatch hl
  | cons a us =>
  cases us with
  | nil=>exact nomatch hl
  | cons b us =>
  cases us with
  | nil=>exact nomatch hl
  | cons c us =>
  cases us with
  | nil=>exact nomatch hl
  | cons d us =>
  cases us with
  | cons _ _=>simp at hl
  | nil=>exact h a b c d
theorem bd5 {fd:FuncData} {ps:List Str} (h:∀ a b c d e,bindArgs fd ⟨[a,b,c,d,e],[]⟩=pure (ps.zip [a,b,c,d,e])) (us:List Value) (hl:us.length=5):bindArgs fd ⟨us,[]⟩=pure (ps.zip us):=by
  cases us with
  | nil=>exact nomatch hl
  | cons a us =>
  cases us with
  | nil=>exact nomatch hl
  | cons b us =>
  cases us with
  | nil=>exact nomatch hl
  | cons c us =>
  cases us with
  | nil=>exact nomatch hl
  | cons d us =>
  cases us with
  | nil=>exact nomatch hl
  | cons e us =>
  cases us with
  | cons _ _=>simp at hl
  | nil=>exact h a b c d e
theorem a4u {x qual:Str} {st:Stmt} {f:Addr} {oc:Value} {od an:Option Addr} {osl:Array (Option Value)} {kV doc pm cdv ct:Value} (l:K.lookup f=some ⟨oc,od,.func (PySem.W.fnOf x qual (Dv st) (Bg st) (gw st) .none kV doc pm an cdv ct),osl⟩)
    (c:PySem.W.codeIn K cdv qual=true) (k:PySem.W.keepIn K (.ref f)=true):Fun K x qual st f (PySem.W.fnOf x qual (Dv st) (Bg st) (gw st) .none kV doc pm an cdv ct):=⟨⟨oc,od,kV,doc,pm,an,cdv,ct,osl,rfl,l,c⟩,k⟩
end
theorem uy {A:Around} {k:Nat} (hr:K3 k A):A.units+1<cLine:=Nat.lt_of_le_of_lt (Nat.add_le_add_left (by decide:1≤64) _) hr.units
theorem Gp {n:Nat} (h:n≤1000):n<sizeLine:=Nat.lt_of_le_of_lt h (by decide)
noncomputable section
variable {X:Cx}
theorem pv (i:Nat) {x:Str} {pos:Pos} (hN:X.N[i]? = some x:=by rfl) (hv:Vis X.env.scope x:=by first | exact Or.inl rfl | exact Or.inr (Or.inl rfl) | exact Or.inr (Or.inr rfl)) (hd:(x==("__debug__" : Str))=false:=by decide)
    (hcd:(x==("__classdict__" : Str))=false:=by decide):PE X (.Name x pos) (a3s i):=a8l hN hv hd hcd
end
theorem a87 {A B:Prop} (h:B):if false=true then A else B:=by
  rw [if_neg Bool.false_ne_true]
  exact h
theorem a96 {A B:Prop} (h:A):if true=true then A else B:=by
  rw [if_pos rfl]
  exact h
noncomputable def Same (H H':Hp):Prop:=∀ b o,H b=some o→H' b=some o
theorem Same.refl (H:Hp):Same H H:=fun _ _ h=>h
theorem Same.trans {H H1 H2:Hp} (a:Same H H1) (b:Same H1 H2):Same H H2:=fun c o h=>b c o (a c o h)
theorem Same.free {H H':Hp} (e:Same H H') {l:Addr} (h:H' l=Option.none):H l=Option.none:=by
  cases q:H l with
  | none=>rfl
  | some o =>
    rw [e l o q] at h
    cases h
theorem Same.seq {K:PySem.W.Frag} {H H':Hp} {a:Addr} {xs:List V} (e:Same H H') (h:SqL K H a xs):SqL K H' a xs:=by
  rcases h with (h | ⟨o,h⟩) | h
  · exact .inl (.inl (e _ _ h))
  · exact .inl (.inr ⟨o,e _ _ h⟩)
  · exact .inr h
end L2
end
noncomputable section
set_option linter.all false
set_option maxRecDepth 100000
namespace L2
open PySem PySem.Spec PyProof.Rows
noncomputable section
variable {X:Cx}
end
noncomputable section
variable {κ:Type} [DecidableEq κ]
end
end L2
end
noncomputable section
namespace C
open PySem
theorem jh {α:Type} {w:α} {P:Prop} (h:none=some w):P:=nomatch h
theorem yd {α:Type} {c:Prop} [Decidable c] {o:Option α} {w:α} (h:(if c then o else none)=some w):c∧o=some w:=by
  by_cases z:c
  · rw [if_pos z] at h; exact ⟨z,h⟩
  · rw [if_neg z] at h; exact jh h
noncomputable abbrev Key:=Sum Int Str
inductive T where
  | non | bl (b:Bool) | int (i:Int) | str (x:Str)
  | tup (xs:List T) | lst (xs:List T) | dic (kvs:List (Key × T)) | obj (n:Nat)
instance:Inhabited T:=⟨.non⟩
inductive SO where
  | dic (kvs:List (Key × T)) | lst (xs:List T) | dit (kvs:List (List Key × T))
noncomputable abbrev Slot:=Option (T × Bool)
structure Sta where
  env:List Slot
  sto:List SO
noncomputable abbrev M (α:Type):=Sta→Option (α × Sta)
noncomputable def Ac (k:Key):List (Key × T)→Option T
  | []=>none
  | (q,t)::r=>if q=k then some t else Ac k r
noncomputable def Du (k:Key) (t:T) (kvs:List (Key × T)):List (Key × T) :=
  if kvs.any fun p=>decide (p.1=k) then kvs.map fun p=>if p.1=k then (p.1,t) else p else kvs++[(k,t)]
noncomputable def keyOf:T→Option Key
  | .int i=>some (.inl i)
  | .str x=>some (.inr x)
  | _=>none
noncomputable def X8:Key→T
  | .inl i=>.int i
  | .inr x=>.str x
mutual
noncomputable def dat:T→Option PyData
  | .non=>some .none
  | .bl b=>some (.bool b)
  | .int i=>some (.int i)
  | .str x=>if PyData.canLay0 (.str x) then some (.str x) else none
  | .tup xs=>(Oe xs).map .tuple
  | .lst xs=>(Oe xs).map .list
  | .dic _=>none
  | .obj _=>none
noncomputable def Oe:List T→Option (List PyData)
  | []=>some []
  | x::r=>match dat x with
    | some a=>(Oe r).map (a :: ·)
    | none=>none
end
noncomputable def eqD (a b:T):Option Bool:=match dat a with
  | some x=>match dat b with
    | some y=>if x.depth≤40 then some (PyData.eqv x y) else none
    | none=>none
  | none=>none
noncomputable def a7l:List (Key × T)→List (Key × T)→Option Bool
  | [],_=>some true
  | (k,x)::r,ys=>match Ac k ys with
    | none=>some false
    | some y=>match eqD x y with
      | some e=>(a7l r ys).map (e && ·)
      | none=>none
noncomputable def eqT:T→T→Option Bool
  | .dic a,.dic b=>if a.length=b.length then a7l a b else some false
  | x,y=>eqD x y
noncomputable def au (t:T):M T:=fun s=>some (t,s)
noncomputable def bw (i:Nat):M T:=fun s=>match s.env[i]? with
  | some (some (t,false))=>some (t,s)
  | some (some (t,true))=>some (t,{ s with env:=s.env.set i (some (t,false)) })
  | _=>none
noncomputable def dh:M (List T):=fun s=>some ([],s)
noncomputable def ak (a:M T) (r:M (List T)):M (List T):=fun s=>match a s with
  | some (t,s1)=>match r s1 with
    | some (ts,s2)=>some (t::ts,s2)
    | none=>none
  | none=>none
noncomputable def Dl:List Str→M (List T)
  | []=>dh
  | x::r=>ak (au (.str x)) (Dl r)
noncomputable def iz (f:List T→Option T) (a:M (List T)):M T:=fun s=>match a s with
  | some (ts,s1)=>match f ts with
    | some t=>some (t,s1)
    | none=>none
  | none=>none
noncomputable def mUn (f:T→Option T) (a:M T):M T:=fun s=>match a s with
  | some (t,s1)=>match f t with
    | some u=>some (u,s1)
    | none=>none
  | none=>none
noncomputable def mOp (f:T→T→Option T) (a b:M T):M T:=fun s=>match a s with
  | some (t,s1)=>match b s1 with
    | some (u,s2)=>match f t u with
      | some v=>some (v,s2)
      | none=>none
    | none=>none
  | none=>none
noncomputable abbrev Fn:=List T→List SO→Option (T × List SO)
noncomputable def dw (F:Fn) (a:M (List T)):M T:=fun s=>match a s with
  | some (ts,s1)=>match F ts s1.sto with
    | some (t,sto)=>some (t,{ s1 with sto:=sto })
    | none=>none
  | none=>none
noncomputable def gj (a:M T):M Bool:=fun s=>match a s with
  | some (.bl b,s1)=>some (b,s1)
  | _=>none
noncomputable def Dj (a:M Bool):M Bool:=fun s=>match a s with
  | some (b,s1)=>some (!b,s1)
  | none=>none
noncomputable def Dm (a b:M Bool):M Bool:=fun s=>match a s with
  | some (true,s1)=>b s1
  | some (false,s1)=>some (false,s1)
  | none=>none
noncomputable def mOr (a b:M Bool):M Bool:=fun s=>match a s with
  | some (true,s1)=>some (true,s1)
  | some (false,s1)=>b s1
  | none=>none
noncomputable def rm (a:M Bool):M T:=fun s=>match a s with
  | some (b,s1)=>some (.bl b,s1)
  | none=>none
noncomputable def mIf (c:M Bool) (a b:M T):M T:=fun s=>match c s with
  | some (true,s1)=>a s1
  | some (false,s1)=>b s1
  | none=>none
noncomputable abbrev lim:Nat:=1000000
noncomputable def Ah (i:Int):Bool:=decide (-(2 ^ 64)<i∧i<2 ^ 64)
noncomputable def uh:T→T→Option T
  | .int i,.int j=>some (.int (i+j))
  | .str x,.str y=>if x.length+y.length<lim then some (.str (x++y)) else none
  | .tup x,.tup y=>if x.length+y.length<lim then some (.tup (x++y)) else none
  | .lst x,.lst y=>if x.length+y.length<lim then some (.lst (x++y)) else none
  | _,_=>none
noncomputable def Hu:T→T→Option T
  | .int i,.int j=>some (.int (i - j))
  | _,_=>none
noncomputable def Ji:T→T→Option T
  | .int i,.int j=>if Ah i||Ah j then some (.int (i * j)) else none
  | .str x,.int j=>if 0≤j∧j≤1000∧x.length≤100 then some (.str ⟨((List.replicate j.toNat x.cps.toList).flatten).toArray⟩) else none
  | _,_=>none
noncomputable def ux:T→T→Option T
  | .int i,.int j=>if 0<j then some (.int (i%j)) else none
  | _,_=>none
noncomputable def fdl:Nat:=2 ^ 200
noncomputable def jr:T→T→Option T
  | .int i,.int j=>if 0<j∧(j<1073741824∨j.natAbs<fdl) then some (.int (i / j)) else none
  | _,_=>none
noncomputable def a4l:T→T→Option T
  | .int i,.int j=>if 0≤j∧j≤1000∧i.natAbs<1000 then some (.int (i ^ j.toNat)) else none
  | _,_=>none
noncomputable def Ho:T→Option T
  | .int i=>some (.int (-i))
  | _=>none
noncomputable def ltT:T→T→Option T
  | .int i,.int j=>some (.bl (decide (i<j)))
  | _,_=>none
noncomputable def leT:T→T→Option T
  | .int i,.int j=>some (.bl (decide (i≤j)))
  | _,_=>none
noncomputable def gtT:T→T→Option T
  | .int i,.int j=>some (.bl (decide (j<i)))
  | _,_=>none
noncomputable def eqO (x y:T):Option T:=match eqT x y with
  | some b=>some (.bl b)
  | none=>none
noncomputable def neO (x y:T):Option T:=match eqT x y with
  | some b=>some (.bl (!b))
  | none=>none
noncomputable def ixI (n:Nat) (i:Int):Option Nat:=if 0≤i then (if i<n then some i.toNat else none) else if -(n:Int)≤i then some (i+n).toNat else none
noncomputable def cu:T→T→Option T
  | .tup xs,.int i=>(ixI xs.length i).bind (xs[·]?)
  | .lst xs,.int i=>(ixI xs.length i).bind (xs[·]?)
  | .str x,.int i=>if x.length<lim then (ixI x.cps.toList.length i).bind fun j=>(x.cps.toList[j]?).map fun c=>.str ⟨#[c]⟩ else none
  | .dic kvs,k=>(keyOf k).bind (Ac · kvs)
  | _,_=>none
noncomputable def Ax:List T→Option T
  | [.tup xs]=>some (.int xs.length)
  | [.lst xs]=>some (.int xs.length)
  | [.str x]=>if x.length<lim then some (.int x.length) else none
  | [.dic kvs]=>some (.int kvs.length)
  | _=>none
noncomputable def inL (x:T):List T→Option Bool
  | []=>some false
  | y::r=>match eqD y x with
    | some e=>(inL x r).map (e || ·)
    | none=>none
noncomputable def inT (x y:T):Option T:=match y with
  | .dic kvs=>(keyOf x).map fun q=>.bl (Ac q kvs).isSome
  | _=>if (dat x).isSome then (match y with
    | .tup ys=>(inL x ys).map .bl
    | .lst ys=>(inL x ys).map .bl
    | _=>none) else none
noncomputable def Aw:List T→Option T
  | [.lst xs]=>some (.tup xs)
  | [.tup xs]=>some (.tup xs)
  | _=>none
noncomputable def Aa:List T→Option (List (Key × T))
  | []=>some []
  | .tup [k,v]::r=>match keyOf k,Aa r with
    | some q,some l=>some ((q,v)::l)
    | _,_=>none
  | _=>none
noncomputable def Nb:List T→Option T
  | [.lst xs]=>if xs.length<lim then (Aa xs).map fun l=>.dic (l.foldl (fun d p=>Du p.1 p.2 d) []) else none
  | [.tup xs]=>if xs.length<lim then (Aa xs).map fun l=>.dic (l.foldl (fun d p=>Du p.1 p.2 d) []) else none
  | [.dic kvs]=>some (.dic kvs)
  | _=>none
theorem Xg {k v:T} {r:List T} {q:Key} {l:List (Key × T)} (hk:keyOf k=some q) (hr:Aa r=some l):Aa (.tup [k,v]::r)=some ((q,v)::l):=by
  show (match keyOf k,Aa r with | some q,some l=>some ((q,v)::l) | _,_=>none)=_
  rw [hk,hr]
theorem Zg {xs:List T} {l:List (Key × T)} (h:xs.length<lim) (e:Aa xs=some l):Nb [.tup xs]=some (.dic (l.foldl (fun d p=>Du p.1 p.2 d) [])):=by
  show (if _ then (Aa xs).map _ else none)=_
  rw [if_pos h,e]; rfl
noncomputable def X6:List T→Option (List Int)
  | []=>some []
  | .int i::r=>(X6 r).map (i :: ·)
  | _=>none
noncomputable def aad:List T→Option T
  | [.lst xs]=>(X6 xs).map fun l=>.int l.sum
  | _=>none
noncomputable def Im:List T→Option (List Bool)
  | []=>some []
  | .bl b::r=>(Im r).map (b :: ·)
  | _=>none
noncomputable def abr:List T→Option T
  | [.lst xs]=>(Im xs).map fun l=>.bl (l.all id)
  | _=>none
noncomputable def acr:List T→Option T
  | [.lst xs]=>(Im xs).map fun l=>.bl (l.any id)
  | _=>none
noncomputable def J3:List T→Option (List Str)
  | []=>some []
  | .str x::r=>(J3 r).map (x :: ·)
  | _=>none
noncomputable def Xl (x:Str):List Str→List Str
  | []=>[x]
  | y::r=>if decide (x.cps.toList<y.cps.toList) then x::y::r else y::Xl x r
noncomputable def Ci (l:List Str):List Str:=l.foldl (fun acc x=>Xl x acc) []
noncomputable def Tj:List T→Option T
  | [.lst xs]=>if xs.length<64 then (J3 xs).map fun l=>.lst ((Ci l).map .str) else none
  | [.dic kvs]=>if kvs.length<64 then (J3 (kvs.map fun p=>X8 p.1)).map fun l=>.lst ((Ci l).map .str) else none
  | _=>none
noncomputable def Oc:List T→Option T
  | [.lst _]=>some (.bl true)
  | [.obj _]=>none
  | [_]=>some (.bl false)
  | _=>none
noncomputable def Tg:List T→Option T
  | [.int i]=>some (.int (if i<0 then -i else i))
  | _=>none
noncomputable def N8:List T→Option T
  | [.int n]=>if n.natAbs<lim then some (.lst ((List.range n.toNat).map fun (k:Nat)=>.int (k:Int))) else none
  | _=>none
noncomputable def Jv (i:Nat) (s:Sta):Bool:=match s.env[i]? with
  | some (some (.dic _,_))=>true
  | _=>false
noncomputable def xu (i:Nat) (s:Sta):Bool:=match s.env[i]? with
  | some (some (.lst _,_))=>true
  | _=>false
noncomputable def xg (i:Nat) (k:M T):M T:=fun s=>if Jv i s then (match k s with
  | some (kt,s1)=>match s1.env[i]? with
    | some (some (.dic kvs,_))=>match (keyOf kt).bind (Ac · kvs) with
      | some t=>some (t,s1)
      | none=>none
    | _=>none
  | none=>none) else none
noncomputable def Hg (i:Nat) (k d:M T):M T:=fun s=>if Jv i s then (match k s with
  | some (kt,s1)=>match d s1 with
    | some (dt,s2)=>match s2.env[i]? with
      | some (some (.dic kvs,_))=>match keyOf kt with
        | some q=>some ((Ac q kvs).getD dt,s2)
        | none=>none
      | _=>none
    | none=>none
  | none=>none) else none
noncomputable def aag:List T→Option T
  | [.dic kvs,k,d]=>(keyOf k).map fun q=>(Ac q kvs).getD d
  | _=>none
inductive Flow where
  | next | ret (t:T) | brk | cont
noncomputable abbrev S:=Sta→Option (Flow × Sta)
noncomputable def vo:S:=fun s=>some (.next,s)
noncomputable def jd (a b:S):S:=fun s=>match a s with
  | some (.next,s1)=>b s1
  | r=>r
noncomputable def pq (e:M T):S:=fun s=>match e s with
  | some (t,s1)=>some (.ret t,s1)
  | none=>none
noncomputable def sIf (c:M Bool) (a b:S):S:=fun s=>match c s with
  | some (true,s1)=>a s1
  | some (false,s1)=>b s1
  | none=>none
noncomputable def j8 (i:Nat) (t:T) (own:Bool) (s:Sta):Sta:={ s with env:=s.env.set i (some (t,own)) }
noncomputable def m6 (i:Nat) (e:M T):S:=fun s=>match e s with
  | some (t,s1)=>some (.next,j8 i t false s1)
  | none=>none
noncomputable def sNew (i:Nat) (e:M T):S:=fun s=>match e s with
  | some (t,s1)=>some (.next,j8 i t true s1)
  | none=>none
noncomputable def jz (i:Nat) (e:M T):S:=fun s=>if xu i s then (match e s with
  | some (t,s1)=>match s1.env[i]? with
    | some (some (.lst xs,true))=>if xs.length<lim then some (.next,j8 i (.lst (xs++[t])) true s1) else none
    | _=>none
  | none=>none) else none
noncomputable def Cy:T→Option (List T)
  | .lst xs=>some xs
  | .tup xs=>some xs
  | _=>none
noncomputable def jx (i:Nat) (e:M T):S:=fun s=>if xu i s then (match e s with
  | some (t,s1)=>match Cy t,s1.env[i]? with
    | some ys,some (some (.lst xs,true))=>if xs.length+ys.length<lim then some (.next,j8 i (.lst (xs++ys)) true s1) else none
    | _,_=>none
  | none=>none) else none
noncomputable def qm (i:Nat) (k v:M T):S:=fun s=>match v s with
  | some (t,s1)=>if Jv i s1 then (match k s1 with
    | some (kt,s2)=>match s2.env[i]?,keyOf kt with
      | some (some (.dic kvs,true)),some q=>if kvs.length<lim then some (.next,j8 i (.dic (Du q t kvs)) true s2) else none
      | _,_=>none
    | none=>none) else none
  | none=>none
noncomputable def ur (i:Nat):S:=fun s=>match s.env[i]? with
  | some (some (.lst xs,true))=>some (.next,j8 i (.lst xs.reverse) true s)
  | _=>none
noncomputable def sNx (u:S):S:=fun s=>match u s with
  | some (.next,s1)=>some (.next,s1)
  | _=>none
noncomputable def qy (i:Nat):S:=fun s=>match s.env[i]? with
  | some (some (t,true))=>some (.ret t,s)
  | _=>none
noncomputable abbrev G:=T→Sta→Option Sta
noncomputable def hName (i:Nat):G:=fun t s=>some (j8 i t false s)
noncomputable def wz (is:List Nat):G:=fun t s=>match t with
  | .tup xs=>if xs.length=is.length then some ((is.zip xs).foldl (fun s p=>j8 p.1 p.2 false s) s) else none
  | _=>none
noncomputable def sGo (g:G) (m:M T):S:=fun s=>match m s with
  | some (t,s1)=>match g t s1 with
    | some s2=>some (.next,s2)
    | none=>none
  | none=>none
noncomputable def forL (g:G) (b:S):List T→S
  | []=>fun s=>some (.next,s)
  | t::r=>fun s=>match g t s with
    | some s1=>match b s1 with
      | some (.next,s2)=>forL g b r s2
      | some (.cont,s2)=>forL g b r s2
      | some (.brk,s2)=>some (.next,s2)
      | some (.ret v,s2)=>some (.ret v,s2)
      | none=>none
    | none=>none
noncomputable def yj (g:G) (it:M (List T)) (b:S):S:=fun s=>match it s with
  | some (ts,s1)=>forL g b ts s1
  | none=>none
noncomputable def rangeT (n:Nat):List T:=(List.range n).map fun (k:Nat)=>.int (k:Int)
noncomputable def p8 (a:M T):M (List T):=fun s=>match a s with
  | some (.int n,s1)=>if n.natAbs<lim then some (rangeT n.toNat,s1) else none
  | _=>none
noncomputable def qu (a:M T):M (List T):=fun s=>match a s with
  | some (.lst xs,s1)=>if xs.length<lim then some (xs,s1) else none
  | some (.tup xs,s1)=>if xs.length<lim then some (xs,s1) else none
  | _=>none
noncomputable def lend (is:List Nat) (env:List Slot):List Slot:=env.mapIdx fun j x=>match x with
  | some (t,f)=>if f then (if j∈is then some (t,false) else none) else some (t,false)
  | none=>none
noncomputable def Hi (s:Slot):Slot:=match s with
  | some (t,_)=>some (t,false)
  | none=>none
noncomputable def qj (s:Sta):Sta:={ s with env:=s.env.map Hi }
noncomputable def Eu (g:G) (c:M Bool) (e:M T):List T→Sta→List T→Option (List T × Sta)
  | [],s,acc=>some (acc,s)
  | t::r,s,acc=>match g t s with
    | some s1=>match c s1 with
      | some (true,s2)=>match e s2 with
        | some (u,s3)=>if acc.length<lim then Eu g c e r (qj s3) (acc++[u]) else none
        | none=>none
      | some (false,s2)=>Eu g c e r (qj s2) acc
      | none=>none
    | none=>none
noncomputable def ql:M Bool:=fun s=>some (true,s)
noncomputable def jj (is:List Nat) (env:List Slot):List Slot:=is.foldl (fun e i=>match e[i]? with
  | some (some (t,_))=>e.set i (some (t,false))
  | _=>e) env
noncomputable def p7 (nv:Nat) (cap:List Nat) (g:G) (it:M (List T)) (c:M Bool) (e:M T):M T:=fun s=>match it s with
  | some (ts,s1) =>
    let env:=jj cap s1.env
    match Eu g c e ts ⟨List.replicate nv none++cap.map (fun i=>(env[i]?).getD none),s1.sto⟩ [] with
    | some (us,s2)=>some (.lst us,⟨env,s2.sto⟩)
    | none=>none
  | none=>none
noncomputable def jo (n:Nat) (b:S):Fn:=fun ts sto=>match b ⟨ts.map (fun t=>some (t,false))++List.replicate (n - ts.length) none,sto⟩ with
  | some (.ret t,s)=>some (t,s.sto)
  | some (.next,s)=>some (.non,s.sto)
  | _=>none
noncomputable section
variable {s s':Sta} {t v:T} {a b:M T}
theorem Ue {f:T→T→Option T} (h:mOp f a b s=some (v,s')):∃ t s1 u,a s=some (t,s1)∧b s1=some (u,s')∧f t u=some v:=by
  unfold mOp at h
  cases ha:a s with
  | none=>rw [ha] at h; cases h
  | some p =>
    obtain ⟨t,s1⟩:=p; rw [ha] at h; dsimp only at h
    cases hb:b s1 with
    | none=>rw [hb] at h; cases h -- here
    | some p =>
      obtain ⟨u,s2⟩:=p; rw [hb] at h; dsimp only at h
      cases hf:f t u with
      | none=>rw [hf] at h; cases h
      | some w=>rw [hf] at h; cases h; exact ⟨t,s1,u,rfl,hb,hf⟩
theorem Zf {f:T→Option T} (h:mUn f a s=some (v,s')):∃ t,a s=some (t,s')∧f t=some v:=by
  unfold mUn at h
  cases ha:a s with
  | none=>rw [ha] at h; cases h
  | some p =>
    obtain ⟨t,s1⟩:=p; rw [ha] at h; dsimp only at h
    cases hf:f t with
    | none=>rw [hf] at h; cases h
    | some w=>rw [hf] at h; cases h; exact ⟨t,rfl,hf⟩
theorem Bl {f:List T→Option T} {a:M (List T)} (h:iz f a s=some (v,s')):∃ ts,a s=some (ts,s')∧f ts=some v:=by
  unfold iz at h
  cases ha:a s with
  | none=>rw [ha] at h; cases h
  | some p =>
    obtain ⟨t,s1⟩:=p; rw [ha] at h; dsimp only at h
    cases hf:f t with
    | none=>rw [hf] at h; cases h
    | some w=>rw [hf] at h; cases h; exact ⟨t,rfl,hf⟩
theorem yc {r:M (List T)} {ts:List T} (h:ak a r s=some (ts,s')):∃ t s1 us,a s=some (t,s1)∧r s1=some (us,s')∧ts=t::us:=by
  unfold ak at h
  cases ha:a s with
  | none=>rw [ha] at h; cases h
  | some p =>
    obtain ⟨t,s1⟩:=p; rw [ha] at h; dsimp only at h
    cases hb:r s1 with
    | none=>rw [hb] at h; cases h -- here
    | some p=>obtain ⟨u,s2⟩:=p; rw [hb] at h; cases h; exact ⟨t,s1,u,rfl,hb,rfl⟩
theorem Qp {F:Fn} {a:M (List T)} (h:dw F a s=some (v,s')):∃ ts s1 sto,a s=some (ts,s1)∧F ts s1.sto=some (v,sto)∧s' = { s1 with sto:=sto }:=by
  unfold dw at h
  cases ha:a s with
  | none=>rw [ha] at h; cases h
  | some p =>
    obtain ⟨t,s1⟩:=p; rw [ha] at h; dsimp only at h
    cases hf:F t s1.sto with
    | none=>rw [hf] at h; cases h
    | some w=>obtain ⟨w,sto⟩:=w; rw [hf] at h; cases h; exact ⟨t,s1,sto,rfl,hf,rfl⟩
theorem Ea {b:Bool} (h:gj a s=some (b,s')):a s=some (.bl b,s'):=by
  unfold gj at h
  cases ha:a s with
  | none=>rw [ha] at h; cases h
  | some p =>
    obtain ⟨t,s1⟩:=p; rw [ha] at h
    cases t <;> first | (cases h; rfl) | (cases h)
theorem Oh {c:M Bool} (h:rm c s=some (v,s')):∃ b,c s=some (b,s')∧v=.bl b:=by
  unfold rm at h
  cases ha:c s with
  | none=>rw [ha] at h; cases h
  | some p=>obtain ⟨t,s1⟩:=p; rw [ha] at h; cases h; exact ⟨t,rfl,rfl⟩
theorem Uj {c:M Bool} {b:Bool} (h:Dj c s=some (b,s')):∃ k,c s=some (k,s')∧b=!k:=by
  unfold Dj at h
  cases ha:c s with
  | none=>rw [ha] at h; cases h
  | some p=>obtain ⟨t,s1⟩:=p; rw [ha] at h; cases h; exact ⟨t,rfl,rfl⟩
theorem a3f {c d:M Bool} {b:Bool} (h:Dm c d s=some (b,s')):(∃ s1,c s=some (true,s1)∧d s1=some (b,s'))∨(c s=some (false,s')∧b=false):=by
  unfold Dm at h
  cases ha:c s with
  | none=>rw [ha] at h; cases h
  | some p =>
    obtain ⟨k,s1⟩:=p; rw [ha] at h
    cases k with
    | true=>exact .inl ⟨s1,rfl,h⟩
    | false=>cases h; exact .inr ⟨rfl,rfl⟩
theorem a67 {c d:M Bool} {b:Bool} (h:mOr c d s=some (b,s')):(∃ s1,c s=some (false,s1)∧d s1=some (b,s'))∨(c s=some (true,s')∧b=true):=by
  unfold mOr at h
  cases ha:c s with
  | none=>rw [ha] at h; cases h
  | some p =>
    obtain ⟨k,s1⟩:=p; rw [ha] at h
    cases k with
    | false=>exact .inl ⟨s1,rfl,h⟩
    | true=>cases h; exact .inr ⟨rfl,rfl⟩
theorem a6w {c:M Bool} (h:mIf c a b s=some (v,s')):(∃ s1,c s=some (true,s1)∧a s1=some (v,s'))∨(∃ s1,c s=some (false,s1)∧b s1=some (v,s')):=by
  unfold mIf at h
  cases ha:c s with
  | none=>rw [ha] at h; cases h
  | some p =>
    obtain ⟨k,s1⟩:=p; rw [ha] at h
    cases k with
    | true=>exact .inl ⟨s1,rfl,h⟩
    | false=>exact .inr ⟨s1,rfl,h⟩
theorem a1p {i:Nat} (h:bw i s=some (v,s')):(s.env[i]? = some (some (v,false))∧s'=s)∨(s.env[i]? = some (some (v,true))∧s' = { s with env:=s.env.set i (some (v,false)) }):=by
  unfold bw at h
  split at h
  · rename_i t e; cases h; exact .inl ⟨e,rfl⟩
  · rename_i t e; cases h; exact .inr ⟨e,rfl⟩
  · cases h
end
end C
end
noncomputable section
set_option linter.all false
set_option maxRecDepth 100000
set_option maxHeartbeats 4000002
namespace L2
open PySem PySem.Spec PyProof.Rows
noncomputable section
variable {pr:Program} {wd:World} {Ar:Around} {Rs:Result→Shared→Prop} {s:Shared}
theorem Rk {el tgt itr:Expr} {cs:List Expr} {scp:Scope} {ps:Pos} {itv accv:Value} {en:Env} (J:Nat→Shared→Prop)
    (turn:∀ n z,J n z→wpAny (model pr wd) Ar (pyNext itv) (fun nx z1=>match nx with
      | none=>Rs (.ok .next) z1
      | some v=>wpAny (model pr wd) Ar (letOwnedTupleGo tgt itv v) (fun _ z2=>wpAny (model pr wd) Ar (assign tgt en v) (fun _ z3 =>
          wpAny (model pr wd) Ar (forIn cs true fun c go=>if go=true then do let ok ← isTrue c en (eval c en); pure (ForInStep.yield ok) else pure (ForInStep.yield go)) (fun ok z4 =>
            if ok=true then wpAny (model pr wd) Ar (eval el en) (fun x z5 =>
              wpAny (model pr wd) Ar (call (.builtin "list.append") [accv,x]) (fun _ z6=>∃ m,m<n∧J m z6) (fun _ _=>False) z5) (fun _ _=>False) z4
            else ∃ m,m<n∧J m z4) (fun _ _=>False) z3) (fun _ _=>False) z2) (fun _ _=>False) z1) (fun _ _=>False) z)
    (n:Nat) (h:J n s) :
    codeAny (model pr wd) Ar (.compLoop (.ListComp el [⟨tgt,itr,cs,0⟩] scp ps) 0 itv accv en) Rs s:=by
  refine codeAny_loop rfl J (fun k z hz=>?_) n h
  show wpAny _ Ar ((compTurn (.ListComp el [⟨tgt,itr,cs,0⟩] scp ps) 0 itv accv en).onRaise (fun ex=>do noteFrame ex en; theTreesLotGoes ex)) _ _ z
  refine wpAny_noted ?_
  rw [compTurn_list]
  refine wpAny_bind (wpAny_standAt (wpAny_bind (wpAny_mono (turn k z hz) (fun nx z1 g1=>?_) fun _ _ no=>no.elim)))
  cases nx with
  | none=>exact wpAny_pure g1
  | some v =>
    refine wpAny_bind (wpAny_mono g1 (fun _ z2 g2=>?_) fun _ _ no=>no.elim)
    refine wpAny_bind (wpAny_mono g2 (fun _ z3 g3=>wpAny_bind (wpAny_mono g3 (fun ok z4 g4=>?_) fun _ _ no=>no.elim)) fun _ _ no=>no.elim)
    cases ok with
    | false=>exact wpAny_pure (And.intro rfl g4)
    | true =>
      exact wpAny_bind (wpAny_bind (wpAny_mono g4 (fun x z5 g5=>wpAny_bind (wpAny_mono g5 (fun _ z6 g6=>wpAny_pure (wpAny_pure (And.intro rfl g6))) fun _ _ no=>no.elim)) fun _ _ no=>no.elim))
end
noncomputable def Wu (env:Env):List (Str × NameKind)→List (Str × Addr)→List (Str × Addr)
  | [],cs=>cs
  | (n,k)::r,cs=>Wu env r (if (k==NameKind.free)=true then (match env.cells.lookup n with | some c=>(n,c)::cs | none=>cs) else cs)
noncomputable def Eo (env:Env) (names:List (Str × NameKind)):Bool:=names.all fun y=>!(y.2==NameKind.free)||(env.cells.lookup y.1).isSome
theorem G3 {scope:Scope} {env:Env} (h:Eo env scope.names=true):closureFor scope env=pure (Wu env scope.names []):=by
  have key:∀ (l:List (Str × NameKind)) (cs:List (Str × Addr)),Eo env l=true →
      (forIn (m:=Sem) l cs fun x r=>(do
        if (x.2==NameKind.free)=true then
          let c ← cellOf env x.1
          pure (ForInStep.yield ((x.1,c)::r))
        else pure (ForInStep.yield r)))=pure (Wu env l cs):=by
    intro l
    induction l with
    | nil=>intro cs _; rfl
    | cons x r ih =>
      intro cs h
      obtain ⟨n,k⟩:=x
      unfold Eo at h
      rw [List.all_cons,Bool.and_eq_true] at h -- here
      obtain ⟨h1,h2⟩:=h
      rw [List.forIn_cons]
      by_cases hk:(k==NameKind.free)=true
      · have h1':(env.cells.lookup n).isSome=true:=by simpa [hk] using h1
        obtain ⟨c,hc⟩:=Option.isSome_iff_exists.mp h1'
        have e:cellOf env n=pure c:=by unfold cellOf; rw [hc]
        simp only [hk,if_true,e,pure_bind]
        rw [ih _ h2]
        simp only [Wu,hk,if_true,hc]
      · simp only [hk,if_false,pure_bind,Bool.false_eq_true]
        rw [ih _ h2]
        simp only [Wu,hk,if_false,Bool.false_eq_true]
  have:=key scope.names [] h
  unfold closureFor
  simpa using this
noncomputable def wk (X:Cx) (scope:Scope) (N:List Str) (C:Addr) (s₀:Shared) (H₀:Hp) (ex:List Addr) (pn:List (Addr × Obj)):Cx :=
  { X with N:=N,s₀:=s₀,H₀:=H₀,env:=compEnvC scope (Wu X.env scope.names []) C X.env,outer:=X.stack,ex:=ex,fn:=fun _=>false,pn:=pn,xe:=fun _ _=>False }
structure M7 (X:Cx) (scope:Scope) (N:List Str):Prop where
  has:Eo X.env scope.names=true
  kind:scope.kind=.function
  nocell:∀ y∈scope.names,y.2≠.cell
  names:∀ y∈scope.names,y.2=.local→scope.names.lookup y.1=some .local
noncomputable def aa8 (X:Cx) (scope:Scope) (x:Str):Prop :=
  (X.env.kindOf x=some .cell∨X.env.kindOf x=some .free)∧Vis X.env.scope x∧((relabel scope X.env).names.lookup x=some .cell∨(relabel scope X.env).names.lookup x=some .free)
theorem Kl {env:Env}:∀ (l:List (Str × NameKind)) (cs:List (Str × Addr)),(∀ x c,cs.lookup x=some c→env.cells.lookup x=some c) →
    ∀ x c,(Wu env l cs).lookup x=some c→env.cells.lookup x=some c
  | [],cs,h,x,c,e=>h x c e
  | (n,k)::r,cs,h,x,c,e=>by
    rw [Wu] at e
    refine Kl r _ (fun y d q=>?_) x c e
    split at q
    · split at q
      · rename_i c' hc'
        rw [List.lookup_cons] at q
        split at q
        · rename_i hb
          cases q
          have hyn:=eq_of_beq hb
          rw [hyn]; exact hc'
        · exact h y d q
      · exact h y d q
    · exact h y d q
theorem Xx {env:Env}:∀ (l:List (Str × NameKind)) (cs:List (Str × Addr)) (x:Str),(∃ c,cs.lookup x=some c)→∃ c,(Wu env l cs).lookup x=some c
  | [],cs,x,h=>h
  | (n,k)::r,cs,x,h=>by
    rw [Wu]
    refine Xx r _ x ?_
    split
    · split
      · rename_i c' hc'
        rw [List.lookup_cons]
        split
        · exact ⟨_,rfl⟩
        · exact h
      · exact h
    · exact h
theorem a02 {env:Env}:∀ (l:List (Str × NameKind)) (cs:List (Str × Addr)) (x:Str),Eo env l=true→(x,NameKind.free)∈l→∃ c,(Wu env l cs).lookup x=some c
  | [],cs,x,_,h=>by simp at h
  | (n,k)::r,cs,x,hh,h=>by
    unfold Eo at hh
    rw [List.all_cons,Bool.and_eq_true] at hh
    rw [Wu]
    rcases List.mem_cons.mp h with e | h'
    · injection e with e1 e2
      subst e1; subst e2
      have h1:(env.cells.lookup x).isSome=true:=by simpa using hh.1
      obtain ⟨c,hc⟩:=Option.isSome_iff_exists.mp h1
      refine Xx r _ x ?_
      simp [hc]
    · exact a02 r _ x hh.2 h'
theorem mem_of_lookup {α:Type}:∀ {l:List (Str × α)} {x:Str} {k:α},l.lookup x=some k→(x,k)∈l
  | [],_,_,h=>by simp at h
  | (n,k')::r,x,k,h=>by
    rw [List.lookup_cons] at h
    split at h
    · rename_i hb
      cases h
      have hyn:=eq_of_beq hb
      rw [hyn]; exact List.mem_cons_self
    · exact List.mem_cons_of_mem _ (mem_of_lookup h)
theorem W0 {scope:Scope} {env:Env} (nc:∀ y∈scope.names,y.2≠.cell) {x:Str} (h:(relabel scope env).names.lookup x=some .cell∨(relabel scope env).names.lookup x=some .free):(x,NameKind.free)∈scope.names:=by
  have:∃ k,(x,k)∈(relabel scope env).names∧(k=.cell∨k=.free):=by
    rcases h with h | h
    · exact ⟨_,mem_of_lookup h,.inl rfl⟩
    · exact ⟨_,mem_of_lookup h,.inr rfl⟩
  obtain ⟨k,hm,hk⟩:=this
  obtain ⟨⟨n,k'⟩,hm',e⟩:=List.mem_map.mp hm
  dsimp only at e
  split at e
  · rename_i hc
    cases e
    simp only [Bool.and_eq_true,beq_iff_eq] at hc
    obtain ⟨⟨h1,_⟩,_⟩:=hc
    subst h1; exact hm'
  · cases e
    rcases hk with rfl | rfl
    · exact absurd rfl (nc _ hm')
    · exact hm'
noncomputable def PTs (X:Cx) (ifs:List Expr) (t:TT):Prop:=∀ (pins:List (Addr × Obj)) (s:Shared) (σ:St) (H:Hp) (Q:Bool→Hp→Prop),Inv X pins σ H s→t σ H Q →
  wpAny (model X.prog X.w) X.A (forIn ifs true fun c r=>if r=true then do let ok ← isTrue c X.env (eval c X.env); pure (ForInStep.yield ok) else pure (ForInStep.yield r)) (TP X pins σ Q) X.xe s
theorem a5x {X:Cx}:PTs X [] (fun _ H Q=>Q true H):=fun pins s σ H Q I h=>wpAny_tests_nil ⟨H,I,h⟩
theorem a5l {X:Cx} {c:Expr} {t:TT} (h:PT X c t):PTs X [c] t:=fun pins s σ H Q I q=>wpAny_tests_one (h pins s σ H Q I q)
noncomputable def Rt (X:Cx) (scope:Scope) (N:List Str) (g:TG) (tc:TT) (te:TE) (σ:St) (J:It) (H1:Hp) (Q:VK):Prop:=∀ D,H1 D=none→∃ σ0:St,σ0.length=N.length ∧
  (∀ (i:Nat) (v:V) (x:Str),σ0[i]? = some (some v)→N[i]? = some x→Vis (relabel scope X.env) x→∃ k:Nat,X.N[k]? = some x∧σ[k]? = some (some v)∧aa8 X scope x) ∧
  ∃ W:Nat→Nat→St→Hp→Prop,(∃ m,W 0 m σ0 (upd H1 D (.lst [])))∧∀ i m σ' H',W i m σ' H' →
    (J.stop i H'∧Q (.ref D) H')∨(J.go i H'∧∀ x H2,J.yld i H' x H2→g x σ' H2 fun σ2 H3=>tc σ2 H3 fun b H4=>if b=true then te σ2 H4 fun y H5=>∃ l,H5 D=some (.lst l)∧l.length<sizeLine∧∃ m',m'<m∧W (i+1) m' σ2 (upd H5 D (.lst (l++[y]))) else ∃ m',m'<m∧W (i+1) m' σ2 H4)
noncomputable def a77 (X:Cx) (scope:Scope) (N:List Str) (wi:TI) (g:TG) (tc:TT) (te:TE):TE:=fun σ H Q=>wi σ H fun J H1=>Rt X scope N g tc te σ J H1 Q
noncomputable section
variable {X:Cx} {scope:Scope} {N:List Str}
theorem a04 (sc:M7 X scope N) {pins:List (Addr × Obj)} {σ:St} {H:Hp} {s:Shared} {fp:List Addr} (I:Inv X pins σ H s) (hf:∀ b∈fp,Wa X pins H b) (hfl:∀ b∈fp,b<s.heap.objs.size) :
    (wk X scope N s.heap.objs.size s H fp (X.pn++pins)).Ok where
  mod:=I.ok.mod
  kind:=sc.kind
  glob:=I.ok.glob
  blt:=I.ok.blt
  above:=Nat.le_refl _
  inj:=fun x y c h1 h2=>I.ok.inj x y c (Kl _ [] (fun _ _ z=>by simp at z) x c h1) (Kl _ [] (fun _ _ z=>by simp at z) y c h2)
  has:=fun x h=>a02 _ [] x sc.has (W0 sc.nocell h)
  cab:=fun x c h=>by cases h
  hd:=I.ok.hd
  frames:=I.ok.frames
  stk:=.inl rfl
  exf:=fun b hb=>⟨Nat.ne_of_lt (hfl b hb),fun x c h=>(hf b hb).2.2.2.2.1 x c (Kl _ [] (fun _ _ z=>by simp at z) x c h)⟩
  bs:=I.bs
  bsz:=Nat.le_trans I.ok.bsz I.sz
  noex:=fun b o e hb=>by
    rcases (hf b hb).2.2.2.1 with z | z
    · exact I.ok.noex b o e z
    · exact absurd (Nat.lt_of_lt_of_le (Heap.lt_size e) (Nat.le_trans I.ok.bsz z)) (Nat.lt_irrefl _)
  exfs:=fun b hb z=>by
    rcases List.mem_cons.mp (I.W3 b z) with e | e
    · exact (hf b hb).2.1 e
    · exact (hf b hb).2.2.1 e
  Xn:=I.stack
  frf:=I.Xv
theorem Xe (sc:M7 X scope N) {pins:List (Addr × Obj)} {σ σ0:St} {H:Hp} {s:Shared} {fp:List Addr} {h':Heap} {m:Str→Option Value} {tk:Nat} (I:Inv X pins σ H s) (hf:∀ b∈fp,Wa X pins H b) (hfl:∀ b∈fp,b<s.heap.objs.size)
    (hl:σ0.length=N.length) (h0:∀ (i:Nat) (v:V) (x:Str),σ0[i]? = some (some v)→N[i]? = some x→Vis (relabel scope X.env) x→∃ k:Nat,X.N[k]? = some x∧σ[k]? = some (some v)∧aa8 X scope x)
    (hn:h'.Ns s.heap.objs.size m) (hk:∀ b o,s.heap.get? b=some o→h'.get? b=some o) :
    Inv (wk X scope N s.heap.objs.size s H fp (X.pn++pins)) [] σ0 H { s with heap:=h',toks:=tk } where
  ok:=a04 sc I hf hfl
  os:=rfl
  bare:=I.bare
  base:=Un.kept hk
  loc:=⟨m,hn,fun i x v e1 e2 e3=>by
    obtain ⟨k,n2,n3,ck,cv,cr⟩:=h0 i v x e2 e1 e3
    obtain ⟨m0,_,hl0⟩:=I.loc
    obtain ⟨u,r,l⟩:=hl0 k x v n2 n3 cv
    refine ⟨u,r,.inr ⟨cr,?_⟩⟩
    rcases l with ⟨l1,_⟩ | ⟨_,c,hc,z⟩
    · rcases ck with q | q <;> (rw [l1] at q; cases q)
    · obtain ⟨c',hc'⟩:=a02 (env:=X.env) scope.names [] x sc.has (W0 sc.nocell cr)
      have q:=Kl scope.names [] (fun _ _ z=>by simp at z) x c' hc'
      rw [hc] at q; cases q
      obtain ⟨o,ho,hd⟩:=z
      exact ⟨c,hc',o,hk _ _ ho,hd⟩⟩
  cell:=fun x c e=>by
    obtain ⟨v,o,ho,hd⟩:=I.cell x c (Kl scope.names [] (fun _ _ z=>by simp at z) x c e)
    exact ⟨v,o,hk _ _ ho,hd⟩
  free:=I.hok.fresh (Nat.le_refl _)
  freeC:=fun x c e=>I.freeC x c (Kl scope.names [] (fun _ _ z=>by simp at z) x c e)
  pin:=fun p hp=>by
    have hp':p∈X.pn++pins:=by simpa [wk] using hp
    obtain ⟨a,b,c,d,e⟩:=I.pin p hp'
    refine ⟨hk _ _ a,b,Nat.ne_of_lt (Heap.lt_size a),fun z=>?_,e⟩
    rcases List.mem_cons.mp (I.W3 p.1 z) with q | q
    · exact c q
    · exact d q
  hok:=I.hok.kept hk
  len:=hl
theorem Ur {pins:List (Addr × Obj)} {σ σ':St} {H H':Hp} {s s':Shared} {fp:List Addr} {h':Heap} (I:Inv X pins σ H s) (hf:∀ b∈fp,Wa X pins H b)
    (J:Inv (wk X scope N s.heap.objs.size s H fp (X.pn++pins)) [] σ' H' s') (hs:Heap.SameBut s.heap.objs.size s'.heap h'):Inv X pins σ H' { s' with heap:=h' }:=by
  have kb:∀ b o,b≠s.heap.objs.size→s'.heap.get? b=some o→h'.get? b=some o:=fun b o n e=>hs.extBut b o n e
  have ne:∀ b o,s.heap.get? b=some o→b≠s.heap.objs.size:=fun b o e=>Nat.ne_of_lt (Heap.lt_size e)
  have fr:H' s.heap.objs.size=none:=J.free
  have u0:Un (frs X.stack) fp H H' s.heap s'.heap:=J.base
  have u:Un (frs X.stack) fp H H' s.heap h':=⟨fun b o e n h1 h2=>kb b o (ne b o e) (u0.keep b o e n h1 h2),fun b o e n h1 h2=>by
      obtain ⟨sl,q⟩:=u0.slot b o e n h1 h2
      exact ⟨sl,kb b _ (ne b o e) q⟩,u0.free,fun b o e h=>by
      obtain ⟨o',q⟩:=u0.there b o e h
      exact ⟨o',kb b _ (ne b o e) q⟩,u0.tups,u0.frzs,u0.tbls⟩
  have hok:HOk X.prog X.w H' h':=fun b o e=>by
    refine (J.hok b o e).stay (fun c v hc q=>kb c v ?_ q) (fun _ q=>q) fun _ _ q=>q
    rcases hc with z | z
    · rw [z]; intro y; rw [y] at e; rw [fr] at e; cases e
    · intro y; rw [y] at z; rw [fr] at z; cases z
  have hos:s'.os=s.os:=J.os
  obtain ⟨hh,g,d,t,os'⟩:=s'
  obtain rfl:os'=s.os:=hos
  exact Inv.call (X:=X) (s:=s) (H:=H) (h':=h') (g':=g) (d':=d) (t':=t) (ch:=fp) I u hok J.bare fun b hb=>⟨(hf b hb).2.2.2.1,(hf b hb).2.1,(hf b hb).2.2.2.2.1,(hf b hb).2.2.2.2.2⟩
variable {tg iter elt:Expr} {ifs:List Expr} {pos:Pos} {g:TG} {tc:TT} {te:TE}
theorem M9 (sc:M7 X scope N) (calm:X.calm=true)
    (hg:∀ C s₀ H₀ ex pn,PG (wk X scope N C s₀ H₀ ex pn) tg g) (hc:∀ C s₀ H₀ ex pn,PTs (wk X scope N C s₀ H₀ ex pn) ifs tc) (he:∀ C s₀ H₀ ex pn,PE (wk X scope N C s₀ H₀ ex pn) elt te)
    {pins:List (Addr × Obj)} {σ:St} {H1:Hp} {s₂:Shared} {it:Addr} {fp:List Addr} {tn:Nat→Heap→Prop} {J:It} {Q:VK} {E:Value→Shared→Prop} {RR:Value→Addr→Result→Shared→Prop}
    (I:Inv X pins σ H1 s₂) (T:Turn X.prog X.w X.K tg J fp it tn) (st2:tn 0 s₂.heap) (f2:∀ b∈fp,Wa X pins H1 b) (q:Rt X scope N g tc te σ J H1 Q)
    (hRR:∀ D s₃ H3 σ' H' s',Inv X pins σ H3 s₃→(∀ b∈fp,Wa X pins H3 b)→Inv (wk X scope N s₃.heap.objs.size s₃ H3 fp (X.pn++pins)) [] σ' H' s'→Q (.ref D) H'→RR (.ref D) s₃.heap.objs.size (.ok .next) s') :
    wpAny (model X.prog X.w) X.A (newList []) (fun acc s₃=>wpAny (model X.prog X.w) X.A (newFunctionEnv scope X.env.globals (Wu X.env scope.names []) [] X.env.qual none .none (some X.env)) (fun cenv s₄ =>
      codeAny (model X.prog X.w) X.A (.compStart (.ListComp elt [⟨tg,iter,ifs,0⟩] scope pos) 0 (.ref it) acc { cenv with scope:=relabel scope X.env }) (RR acc cenv.locals) s₄) E s₃) E s₂:=by
  refine wpAny_newObj_type (wpAny_newFunctionEnv sc.nocell (by intro y hy; simp at hy) (fun h₁ hns₁ hsb₁=>?_) sc.kind)
  dsimp only at hns₁ hsb₁ ⊢
  have I3:Inv X pins σ (upd H1 s₂.heap.objs.size (.lst [])) { s₂ with heap:=s₂.heap.push { cls:=.type "list",dict:=none,data:=.seq ([]:List Value).toArray } } :=
    I.laid (t':=s₂.toks) (fun b ob q=>Heap.get?_push_of_some _ q) (Nat.le_refl _) ⟨Nat.zero_le _,[],_,.nil,Heap.get?_push_size _ rfl⟩
  generalize hs3:({ s₂ with heap:=s₂.heap.push { cls:=.type "list",dict:=none,data:=.seq ([]:List Value).toArray } }:Shared)=s₃ at I3
  have hheap:s₂.heap.push { cls:=.type "list",dict:=none,data:=.seq ([]:List Value).toArray } = s₃.heap:=by rw [← hs3]
  have hstate:∀ (h:Heap) (t:Nat),({ s₂ with heap:=h,toks:=t }:Shared) = { s₃ with heap:=h,toks:=t }:=fun h t=>by rw [← hs3]
  rw [hheap] at hns₁ hsb₁ ⊢
  have lt2:∀ b∈fp,b<s₂.heap.objs.size:=fun b hb=>by
    obtain ⟨o,ho,_⟩:=T.obj _ _ st2 b hb
    exact Heap.lt_size ho
  have sz3:s₃.heap.objs.size=s₂.heap.objs.size+1:=by rw [← hheap,Heap.size_push]
  have k23:∀ b o,s₂.heap.get? b=some o→s₃.heap.get? b=some o:=fun b o e=>by rw [← hheap]; exact Heap.get?_push_of_some _ e
  have f3:∀ b∈fp,Wa X pins (upd H1 s₂.heap.objs.size (.lst [])) b:=fun b hb=>⟨by rw [m7 (Nat.ne_of_lt (lt2 b hb))]; exact (f2 b hb).1,(f2 b hb).2⟩
  have lt3:∀ b∈fp,b<s₃.heap.objs.size:=fun b hb=>by rw [sz3]; exact Nat.lt_succ_of_lt (lt2 b hb)
  obtain ⟨σ0,hl,h0,W,⟨m0,w0⟩,turn⟩:=q s₂.heap.objs.size (I.hok.fresh (Nat.le_refl _))
  have k34:∀ b o,s₃.heap.get? b=some o→h₁.get? b=some o:=fun b o e=>hsb₁.extBut b o (Nat.ne_of_lt (Heap.lt_size e)) (Heap.get?_push_of_some _ e)
  rw [hstate]
  have J0:=Xe (tk:=s₂.toks+([]:List (Str × Value)).length) sc I3 f3 lt3 hl h0 hns₁ k34
  have st4:tn 0 h₁:=T.keep _ _ _ st2 fun b _ o e=>k34 b o (k23 b o e)
  have key:∀ s₄:Shared,s₄ = { s₃ with heap:=h₁,toks:=s₂.toks+([]:List (Str × Value)).length }→codeAny (model X.prog X.w) X.A (.compLoop (.ListComp elt [⟨tg,iter,ifs,0⟩] scope pos) 0 (.ref it) (.ref s₂.heap.objs.size)
      (wk X scope N s₃.heap.objs.size s₃ (upd H1 s₂.heap.objs.size (.lst [])) fp (X.pn++pins)).env) (RR (.ref s₂.heap.objs.size) s₃.heap.objs.size) s₄:=by
    rintro s₄ rfl
    generalize hX:wk X scope N s₃.heap.objs.size s₃ (upd H1 s₂.heap.objs.size (.lst [])) fp (X.pn++pins)=X' at J0
    have hP:X'.prog=X.prog:=by rw [← hX]; rfl
    have hW:X'.w=X.w:=by rw [← hX]; rfl
    have hA:X'.A=X.A:=by rw [← hX]; rfl
    have hxe:X'.xe=fun _ _=>False:=by rw [← hX]; rfl
    have hK:X'.K=X.K:=by rw [← hX]; rfl
    have hcal:X'.calm=true:=by rw [← hX]; exact calm
    have stat:∀ {H':Hp},(∀ b∈fp,H' b=none)→∀ b∈fp,Wa X' [] H' b:=fun hn b hb=>by
      have z:=a04 sc I3 f3 lt3
      rw [hX] at z
      refine ⟨hn b hb,(z.exf b (by rw [← hX]; exact hb)).1,z.exfs b (by rw [← hX]; exact hb),.inl (by rw [← hX]; exact hb),(z.exf b (by rw [← hX]; exact hb)).2,fun p hp=>?_⟩
      have hp':p∈X.pn++pins:=by rw [← hX] at hp; simpa [wk] using hp
      exact (f3 b hb).2.2.2.2.2 p hp'
    have hg':PG X' tg g:=by rw [← hX]; exact hg _ _ _ _ _
    have hc':PTs X' ifs tc:=by rw [← hX]; exact hc _ _ _ _ _
    have he':PE X' elt te:=by rw [← hX]; exact he _ _ _ _ _
    have fin:∀ σ' H' s',Inv X' [] σ' H' s'→Q (.ref s₂.heap.objs.size) H'→RR (.ref s₂.heap.objs.size) s₃.heap.objs.size (.ok .next) s':=fun σ' H' s' I' q'=>hRR _ s₃ _ σ' H' s' I3 f3 (by rw [hX]; exact I') q'
    have T':Turn X'.prog X'.w X'.K tg J fp it tn:=by rw [hP,hW,hK]; exact T
    rw [← hP,← hW,← hA]
    refine Rk (J:=fun n s'=>∃ i σ' H',Inv X' [] σ' H' s'∧tn i s'.heap∧(∀ b∈fp,H' b=none)∧W i n σ' H') ?_ m0 ⟨0,σ0,_,J0,st4,fun b hb=>(f3 b hb).1,w0⟩
    rintro n s5 ⟨i,σ5,H5,I5,st5,fr5,w5⟩
    rcases turn i n σ5 H5 w5 with ⟨stop,qn⟩ | ⟨go,step⟩
    · refine thn (T'.done X' rfl rfl rfl hcal i [] s5 σ5 H5 _ I5 (stat fr5) st5 stop) fun r s6 z0=>?_
      obtain ⟨hr,I6⟩:=z0
      subst hr
      exact fin _ _ _ I6 qn
    · refine thn (T'.item X' rfl rfl rfl hcal i [] s5 σ5 H5 _ I5 (stat fr5) st5 go) fun r s6 z0=>?_
      obtain ⟨u,hr,h6⟩:=z0
      subst hr
      refine thn h6 fun _ s7 z0=>?_
      obtain ⟨x,H7,I7,r7,y7,st7,fr7⟩:=z0
      have I7':=I7.pinned (stat fr7) (T'.obj _ _ st7)
      have a1:=hg' _ s7 σ5 H7 x u _ I7' r7 (step x H7 y7)
      rw [hxe] at a1
      refine thn a1 fun _ s8 z0=>?_
      obtain ⟨σ8,H8,I8,q8⟩:=z0
      have a2:=hc' _ s8 σ8 H8 _ I8 q8
      rw [hxe] at a2
      refine thn a2 fun ok s9 z0=>?_
      obtain ⟨H9,I9,q9⟩:=z0
      have again:∀ {σ7:St} {H7:Hp} {s':Shared} {m':Nat},Inv X' ([]++Qt fp s7.heap) σ7 H7 s'→m'<n→W (i+1) m' σ7 H7→∃ m,m<n∧∃ i σ' H',Inv X' [] σ' H' s'∧tn i s'.heap∧(∀ b∈fp,H' b=none)∧W i m σ' H':=fun {σ7 H7 s' m'} I7 hm w7=>by
        refine ⟨m',hm,i+1,σ7,H7,I7.Gj,T'.keep _ _ _ st7 fun b hb o e=>(I7.pin (b,o) (List.mem_append_right _ (List.mem_append_right _ (Cg hb e)))).1,fun b hb=>?_,w7⟩
        obtain ⟨o,e,d⟩:=T'.obj _ _ st7 b hb
        exact (I7.pin (b,o) (List.mem_append_right _ (List.mem_append_right _ (Cg hb e)))).2.1
      cases ok with
      | false =>
        rw [if_neg Bool.false_ne_true] at q9 ⊢
        obtain ⟨m',hm,w9⟩:=q9
        exact again I9 hm w9
      | true =>
        rw [if_pos rfl] at q9 ⊢
        have a3:=he' _ s9 σ8 H9 _ I9 q9
        rw [hxe] at a3
        refine thn a3 fun xv s10 z0=>?_
        obtain ⟨y,H10,I10,r10,l,hl10,hz10,m',hm,w10⟩:=z0
        have a4:=Ay (X:=X') _ s10 σ8 H10 (.ref s₂.heap.objs.size) [y] (.ref s₂.heap.objs.size) [xv] (fun _ H'=>H'=upd H10 s₂.heap.objs.size (.lst (l++[y]))) I10 rfl (.cons r10 .nil) ⟨_,l,y,rfl,rfl,hl10,hz10,rfl⟩
        rw [hxe] at a4
        refine thn a4 fun _ s11 z0=>?_
        obtain ⟨v,H11,I11,_,e11⟩:=z0
        subst e11
        exact again I11 hm w10
  exact codeAny_compStart_list (key _ rfl) (T.self _ 0 _ _ _ st4 (key _ rfl))
theorem a6a {wi:TI} (sc:M7 X scope N) (calm:X.calm=true) (hi:PI X tg iter wi)
    (hg:∀ C s₀ H₀ ex pn,PG (wk X scope N C s₀ H₀ ex pn) tg g) (hc:∀ C s₀ H₀ ex pn,PTs (wk X scope N C s₀ H₀ ex pn) ifs tc) (he:∀ C s₀ H₀ ex pn,PE (wk X scope N C s₀ H₀ ex pn) elt te)
    (hs:∀ x,foldedSetIterable iter X.env x=pure x:=by intro _; rfl):PE X (.ListComp elt [⟨tg,iter,ifs,0⟩] scope pos) (a77 X scope N wi g tc te):=by
  intro pins s σ H Q I h
  rw [eval_ListComp]
  refine wpAny_comprehension_free (use:=none) rfl hs (G3 sc.has) sc.kind sc.names ?_
  refine wpAny_mono (hi pins s σ H _ I h) (fun x s₁ h₁=>wpAny_mono h₁ (fun itv s₂ h₂=>?_) fun _ _ e=>e) fun _ _ e=>e
  obtain ⟨it,fp,tn,J,H1,rfl,I2,T,st2,f2,q⟩:=h₂
  refine M9 (RR:=fun acc C=>compPost (model X.prog X.w) X.A X.xe none (EP X pins σ Q) acc C) sc calm hg hc he I2 T st2 f2 q ?_
  intro D s₃ H3 σ' H' s' I3 f3 I' qn
  obtain ⟨m,hn,_⟩:=I'.loc
  exact ⟨m,hn,fun h' hs'=>⟨.ref D,H',Ur I3 f3 I' hs',rfl,qn⟩⟩
theorem Hj {wi:TI} {y:Str} {py spos:Pos} {i:Nat} (sc:M7 X scope N) (calm:X.calm=true) (hi:PI X tg iter wi)
    (hg:∀ C s₀ H₀ ex pn,PG (wk X scope N C s₀ H₀ ex pn) tg g) (hc:∀ C s₀ H₀ ex pn,PTs (wk X scope N C s₀ H₀ ex pn) ifs tc) (he:∀ C s₀ H₀ ex pn,PE (wk X scope N C s₀ H₀ ex pn) elt te)
    (hgN:PG X (.Name y py) (Ox i)) (hsw:swapsWith (.ListComp elt [⟨tg,iter,ifs,0⟩] scope pos) (some (.Name y py)) spos.line X.env=pure true)
    (hs:∀ x,foldedSetIterable iter X.env x=pure x:=by intro _; rfl):PS X (.Assign [.Name y py] (.ListComp elt [⟨tg,iter,ifs,0⟩] scope pos) spos) (a7e (a77 X scope N wi g tc te) (Ox i)):=by
  intro pins s σ H D I h
  rw [exec_Assign_Name_used _ _ _ _ hsw] -- here
  refine wpAny_bind (wpAny_standAt (wpAny_bind ?_)) -- here
  show wpAny _ X.A (do let _ ← comprehension (.ListComp elt [⟨tg,iter,ifs,0⟩] scope pos) scope X.env _ (newList []) false (eval iter X.env) (some (assign (.Name y py) X.env))) _ _ s
  refine wpAny_bind (wpAny_mono (wpAny_comprehension_free (use:=some (assign (.Name y py) X.env)) (Q:=fun _ s'=>SP X pins D .next s') rfl hs (G3 sc.has) sc.kind sc.names ?_) (fun _ s' hq=>wpAny_pure (wpAny_pure hq)) fun _ _ e=>e)
  refine wpAny_mono (hi pins s σ H _ I h) (fun x s₁ h₁=>wpAny_mono h₁ (fun itv s₂ h₂=>?_) fun _ _ e=>e) fun _ _ e=>e
  obtain ⟨it,fp,tn,J,H1,rfl,I2,T,st2,f2,q⟩:=h₂
  refine M9 (RR:=fun acc C=>compPost (model X.prog X.w) X.A X.xe (some (assign (.Name y py) X.env)) (fun _ s'=>SP X pins D .next s') acc C) sc calm hg hc he I2 T st2 f2 q ?_
  intro D' s₃ H3 σ' H' s' I3 f3 I' qn
  obtain ⟨m,hn,_⟩:=I'.loc
  obtain ⟨oC,es,ep,hoC,hdC,hrest⟩:=id hn
  have IX:Inv X pins σ H' s':=Ur I3 f3 I' (.refl ..)
  have fC:Wa X pins H' s₃.heap.objs.size:=I3.aaf (Nat.le_refl _) I'.free
  have IXp:=IX.pinned (fp:=[s₃.heap.objs.size]) (fun b hb=>by rw [List.mem_singleton.mp hb]; exact fC) (fun b hb=>by
    rw [List.mem_singleton.mp hb]
    exact ⟨oC,hoC,fun v z=>by rw [hdC] at z; cases z⟩)
  show wpAny _ X.A (assign (.Name y py) X.env (.ref D')) _ _ _
  refine thn (hgN _ s' σ H' (.ref D') (.ref D') _ IXp rfl qn) fun _ s'' z0=>?_
  obtain ⟨σ'',H'',I'',q''⟩:=z0
  have pC:=I''.pin (s₃.heap.objs.size,oC) (List.mem_append_right _ (List.mem_append_right _ (Cg (by simp) hoC)))
  refine ⟨m,⟨oC,es,ep,pC.1,hdC,hrest⟩,fun h' hs'=>⟨σ'',H'',?_,q''⟩⟩
  exact I''.Gj.turned (h':=h') (t':=s''.toks) (it:=s₃.heap.objs.size) (fun b o ne e=>hs'.extBut b o ne e) pC.2.1 fC.2.1 fC.2.2.2.1 fC.2.2.2.2.1 fC.2.2.2.2.2
end
end L2
end
noncomputable section
set_option linter.all false
set_option maxHeartbeats 4000002
set_option autoImplicit false
namespace C
open PySem PySem.Spec PyProof.Rows L2
mutual
inductive Rep (K:PySem.W.Frag) (S:Hp) (as:List Addr):V→T→Prop where
  | non:Rep K S as .non .non
  | bl (b:Bool):Rep K S as (.bl b) (.bl b)
  | int (i:Int):Rep K S as (.int i) (.int i)
  | str (x:Str):Rep K S as (.str x) (.str x)
  | tup {a:Addr} {vs:List V} {ts:List T}:SqT K S a vs→uc K S as vs ts→Rep K S as (.ref a) (.tup ts)
  | lst {a:Addr} {vs:List V} {ts:List T}:SqL K S a vs→uc K S as vs ts→Rep K S as (.ref a) (.lst ts)
  | dic {a:Addr} {kvs:List (L2.Key × V)} {ts:List (L2.Key × T)}:Rd S a (.dK kvs)→Bs K S as kvs ts→Rep K S as (.ref a) (.dic ts)
  | obj {n:Nat} {a:Addr}:as[n]? = some a→Rep K S as (.ref a) (.obj n)
inductive uc (K:PySem.W.Frag) (S:Hp) (as:List Addr):List V→List T→Prop where
  | nil:uc K S as [] []
  | cons {v:V} {t:T} {vs:List V} {ts:List T}:Rep K S as v t→uc K S as vs ts→uc K S as (v::vs) (t::ts)
inductive Bs (K:PySem.W.Frag) (S:Hp) (as:List Addr):List (L2.Key × V)→List (L2.Key × T)→Prop where
  | nil:Bs K S as [] []
  | cons {k:L2.Key} {v:V} {t:T} {vs:List (L2.Key × V)} {ts:List (L2.Key × T)}:Rep K S as v t→Bs K S as vs ts→Bs K S as ((k,v)::vs) ((k,t)::ts)
end
theorem vd {S S':Hp} {a:Addr} {u:HO} (e:Same S S') (h:Rd S a u):Rd S' a u:=by
  rcases h with h | ⟨o,h⟩
  · exact .inl (e _ _ h)
  · exact .inr ⟨o,e _ _ h⟩
theorem n8 {K:PySem.W.Frag} {S S':Hp} {a:Addr} {xs:List V} (e:Same S S') (h:SqT K S a xs):SqT K S' a xs:=by
  rcases h with h | h
  · exact .inl (vd e h)
  · exact .inr h
theorem kj {K:PySem.W.Frag} {S S':Hp} {a:Addr} {xs:List V} (e:Same S S') (h:SqL K S a xs):SqL K S' a xs:=by
  rcases h with h | h
  · exact .inl (vd e h)
  · exact .inr h
noncomputable section
variable {K:PySem.W.Frag} {S S':Hp} {as as':List Addr}
theorem Zu {α:Type} {l r:List α} {n:Nat} {a:α} (h:l[n]? = some a):(l++r)[n]? = some a:=by
  have:=(List.getElem?_eq_some_iff.mp h).1
  rw [List.getElem?_append_left this]; exact h
theorem Tp {n:Nat} {a:Addr} (x:∃ l,as'=as++l) (h:as[n]? = some a):as'[n]? = some a:=by obtain ⟨l,rfl⟩:=x; exact Zu h
theorem Rep.mono (e:Same S S') (x:∃ l,as'=as++l) {v:V} {t:T} (h:Rep K S as v t):Rep K S' as' v t :=
  Rep.rec (motive_1:=fun v t _=>Rep K S' as' v t) (motive_2:=fun v t _=>uc K S' as' v t) (motive_3:=fun v t _=>Bs K S' as' v t) .non .bl .int .str (fun h _ i=>.tup (n8 e h) i) (fun h _ i=>.lst (kj e h) i) (fun h _ i=>.dic (vd e h) i) (fun h=>.obj (Tp x h)) .nil (fun _ _ a b=>.cons a b) .nil (fun _ _ a b=>.cons a b) h
theorem uc.mono (e:Same S S') (x:∃ l,as'=as++l) {v:List V} {t:List T} (h:uc K S as v t):uc K S' as' v t :=
  uc.rec (motive_1:=fun v t _=>Rep K S' as' v t) (motive_2:=fun v t _=>uc K S' as' v t) (motive_3:=fun v t _=>Bs K S' as' v t) .non .bl .int .str (fun h _ i=>.tup (n8 e h) i) (fun h _ i=>.lst (kj e h) i) (fun h _ i=>.dic (vd e h) i) (fun h=>.obj (Tp x h)) .nil (fun _ _ a b=>.cons a b) .nil (fun _ _ a b=>.cons a b) h
theorem Bs.mono (e:Same S S') (x:∃ l,as'=as++l) {v:List (L2.Key × V)} {t:List (L2.Key × T)} (h:Bs K S as v t):Bs K S' as' v t :=
  Bs.rec (motive_1:=fun v t _=>Rep K S' as' v t) (motive_2:=fun v t _=>uc K S' as' v t) (motive_3:=fun v t _=>Bs K S' as' v t) .non .bl .int .str (fun h _ i=>.tup (n8 e h) i) (fun h _ i=>.lst (kj e h) i) (fun h _ i=>.dic (vd e h) i) (fun h=>.obj (Tp x h)) .nil (fun _ _ a b=>.cons a b) .nil (fun _ _ a b=>.cons a b) h
inductive Km (K:PySem.W.Frag) (S:Hp) (as:List Addr):List (List L2.Key × V)→List (List L2.Key × T)→Prop where
  | nil:Km K S as [] []
  | cons {k:List L2.Key} {v:V} {t:T} {vs:List (List L2.Key × V)} {ts:List (List L2.Key × T)}:Rep K S as v t→Km K S as vs ts→Km K S as ((k,v)::vs) ((k,t)::ts)
theorem Km.mono (e:Same S S') (x:∃ l,as'=as++l) {v:List (List L2.Key × V)} {t:List (List L2.Key × T)} (h:Km K S as v t):Km K S' as' v t:=by
  induction h with
  | nil=>exact .nil
  | cons h _ ih=>exact .cons (h.mono e x) ih
theorem Km.length {vs:List (List L2.Key × V)} {ts:List (List L2.Key × T)} (h:Km K S as vs ts):vs.length=ts.length:=by
  induction h with
  | nil=>rfl
  | cons _ _ ih=>exact congrArg (· + 1) ih
theorem uc.length {vs:List V} {ts:List T} (h:uc K S as vs ts):vs.length=ts.length :=
  uc.rec (motive_1:=fun _ _ _=>True) (motive_2:=fun v t _=>v.length=t.length) (motive_3:=fun _ _ _=>True) trivial (fun _=>trivial) (fun _=>trivial) (fun _=>trivial) (fun _ _ _=>trivial) (fun _ _ _=>trivial) (fun _ _ _=>trivial) (fun _=>trivial) rfl (fun _ _ _ i=>congrArg (· + 1) i) trivial (fun _ _ _ _=>trivial) h
theorem Bs.length {vs:List (L2.Key × V)} {ts:List (L2.Key × T)} (h:Bs K S as vs ts):vs.length=ts.length :=
  Bs.rec (motive_1:=fun _ _ _=>True) (motive_2:=fun _ _ _=>True) (motive_3:=fun v t _=>v.length=t.length) trivial (fun _=>trivial) (fun _=>trivial) (fun _=>trivial) (fun _ _ _=>trivial) (fun _ _ _=>trivial) (fun _ _ _=>trivial) (fun _=>trivial) trivial (fun _ _ _ _=>trivial) rfl (fun _ _ _ i=>congrArg (· + 1) i) h
theorem uc.get:∀ {vs:List V} {ts:List T} {i:Nat} {t:T},uc K S as vs ts→ts[i]? = some t→∃ v,vs[i]? = some v∧Rep K S as v t
  | _,_,_,_,.nil,e=>by simp at e
  | _,_,0,_,.cons r _,e=>by simp at e; subst e; exact ⟨_,rfl,r⟩
  | _,_,i+1,t,.cons _ r,e=>by
    obtain ⟨v,h1,h2⟩:=uc.get (i:=i) (t:=t) r (by simpa using e)
    exact ⟨v,by simpa using h1,h2⟩
theorem uc.append {vs:List V} {ts:List T} {ws:List V} {us:List T} (h:uc K S as vs ts) (q:uc K S as ws us):uc K S as (vs++ws) (ts++us) :=
  uc.rec (motive_1:=fun _ _ _=>True) (motive_2:=fun v t _=>uc K S as (v++ws) (t++us)) (motive_3:=fun _ _ _=>True) trivial (fun _=>trivial) (fun _=>trivial) (fun _=>trivial) (fun _ _ _=>trivial) (fun _ _ _=>trivial) (fun _ _ _=>trivial) (fun _=>trivial) q (fun h _ _ i=>.cons h i) trivial (fun _ _ _ _=>trivial) h
theorem uc.drop:∀ (n:Nat) {vs:List V} {ts:List T},uc K S as vs ts→uc K S as (vs.drop n) (ts.drop n)
  | 0,_,_,r=>r
  | _+1,_,_,.nil=>.nil
  | n+1,_,_,.cons _ r=>uc.drop n r
theorem Bs.get (k:L2.Key):∀ {vs:List (L2.Key × V)} {ts:List (L2.Key × T)},Bs K S as vs ts→(∃ v t,Ln vs k=some v∧Ac k ts=some t∧Rep K S as v t)∨(Ln vs k=none∧Ac k ts=none)
  | _,_,.nil=>.inr ⟨rfl,rfl⟩
  | _,_,.cons (k:=q) (v:=v) (t:=t) (vs:=vs) (ts:=ts) h r=>by
    by_cases e:q=k
    · exact .inl ⟨v,t,Gm (p:=(q,v)) e,by rw [Ac,if_pos e],h⟩
    · rw [Gf (p:=(q,v)) e,Ac,if_neg e]
      exact Bs.get k r
end
structure Bas where
  S:Hp
  as:List Addr
  H:Hp
structure aah (B:Bas) (S:Hp) (as:List Addr) (H:Hp):Prop where
  same:Same B.S S
  more:∃ l,as=B.as++l
  keep:∀ p o,B.H p=some o→B.S p=none→p∉B.as→H p=some o∧S p=none∧p∉as
structure Ext (S H S' H':Hp):Prop where
  s:Same S S'
  h:Same H H'
  sub:Same S' H'
  new:∀ p,S' p≠none→S p≠none∨H p=none
theorem Ext.refl {S H:Hp} (h:Same S H):Ext S H S H:=⟨Same.refl _,Same.refl _,h,fun _ q=>.inl q⟩
theorem Same.upd {H:Hp} {p:Addr} (h:H p=none) (o:HO):Same H (upd H p o):=fun b u q=>by rw [m7 (Av q h)]; exact q
theorem Ext.laid {S H:Hp} (h:Same S H) {p:Addr} (n:H p=none) (o:HO):Ext S H (upd S p o) (upd H p o) where
  s:=Same.upd (h.free n) o
  h:=Same.upd n o
  sub:=fun b u q=>by
    by_cases e:b=p
    · subst e; rw [jf] at q ⊢; exact q
    · rw [m7 e] at q ⊢; exact h _ _ q
  new:=fun b q=>by
    by_cases e:b=p
    · subst e; exact .inr n
    · rw [m7 e] at q; exact .inl q
theorem Ext.trans {S H S1 H1 S2 H2:Hp} (a:Ext S H S1 H1) (b:Ext S1 H1 S2 H2):Ext S H S2 H2 where
  s:=a.s.trans b.s
  h:=a.h.trans b.h
  sub:=b.sub
  new:=fun p q=>by
    rcases b.new p q with z | z
    · exact a.new p z
    · exact .inr (a.h.free z)
noncomputable def Own (K:PySem.W.Frag) (S:Hp) (as:List Addr) (H:Hp) (p:Addr):T→Prop
  | .lst ts=>∃ vs,H p=some (.lst vs)∧uc K S as vs ts
  | .dic ts=>∃ kvs,H p=some (.dK kvs)∧Bs K S as kvs ts
  | _=>False
structure T9 (K:PySem.W.Frag) (B:Bas) (S:Hp) (as:List Addr) (H:Hp) (p:Addr) (t:T):Prop where
  own:Own K S as H p t
  out:S p=none
  nas:p∉as
  new:B.H p=none
noncomputable def Zn (K:PySem.W.Frag) (S:Hp) (as:List Addr) (H:Hp) (a:Addr):SO→Prop
  | .dic ts=>∃ kvs,H a=some (.dK kvs)∧Bs K S as kvs ts
  | .lst ts=>∃ vs,H a=some (.lst vs)∧uc K S as vs ts
  | .dit ts=>∃ kvs,H a=some (.dT kvs)∧Km K S as kvs ts
structure Iz (K:PySem.W.Frag) (S:Hp) (as:List Addr) (H:Hp) (sto:List SO):Prop where
  len:as.length=sto.length
  nd:as.Nodup
  at':∀ (n:Nat) so,sto[n]? = some so→∃ a,as[n]? = some a∧S a=none∧Zn K S as H a so
structure Rel (K:PySem.W.Frag) (B:Bas) (st:Sta) (σ:L2.St) (H:Hp) (ps:List (V × T)) (S:Hp) (as:List Addr):Prop where
  sub:Same S H
  grow:aah B S as H
  slots:∀ (i:Nat) t f,st.env[i]? = some (some (t,f))→∃ v,σ[i]? = some (some v)∧(f=false→Rep K S as v t)∧(f=true→∃ p,v=.ref p∧T9 K B S as H p t)
  apart:∀ (i j:Nat) t u p,st.env[i]? = some (some (t,true))→st.env[j]? = some (some (u,true))→σ[i]? = some (some (.ref p))→σ[j]? = some (some (.ref p))→i=j
  sto:Iz K S as H st.sto
  pend:∀ p∈ps,Rep K S as p.1 p.2
  len:σ.length=st.env.length
noncomputable section
variable {K:PySem.W.Frag} {B:Bas} {st:Sta} {σ:L2.St} {H H' S S':Hp} {ps:List (V × T)} {as:List Addr}
theorem nol {as:List Addr}:∃ l:List Addr,as=as++l:=⟨[],(List.append_nil _).symm⟩
theorem Own.mono {p:Addr} {t:T} (hs:Same S S') (hh:H p=H' p) (o:Own K S as H p t):Own K S' as H' p t:=by
  cases t with
  | lst ts=>obtain ⟨vs,h,r⟩:=o; exact ⟨vs,hh ▸ h,r.mono hs nol⟩
  | dic ts=>obtain ⟨vs,h,r⟩:=o; exact ⟨vs,hh ▸ h,r.mono hs nol⟩
  | _=>exact o.elim
theorem Own.there {p:Addr} {t:T} (o:Own K S as H p t):∃ ob,H p=some ob:=by
  cases t with
  | lst ts=>obtain ⟨vs,h,r⟩:=o; exact ⟨_,h⟩
  | dic ts=>obtain ⟨vs,h,r⟩:=o; exact ⟨_,h⟩
  | _=>exact o.elim
theorem Zn.mono {a:Addr} {so:SO} (hs:Same S S') (hh:H a=H' a) (o:Zn K S as H a so):Zn K S' as H' a so:=by
  cases so with
  | dic ts=>obtain ⟨vs,h,r⟩:=o; exact ⟨vs,hh ▸ h,r.mono hs nol⟩
  | lst ts=>obtain ⟨vs,h,r⟩:=o; exact ⟨vs,hh ▸ h,r.mono hs nol⟩
  | dit ts=>obtain ⟨vs,h,r⟩:=o; exact ⟨vs,hh ▸ h,r.mono hs nol⟩
theorem Zn.there {a:Addr} {so:SO} (o:Zn K S as H a so):∃ ob,H a=some ob:=by
  cases so with
  | dic ts=>obtain ⟨vs,h,r⟩:=o; exact ⟨_,h⟩
  | lst ts=>obtain ⟨vs,h,r⟩:=o; exact ⟨_,h⟩
  | dit ts=>obtain ⟨vs,h,r⟩:=o; exact ⟨_,h⟩
theorem Ext.outs (x:Ext S H S' H') {p:Addr} {o:HO} (h:H p=some o) (n:S p=none):S' p=none:=by
  cases q:S' p with
  | none=>rfl
  | some u =>
    rcases x.new p (by rw [q]; exact Option.some_ne_none _) with z | z
    · exact absurd n z
    · rw [h] at z; cases z
theorem Iz.ext {sto:List SO} (r:Iz K S as H sto) (x:Ext S H S' H'):Iz K S' as H' sto where
  len:=r.len
  nd:=r.nd
  at':=fun n so e=>by
    obtain ⟨a,h1,h2,h3⟩:=r.at' n so e
    obtain ⟨ob,ho⟩:=h3.there
    exact ⟨a,h1,x.outs ho h2,h3.mono x.s (by rw [ho,x.h _ _ ho])⟩
theorem Rel.ext (r:Rel K B st σ H ps S as) (x:Ext S H S' H'):Rel K B st σ H' ps S' as where
  sub:=x.sub
  grow:=⟨r.grow.same.trans x.s,r.grow.more,fun p o h1 h2 h3=>by
    obtain ⟨a,b,c⟩:=r.grow.keep p o h1 h2 h3
    exact ⟨x.h _ _ a,x.outs a b,c⟩⟩
  slots:=fun i t f e=>by
    obtain ⟨v,h1,h2,h3⟩:=r.slots i t f e
    refine ⟨v,h1,fun q=>(h2 q).mono x.s nol,fun q=>?_⟩
    obtain ⟨p,e,o⟩:=h3 q
    obtain ⟨ob,ho⟩:=o.own.there
    exact ⟨p,e,o.own.mono x.s (by rw [ho,x.h _ _ ho]),x.outs ho o.out,o.nas,o.new⟩
  apart:=r.apart
  sto:=r.sto.ext x
  pend:=fun p hp=>(r.pend p hp).mono x.s nol
  len:=r.len
theorem Rel.push (r:Rel K B st σ H ps S as) {v:V} {t:T} (h:Rep K S as v t):Rel K B st σ H ((v,t)::ps) S as :=
  ⟨r.sub,r.grow,r.slots,r.apart,r.sto,fun p hp=>by
    rcases List.mem_cons.mp hp with rfl | z
    · exact h
    · exact r.pend p z,r.len⟩
theorem Rel.drop {p:V × T} (r:Rel K B st σ H (p::ps) S as):Rel K B st σ H ps S as :=
  ⟨r.sub,r.grow,r.slots,r.apart,r.sto,fun q hq=>r.pend q (List.mem_cons_of_mem _ hq),r.len⟩
theorem Rel.top {v:V} {t:T} (r:Rel K B st σ H ((v,t)::ps) S as):Rep K S as v t:=r.pend (v,t) List.mem_cons_self
theorem Rel.top2 {v:V} {t:T} {q:V × T} (r:Rel K B st σ H (q::(v,t)::ps) S as):Rep K S as v t:=r.pend (v,t) (List.mem_cons_of_mem _ List.mem_cons_self)
end
inductive tOf (K:PySem.W.Frag) (B:Bas) (m:M T) (σ:L2.St) (H:Hp) (Q:VK):Prop
  | mk (st:Sta) (ps:List (V × T)) (S:Hp) (as:List Addr) (R:Rel K B st σ H ps S as) (t:T) (st':Sta) (e:m st=some (t,st')) (q:∀ v H' S' as',Rel K B st' σ H' ((v,t)::ps) S' as'→Q v H')
inductive cOf (K:PySem.W.Frag) (B:Bas) (m:M Bool) (σ:L2.St) (H:Hp) (Q:Bool→Hp→Prop):Prop
  | mk (st:Sta) (ps:List (V × T)) (S:Hp) (as:List Addr) (R:Rel K B st σ H ps S as) (b:Bool) (st':Sta) (e:m st=some (b,st')) (q:∀ H' S' as',Rel K B st' σ H' ps S' as'→Q b H')
inductive aOf (K:PySem.W.Frag) (B:Bas) (m:M (List T)) (σ:L2.St) (H:Hp) (Q:List V→Hp→Prop):Prop
  | mk (st:Sta) (ps:List (V × T)) (S:Hp) (as:List Addr) (R:Rel K B st σ H ps S as) (ts:List T) (st':Sta) (e:m st=some (ts,st')) (q:∀ vs H' S' as',Rel K B st' σ H' ps S' as'→uc K S' as' vs ts→Q vs H')
theorem _root_.L2.PE.imp {X:Cx} {e:Expr} {t t':TE} (h:PE X e t) (i:∀ σ H Q,t' σ H Q→t σ H Q):PE X e t':=fun pins s σ H Q I q=>h pins s σ H Q I (i σ H Q q)
theorem _root_.L2.PT.imp {X:Cx} {e:Expr} {t t':TT} (h:PT X e t) (i:∀ σ H Q,t' σ H Q→t σ H Q):PT X e t':=fun pins s σ H Q I q=>h pins s σ H Q I (i σ H Q q)
theorem _root_.L2.PA.imp {X:Cx} {e:List Expr} {t t':TA} (h:PA X e t) (i:∀ σ H Q,t' σ H Q→t σ H Q):PA X e t':=fun pos pins s σ H Q I q=>h pos pins s σ H Q I (i σ H Q q)
theorem _root_.L2.PS.imp {X:Cx} {e:Stmt} {t t':TS} (h:PS X e t) (i:∀ D σ H,t' D σ H→t D σ H):PS X e t':=fun pins s σ H D I q=>h pins s σ H D I (i D σ H q)
theorem _root_.L2.PSs.imp {X:Cx} {e:List Stmt} {t t':TS} (h:PSs X e t) (i:∀ D σ H,t' D σ H→t D σ H):PSs X e t':=fun pins s σ H D I q=>h pins s σ H D I (i D σ H q)
noncomputable def r2 (K:PySem.W.Frag) (f:T→T→Option T):R2:=fun x y H Q=>∃ S as t u w,Same S H∧Rep K S as x t∧Rep K S as y u∧f t u=some w∧∀ v H' S',Ext S H S' H'→Rep K S' as v w→Q v H'
noncomputable def r1 (K:PySem.W.Frag) (f:T→Option T):V→Hp→VK→Prop:=fun x H Q=>∃ S as t w,Same S H∧Rep K S as x t∧f t=some w∧∀ v H' S',Ext S H S' H'→Rep K S' as v w→Q v H'
noncomputable def rL (K:PySem.W.Frag) (f:List T→Option T):List V→Hp→VK→Prop:=fun xs H Q=>∃ S as ts w,Same S H∧uc K S as xs ts∧f ts=some w∧∀ v H' S',Ext S H S' H'→Rep K S' as v w→Q v H'
noncomputable abbrev OpT (X:Cx) (f:Value→Value→Sem Value) (g:T→T→Option T):Prop:=OpR X f (r2 X.K g)
noncomputable abbrev UnT (X:Cx) (f:Value→Sem Value) (g:T→Option T):Prop:=UnR X f (r1 X.K g)
noncomputable abbrev R7 (X:Cx) (f:Value) (g:List T→Option T):Prop:=Fo X f (rL X.K g)
noncomputable section
variable {X:Cx} {B:Bas} {a b c:Expr} {m m1 m2:M T} {pos:Pos}
theorem Ja {v:V} {t:T} {e:Expr} (h:PE X e (tC v)) (r:∀ S as,Rep X.K S as v t):PE X e (tOf X.K B (au t)):=h.imp fun σ H Q z9=>by
  obtain ⟨st,ps,S,as,R,t',st',e,q⟩:=z9
  cases e
  exact q v H S as (R.push (r S as))
theorem cj {i:Int} {j:Nat}:PE X (.Constant (.int i) j pos) (tOf X.K B (au (.int i))):=Ja a9y fun _ _=>.int i
theorem Nu {i:Bool} {j:Nat}:PE X (.Constant (.bool i) j pos) (tOf X.K B (au (.bl i))):=Ja ac2 fun _ _=>.bl i
theorem j5 {i:Str} {j:Nat}:PE X (.Constant (.str i) j pos) (tOf X.K B (au (.str i))):=Ja a8t fun _ _=>.str i
theorem j4 {op:Operator} {f:T→T→Option T} (ho:OpT X (binaryOp op) f) (ha:PE X a (tOf X.K B m1)) (hb:PE X b (tOf X.K B m2)):PE X (.BinOp a op b pos) (tOf X.K B (mOp f m1 m2)) :=
  (aap ho ha hb).imp fun σ H Q z9=>by
    obtain ⟨st,ps,S,as,R,t,st',e,q⟩:=z9
    obtain ⟨t1,s1,t2,e1,e2,e3⟩:=Ue e
    refine ⟨st,ps,S,as,R,t1,s1,e1,fun v H1 S1 as1 R1=>⟨s1,_,S1,as1,R1,t2,st',e2,fun u H2 S2 as2 R2=>?_⟩⟩
    exact ⟨S2,as2,t1,t2,t,R2.sub,R2.top2,R2.top,e3,fun w H3 S3 x r=>q w H3 S3 as2 ((R2.drop.drop.ext x).push r)⟩
end
end C
end
noncomputable section
set_option linter.all false
set_option maxRecDepth 100000
set_option maxHeartbeats 4000002
set_option autoImplicit false
namespace C
open PySem PySem.Spec PyProof.Rows L2
noncomputable section
variable {K:PySem.W.Frag} {B:Bas} {st:Sta} {σ:L2.St} {H H' S S':Hp} {ps:List (V × T)} {as:List Addr}
theorem Rel.freeze (r:Rel K B st σ H ps S as) {i:Nat} {t:T} (e:st.env[i]? = some (some (t,true))) :
    ∃ v S',σ[i]? = some (some v)∧Rel K B { st with env:=st.env.set i (some (t,false)) } σ H ((v,t)::ps) S' as:=by
  obtain ⟨v,h1,_,h3⟩:=r.slots i t true e
  obtain ⟨p,rfl,o⟩:=h3 rfl
  obtain ⟨ob,ho⟩:=o.own.there
  have hi:i<st.env.length:=(List.getElem?_eq_some_iff.mp e).1
  have sS:Same S (upd S p ob):=Same.upd o.out ob
  have rep:Rep K (upd S p ob) as (.ref p) t:=by
    have w:=o.own
    cases t with
    | lst ts=>obtain ⟨vs,h,q⟩:=w; rw [ho] at h; cases h; exact .lst (SqL.of jf) (q.mono sS nol)
    | dic ts=>obtain ⟨vs,h,q⟩:=w; rw [ho] at h; cases h; exact .dic (.inl jf) (q.mono sS nol)
    | _=>exact w.elim
  have outs:∀ q,S q=none→q≠p→upd S p ob q=none:=fun q h n=>by rw [m7 n]; exact h
  refine ⟨.ref p,upd S p ob,h1,?_⟩
  refine Rel.push (v:=.ref p) (t:=t) ⟨?_,?_,?_,?_,?_,?_,?_⟩ rep
  · intro b u q
    by_cases z:b=p
    · subst z; rw [jf] at q; cases q; exact ho
    · rw [m7 z] at q; exact r.sub _ _ q
  · refine ⟨r.grow.same.trans sS,r.grow.more,fun q w a b c=>?_⟩
    obtain ⟨x,y,z⟩:=r.grow.keep q w a b c
    refine ⟨x,outs q y fun n=>?_,z⟩
    subst n; rw [o.new] at a; cases a
  · intro j u f ej
    by_cases hij:i=j
    · subst hij
      rw [List.getElem?_set_self hi] at ej
      cases ej
      exact ⟨.ref p,h1,fun _=>rep,fun z=>by cases z⟩
    · rw [List.getElem?_set_ne hij] at ej
      obtain ⟨v',a1,a2,a3⟩:=r.slots j u f ej
      refine ⟨v',a1,fun z=>(a2 z).mono sS nol,fun z=>?_⟩
      subst z
      obtain ⟨p',rfl,o'⟩:=a3 rfl
      refine ⟨p',rfl,o'.own.mono sS rfl,outs p' o'.out fun n=>?_,o'.nas,o'.new⟩
      subst n
      exact hij (r.apart i j t u p' e ej h1 a1)
  · intro j k u w q ej ek
    have hj:st.env[j]? = some (some (u,true)):=by
      by_cases hij:i=j
      · subst hij; rw [List.getElem?_set_self hi] at ej; cases ej
      · rwa [List.getElem?_set_ne hij] at ej
    have hk:st.env[k]? = some (some (w,true)):=by
      by_cases hij:i=k
      · subst hij; rw [List.getElem?_set_self hi] at ek; cases ek
      · rwa [List.getElem?_set_ne hij] at ek
    exact r.apart j k u w q hj hk
  · refine ⟨r.sto.len,r.sto.nd,fun n so en=>?_⟩
    obtain ⟨a,a1,a2,a3⟩:=r.sto.at' n so en
    refine ⟨a,a1,outs a a2 fun z=>?_,a3.mono sS rfl⟩
    subst z
    exact o.nas (List.mem_of_getElem? a1)
  · exact fun q hq=>(r.pend q hq).mono sS nol
  · show σ.length=(st.env.set i _).length
    rw [List.length_set]; exact r.len
end
noncomputable section
variable {X:Cx} {B:Bas} {a b c:Expr} {m m1 m2:M T} {pos:Pos}
theorem ao (i:Nat) {e:Expr} (h:PE X e (a3s i)):PE X e (tOf X.K B (bw i)):=h.imp fun σ H Q z9=>by
  obtain ⟨st,ps,S,as,R,t,st',e,q⟩:=z9
  rcases a1p e with ⟨e1,rfl⟩ | ⟨e1,rfl⟩
  · obtain ⟨v,h1,h2,_⟩:=R.slots i t false e1
    exact ⟨v,h1,q v H S as (R.push (h2 rfl))⟩
  · obtain ⟨v,S',h1,R'⟩:=R.freeze e1
    exact ⟨v,h1,q v H S' as R'⟩
theorem d7:PA X [] (aOf X.K B dh):=wu.imp fun σ H Q z9=>by
  obtain ⟨st,ps,S,as,R,ts,st',e,q⟩:=z9
  cases e
  exact q [] H S as R .nil
theorem aj {es:List Expr} {ms:M (List T)} (ha:PE X a (tOf X.K B m)) (hr:PA X es (aOf X.K B ms)) (hs:starEach (a::es) X.env=(false,eval a X.env)::starEach es X.env:=by rfl):PA X (a::es) (aOf X.K B (ak m ms)) :=
  (qz ha hr hs).imp fun σ H Q z9=>by
    obtain ⟨st,ps,S,as,R,ts,st',e,q⟩:=z9
    obtain ⟨t,s1,us,e1,e2,rfl⟩:=yc e
    refine ⟨st,ps,S,as,R,t,s1,e1,fun v H1 S1 as1 R1=>⟨s1,_,S1,as1,R1,us,st',e2,fun vs H2 S2 as2 R2 rs=>?_⟩⟩
    exact q (v::vs) H2 S2 as2 R2.drop (.cons R2.top rs)
theorem fu {es:List Expr} {ms:M (List T)} {k:Nat} (h:PA X es (aOf X.K B ms)) (hm:∀ st ts st',ms st=some (ts,st')→ts.length≤1000):PE X (.Tuple es k pos) (tOf X.K B (iz (fun l=>some (.tup l)) ms)) :=
  (a4a h).imp fun σ H Q z9=>by
    obtain ⟨st,ps,S,as,R,t,st',e,q⟩:=z9
    obtain ⟨ts,e1,e2⟩:=Bl e
    cases e2
    refine ⟨st,ps,S,as,R,ts,st',e1,fun vs H1 S1 as1 R1 rs=>⟨?_,fun p hp=>?_⟩⟩
    · rw [rs.length]; exact Nat.le_of_lt (Gp (hm _ _ _ e1))
    · have x:=Ext.laid R1.sub hp (.tup vs)
      exact q _ _ _ _ ((R1.ext x).push (.tup (SqT.of jf) (rs.mono x.s nol)))
theorem Ce {es:List Expr} {ms:M (List T)} (h:PA X es (aOf X.K B ms)) (hm:∀ st ts st',ms st=some (ts,st')→ts.length≤1000):PE X (.List es pos) (tOf X.K B (iz (fun l=>some (.lst l)) ms)) :=
  (a4z h).imp fun σ H Q z9=>by
    obtain ⟨st,ps,S,as,R,t,st',e,q⟩:=z9
    obtain ⟨ts,e1,e2⟩:=Bl e
    cases e2
    refine ⟨st,ps,S,as,R,ts,st',e1,fun vs H1 S1 as1 R1 rs=>⟨?_,fun p hp=>?_⟩⟩
    · rw [rs.length]; exact Nat.le_of_lt (Gp (hm _ _ _ e1))
    · have x:=Ext.laid R1.sub hp (.lst vs)
      exact q _ _ _ _ ((R1.ext x).push (.lst (SqL.of jf) (rs.mono x.s nol)))
theorem d8:∀ st ts st',dh st=some (ts,st')→ts.length≤0:=fun st ts st' e=>by cases e; exact Nat.le_refl _
theorem bf {r:M (List T)} {n:Nat} (h:∀ st ts st',r st=some (ts,st')→ts.length≤n):∀ st ts st',ak m r st=some (ts,st')→ts.length≤n+1:=fun st ts st' e=>by
  obtain ⟨t,s1,us,e1,e2,rfl⟩:=yc e
  exact Nat.succ_le_succ (h _ _ _ e2)
theorem mj {ms:M (List T)} {f:List T→Option T} {e:Expr} (h:PE X e (tCB (rL X.K f) (aOf X.K B ms))):PE X e (tOf X.K B (iz f ms)) :=
  h.imp fun σ H Q z9=>by
    obtain ⟨st,ps,S,as,R,t,st',e,q⟩:=z9
    obtain ⟨ts,e1,e2⟩:=Bl e
    refine ⟨st,ps,S,as,R,ts,st',e1,fun vs H1 S1 as1 R1 rs=>⟨S1,as1,ts,t,R1.sub,rs,e2,fun v H2 S2 x r=>?_⟩⟩
    exact q v H2 S2 as1 ((R1.ext x).push r)
theorem V6 {f:T→T→Option T} {e:Expr} (h:PE X e (tOp (r2 X.K f) (tOf X.K B m1) (tOf X.K B m2))):PE X e (tOf X.K B (mOp f m1 m2)) :=
  h.imp fun σ H Q z9=>by
    obtain ⟨st,ps,S,as,R,t,st',e,q⟩:=z9
    obtain ⟨t1,s1,t2,e1,e2,e3⟩:=Ue e
    refine ⟨st,ps,S,as,R,t1,s1,e1,fun v H1 S1 as1 R1=>⟨s1,_,S1,as1,R1,t2,st',e2,fun u H2 S2 as2 R2=>?_⟩⟩
    exact ⟨S2,as2,t1,t2,t,R2.sub,R2.top2,R2.top,e3,fun w H3 S3 x r=>q w H3 S3 as2 ((R2.drop.drop.ext x).push r)⟩
theorem a3c {f:T→Option T} {e:Expr} (h:PE X e (tUn (r1 X.K f) (tOf X.K B m))):PE X e (tOf X.K B (mUn f m)) :=
  h.imp fun σ H Q z9=>by
    obtain ⟨st,ps,S,as,R,t,st',e,q⟩:=z9
    obtain ⟨t1,e1,e3⟩:=Zf e
    refine ⟨st,ps,S,as,R,t1,st',e1,fun v H1 S1 as1 R1=>⟨S1,as1,t1,t,R1.sub,R1.top,e3,fun w H3 S3 x r=>q w H3 S3 as1 ((R1.drop.ext x).push r)⟩⟩
theorem Cj {op:CmpOp} {f:T→T→Option T} (ho:OpT X (compareOp op) f) (ha:PE X a (tOf X.K B m1)) (hb:PE X b (tOf X.K B m2)) (hm:behindInMarks op b=false):PE X (.Compare a [op] [b] pos) (tOf X.K B (mOp f m1 m2)):=V6 (a6r ho ha hb hm)
theorem Xi {op:UnaryOp} {f:T→Option T} (ho:UnT X (unaryOp op) f) (ha:PE X a (tOf X.K B m)):PE X (.UnaryOp op a pos) (tOf X.K B (mUn f m)):=a3c (acq ho ha)
theorem Mi {e:Expr} (h:PT X e (a8r (tOf X.K B m))):PT X e (cOf X.K B (gj m)):=h.imp fun σ H Q z9=>by
  obtain ⟨st,ps,S,as,R,t,st',e,q⟩:=z9
  refine ⟨st,ps,S,as,R,.bl t,st',Ea e,fun v H1 S1 as1 R1=>?_⟩
  cases R1.top
  exact ⟨t,rfl,q H1 S1 as1 R1.drop⟩
theorem lu {op:CmpOp} {f:T→T→Option T} (ho:OpT X (compareOp op) f) (ha:PE X a (tOf X.K B m1)) (hb:PE X b (tOf X.K B m2)) (hm:behindInMarks op b=false):PT X (.Compare a [op] [b] pos) (cOf X.K B (gj (mOp f m1 m2))) :=
  Mi ((a5w ho ha hb hm).imp fun σ H Q z9=>by
    obtain ⟨st,ps,S,as,R,t,st',e,q⟩:=z9
    obtain ⟨t1,s1,t2,e1,e2,e3⟩:=Ue e
    refine ⟨st,ps,S,as,R,t1,s1,e1,fun v H1 S1 as1 R1=>⟨s1,_,S1,as1,R1,t2,st',e2,fun u H2 S2 as2 R2=>?_⟩⟩
    exact ⟨S2,as2,t1,t2,t,R2.sub,R2.top2,R2.top,e3,fun w H3 S3 x r=>q w H3 S3 as2 ((R2.drop.drop.ext x).push r)⟩)
theorem Vs {e:Expr} (h:PE X e (tOf X.K B m)) (he:∀ whole,isTrue e X.env whole=(do let v ← whole; standAt e.pos; holding [v] (truthy v)):=by intro _; rfl):PT X e (cOf X.K B (gj m)) :=
  Mi ((a9h h he).imp fun σ H Q h=>h)
theorem a0h {c1:M Bool} (ha:PT X a (cOf X.K B c1)):PT X (.UnaryOp .Not a pos) (cOf X.K B (Dj c1)):=(a85 ha).imp fun σ H Q z9=>by
  obtain ⟨st,ps,S,as,R,t,st',e,q⟩:=z9
  obtain ⟨k,e1,rfl⟩:=Uj e
  exact ⟨st,ps,S,as,R,k,st',e1,q⟩
theorem a4g {c1:M Bool} (ha:PT X a (cOf X.K B c1)):PW X (.BoolOp .Or [a] pos) (cOf X.K B c1):=pw_or1 ha
theorem ac0 {e:Expr} {t t':TT} (h:PW X e t) (i:∀ σ H Q,t' σ H Q→t σ H Q):PW X e t':=fun whole pins s σ H Q I q=>h whole pins s σ H Q I (i σ H Q q)
theorem a9p {c1 c2:M Bool} {rest:List Expr} (ha:PT X a (cOf X.K B c1)) (hb:PW X (.BoolOp .Or (b::rest) pos) (cOf X.K B c2)):PW X (.BoolOp .Or (a::b::rest) pos) (cOf X.K B (mOr c1 c2)) :=
  ac0 (pw_or ha hb) fun σ H Q z9=>by
    obtain ⟨st,ps,S,as,R,t,st',e,q⟩:=z9
    rcases a67 e with ⟨s1,e1,e2⟩ | ⟨e1,rfl⟩
    · exact ⟨st,ps,S,as,R,false,s1,e1,fun H1 S1 as1 R1=>a87 (⟨s1,ps,S1,as1,R1,t,st',e2,q⟩)⟩
    · exact ⟨st,ps,S,as,R,true,st',e1,fun H1 S1 as1 R1=>a96 (q H1 S1 as1 R1)⟩
theorem a2l {c1:M Bool} (hc:PT X c (cOf X.K B c1)) (ha:PE X a (tOf X.K B m1)) (hb:PE X b (tOf X.K B m2)):PE X (.IfExp c a b pos) (tOf X.K B (mIf c1 m1 m2)) :=
  (a2m hc ha hb).imp fun σ H Q z9=>by
    obtain ⟨st,ps,S,as,R,t,st',e,q⟩:=z9
    rcases a6w e with ⟨s1,e1,e2⟩ | ⟨s1,e1,e2⟩
    · exact ⟨st,ps,S,as,R,true,s1,e1,fun H1 S1 as1 R1=>a96 (⟨s1,ps,S1,as1,R1,t,st',e2,q⟩)⟩
    · exact ⟨st,ps,S,as,R,false,s1,e1,fun H1 S1 as1 R1=>a87 (⟨s1,ps,S1,as1,R1,t,st',e2,q⟩)⟩
theorem Uv (ha:PE X a (tOf X.K B m)):PE X (.UnaryOp .Not a pos) (tOf X.K B (rm (Dj (gj m)))):=(a9n ha).imp fun σ H Q z9=>by
  obtain ⟨st,ps,S,as,R,t,st',e,q⟩:=z9
  obtain ⟨b,e1,rfl⟩:=Oh e
  obtain ⟨k,e2,rfl⟩:=Uj e1
  refine ⟨st,ps,S,as,R,.bl k,st',Ea e2,fun v H1 S1 as1 R1=>?_⟩
  cases R1.top
  exact ⟨k,rfl,q _ H1 S1 as1 (R1.drop.push (.bl _))⟩
theorem a0p {op:BoolOp} (ha:PE X a (tOf X.K B m)):PE X (.BoolOp op [a] pos) (tOf X.K B m):=a8f ha
theorem M5 {rest:List Expr} (ha:PE X a (tOf X.K B m1)) (hb:PE X (.BoolOp .And (b::rest) pos) (tOf X.K B m2)):PE X (.BoolOp .And (a::b::rest) pos) (tOf X.K B (rm (Dm (gj m1) (gj m2)))) :=
  (a7q ha hb).imp fun σ H Q z9=>by
    obtain ⟨st,ps,S,as,R,t,st',e,q⟩:=z9
    obtain ⟨b,e1,rfl⟩:=Oh e
    rcases a3f e1 with ⟨s1,e2,e3⟩ | ⟨e2,rfl⟩
    · refine ⟨st,ps,S,as,R,.bl true,s1,Ea e2,fun v H1 S1 as1 R1=>?_⟩
      cases R1.top
      exact ⟨true,rfl,a96 (⟨s1,ps,S1,as1,R1.drop,.bl b,st',Ea e3,q⟩)⟩
    · refine ⟨st,ps,S,as,R,.bl false,st',Ea e2,fun v H1 S1 as1 R1=>?_⟩
      cases R1.top
      exact ⟨false,rfl,a87 (q _ H1 S1 as1 (R1.drop.push (.bl _)))⟩
end
end C
end
noncomputable section
set_option linter.all false
set_option maxRecDepth 100000
set_option maxHeartbeats 4000002
set_option autoImplicit false
namespace C
open PySem PySem.Spec PyProof.Rows L2
theorem a3q {a b:S} {s s':Sta} {fl:Flow} (h:jd a b s=some (fl,s')):(∃ s1,a s=some (.next,s1)∧b s1=some (fl,s'))∨(a s=some (fl,s')∧fl≠.next):=by
  unfold jd at h
  split at h
  · rename_i s1 e; exact .inl ⟨s1,e,h⟩
  · rename_i r hr; exact .inr ⟨h,fun z=>by subst z; exact hr _ h⟩
theorem a1j {e:M T} {s s':Sta} {fl:Flow} (h:pq e s=some (fl,s')):∃ t,e s=some (t,s')∧fl=.ret t:=by
  unfold pq at h
  split at h
  · rename_i t s1 e; cases h; exact ⟨t,e,rfl⟩
  · cases h
theorem a5n {c:M Bool} {a b:S} {s s':Sta} {fl:Flow} (h:sIf c a b s=some (fl,s')):(∃ s1,c s=some (true,s1)∧a s1=some (fl,s'))∨(∃ s1,c s=some (false,s1)∧b s1=some (fl,s')):=by
  unfold sIf at h
  split at h
  · rename_i s1 e; exact .inl ⟨s1,e,h⟩
  · rename_i s1 e; exact .inr ⟨s1,e,h⟩
  · cases h
theorem a3e {i:Nat} {e:M T} {s s':Sta} {fl:Flow} (h:m6 i e s=some (fl,s')):∃ t s1,e s=some (t,s1)∧fl=.next∧s'=j8 i t false s1:=by
  unfold m6 at h
  split at h
  · rename_i t s1 e; cases h; exact ⟨t,s1,e,rfl,rfl⟩
  · cases h
theorem a2v {i:Nat} {e:M T} {s s':Sta} {fl:Flow} (h:sNew i e s=some (fl,s')):∃ t s1,e s=some (t,s1)∧fl=.next∧s'=j8 i t true s1:=by
  unfold sNew at h
  split at h
  · rename_i t s1 e; cases h; exact ⟨t,s1,e,rfl,rfl⟩
  · cases h
theorem a2g {g:G} {it:M (List T)} {b:S} {s s':Sta} {fl:Flow} (h:yj g it b s=some (fl,s')):∃ ts s1,it s=some (ts,s1)∧forL g b ts s1=some (fl,s'):=by
  unfold yj at h
  split at h
  · rename_i ts s1 e; exact ⟨ts,s1,e,h⟩
  · cases h
theorem Tc {i:Nat} {e:M T} {s s':Sta} {fl:Flow} (h:jz i e s=some (fl,s')) :
    xu i s=true∧∃ t s1 xs,e s=some (t,s1)∧s1.env[i]? = some (some (.lst xs,true))∧xs.length<lim∧fl=.next∧s'=j8 i (.lst (xs++[t])) true s1:=by
  unfold jz at h
  split at h
  · rename_i hd
    refine ⟨hd,?_⟩
    split at h
    · rename_i t s1 e
      split at h
      · rename_i xs ex
        split at h
        · rename_i hl; cases h; exact ⟨t,s1,xs,e,ex,hl,rfl,rfl⟩
        · cases h
      · cases h
    · cases h
  · cases h
theorem Tw {i:Nat} {e:M T} {s s':Sta} {fl:Flow} (h:jx i e s=some (fl,s')) :
    xu i s=true∧∃ t s1 xs ys,e s=some (t,s1)∧Cy t=some ys∧s1.env[i]? = some (some (.lst xs,true))∧xs.length+ys.length<lim∧fl=.next∧s'=j8 i (.lst (xs++ys)) true s1:=by
  unfold jx at h
  split at h
  · rename_i hd
    refine ⟨hd,?_⟩
    split at h
    · rename_i t s1 e
      split at h
      · rename_i ys xs ey ex
        split at h
        · rename_i hl; cases h; exact ⟨t,s1,_,_,e,ey,ex,hl,rfl,rfl⟩
        · cases h
      · cases h
    · cases h
  · cases h
theorem U5 {i:Nat} {k v:M T} {s s':Sta} {fl:Flow} (h:qm i k v s=some (fl,s')) :
    ∃ t s1 kt s2 kvs q,v s=some (t,s1)∧Jv i s1=true∧k s1=some (kt,s2)∧s2.env[i]? = some (some (.dic kvs,true))∧keyOf kt=some q∧kvs.length<lim∧fl=.next∧s'=j8 i (.dic (Du q t kvs)) true s2:=by
  unfold qm at h
  split at h
  · rename_i t s1 e
    split at h
    · rename_i hd
      split at h
      · rename_i kt s2 ek
        split at h
        · rename_i kvs q ex eq
          split at h
          · rename_i hl; cases h; exact ⟨t,s1,kt,s2,_,_,e,hd,ek,ex,eq,hl,rfl,rfl⟩
          · cases h
        · cases h
      · cases h
    · cases h
  · cases h
noncomputable section
variable {K:PySem.W.Frag} {B:Bas} {st:Sta} {σ:L2.St} {H H' S S':Hp} {ps ps2:List (V × T)} {as as':List Addr}
theorem Rel.pick (r:Rel K B st σ H ps S as) (h:∀ p∈ps2,p∈ps):Rel K B st σ H ps2 S as :=
  ⟨r.sub,r.grow,r.slots,r.apart,r.sto,fun p hp=>r.pend p (h p hp),r.len⟩
theorem O8 {α:Type} {l:List α} {i:Nat} {x:α} (h:l.length≤i):l.set i x=l:=List.set_eq_of_length_le h
theorem Rel.put (r:Rel K B st σ H ps S as) {i:Nat} {v:V} {t:T} (h:Rep K S as v t):Rel K B (j8 i t false st) (σ.set i (some v)) H ps S as:=by
  by_cases hi:i<st.env.length
  · have hs:i<σ.length:=by rw [r.len]; exact hi
    refine ⟨r.sub,r.grow,fun j u f e=>?_,fun j k u w p ej ek sj sk=>?_,r.sto,r.pend,by show _=(st.env.set i _).length; rw [List.length_set,List.length_set]; exact r.len⟩
    · have e:(st.env.set i (some (t,false)))[j]? = some (some (u,f)):=e
      by_cases hij:i=j
      · subst hij
        rw [List.getElem?_set_self hi] at e; cases e
        exact ⟨v,List.getElem?_set_self hs,fun _=>h,fun z=>by cases z⟩
      · rw [List.getElem?_set_ne hij] at e ⊢
        exact r.slots j u f e
    · have ej:(st.env.set i (some (t,false)))[j]? = some (some (u,true)):=ej
      have ek:(st.env.set i (some (t,false)))[k]? = some (some (w,true)):=ek
      have hij:i≠j:=fun z=>by subst z; rw [List.getElem?_set_self hi] at ej; cases ej
      have hik:i≠k:=fun z=>by subst z; rw [List.getElem?_set_self hi] at ek; cases ek
      rw [List.getElem?_set_ne hij] at ej sj
      rw [List.getElem?_set_ne hik] at ek sk
      exact r.apart j k u w p ej ek sj sk
  · have e1:j8 i t false st=st:=by unfold j8; rw [O8 (Nat.le_of_not_lt hi)]
    have e2:σ.set i (some v)=σ:=O8 (by rw [r.len]; exact Nat.le_of_not_lt hi)
    rw [e1,e2]; exact r
noncomputable def Ly (st:Sta) (σ:L2.St) (p:Addr):Prop:=∀ (j:Nat) u,st.env[j]? = some (some (u,true))→σ[j]? = some (some (.ref p))→False
theorem Rel.aa0 (r:Rel K B st σ H ps S as) {i:Nat} {p:Addr} {t:T} (h:T9 K B S as H p t) (hn:Ly st σ p):Rel K B (j8 i t true st) (σ.set i (some (.ref p))) H ps S as:=by
  by_cases hi:i<st.env.length
  · have hs:i<σ.length:=by rw [r.len]; exact hi
    refine ⟨r.sub,r.grow,fun j u f e=>?_,fun j k u w q ej ek sj sk=>?_,r.sto,r.pend,by show _=(st.env.set i _).length; rw [List.length_set,List.length_set]; exact r.len⟩
    · have e:(st.env.set i (some (t,true)))[j]? = some (some (u,f)):=e
      by_cases hij:i=j
      · subst hij
        rw [List.getElem?_set_self hi] at e; cases e
        exact ⟨.ref p,List.getElem?_set_self hs,(fun z=>by cases z),fun _=>⟨p,rfl,h⟩⟩
      · rw [List.getElem?_set_ne hij] at e ⊢
        exact r.slots j u f e
    · have ej:(st.env.set i (some (t,true)))[j]? = some (some (u,true)):=ej
      have ek:(st.env.set i (some (t,true)))[k]? = some (some (w,true)):=ek
      by_cases hij:i=j
      · by_cases hik:i=k
        · rw [← hij,← hik]
        · subst hij
          rw [List.getElem?_set_self hs] at sj; cases sj
          rw [List.getElem?_set_ne hik] at ek sk
          exact (hn k w ek sk).elim
      · rw [List.getElem?_set_ne hij] at ej sj
        by_cases hik:i=k
        · subst hik
          rw [List.getElem?_set_self hs] at sk; cases sk
          exact (hn j u ej sj).elim
        · rw [List.getElem?_set_ne hik] at ek sk
          exact r.apart j k u w q ej ek sj sk
  · have e1:j8 i t true st=st:=by unfold j8; rw [O8 (Nat.le_of_not_lt hi)]
    have e2:σ.set i (some (.ref p))=σ:=O8 (by rw [r.len]; exact Nat.le_of_not_lt hi)
    rw [e1,e2]; exact r
theorem Rel.turn (r:Rel K B st σ H ps S as) {i:Nat} {t t':T} {p:Addr} {ob:HO} (e:st.env[i]? = some (some (t,true))) (hp:σ[i]? = some (some (.ref p))) (h:Own K S as (upd H p ob) p t') :
    Rel K B (j8 i t' true st) σ (upd H p ob) ps S as:=by
  obtain ⟨v,h1,_,h3⟩:=r.slots i t true e
  rw [hp] at h1; cases h1
  obtain ⟨p',ep,o⟩:=h3 rfl
  cases ep
  have hi:i<st.env.length:=(List.getElem?_eq_some_iff.mp e).1
  have other:∀ q,q≠p→H q=upd H p ob q:=fun q n=>(m7 n).symm
  refine ⟨fun b u q=>?_,⟨r.grow.same,r.grow.more,fun q w a b c=>?_⟩,fun j u f ej=>?_,fun j k u w q ej ek sj sk=>?_,⟨r.sto.len,r.sto.nd,fun n so en=>?_⟩,r.pend,by show _=(st.env.set i _).length; rw [List.length_set]; exact r.len⟩
  · have n:b≠p:=fun z=>by subst z; rw [o.out] at q; cases q
    rw [m7 n]; exact r.sub _ _ q
  · obtain ⟨x,y,z⟩:=r.grow.keep q w a b c
    have n:q≠p:=fun z=>by subst z; rw [o.new] at a; cases a
    exact ⟨by rw [m7 n]; exact x,y,z⟩
  · have ej:(st.env.set i (some (t',true)))[j]? = some (some (u,f)):=ej
    by_cases hij:i=j
    · subst hij
      rw [List.getElem?_set_self hi] at ej; cases ej
      exact ⟨.ref p,hp,(fun z=>by cases z),fun _=>⟨p,rfl,h,o.out,o.nas,o.new⟩⟩
    · rw [List.getElem?_set_ne hij] at ej
      obtain ⟨v',a1,a2,a3⟩:=r.slots j u f ej
      refine ⟨v',a1,a2,fun z=>?_⟩
      subst z
      obtain ⟨p',rfl,o'⟩:=a3 rfl
      have n:p'≠p:=fun z=>by subst z; exact hij (r.apart i j t u p' e ej hp a1)
      exact ⟨p',rfl,o'.own.mono (Same.refl _) (other p' n),o'.out,o'.nas,o'.new⟩
  · have back:∀ (j:Nat) u,(st.env.set i (some (t',true)))[j]? = some (some (u,true))→∃ u',st.env[j]? = some (some (u',true)):=fun j u ej=>by
      by_cases hij:i=j
      · subst hij; exact ⟨t,e⟩
      · rw [List.getElem?_set_ne hij] at ej; exact ⟨u,ej⟩
    obtain ⟨u',ej'⟩:=back j u ej
    obtain ⟨w',ek'⟩:=back k w ek
    exact r.apart j k u' w' q ej' ek' sj sk
  · obtain ⟨a,a1,a2,a3⟩:=r.sto.at' n so en
    have n:a≠p:=fun z=>by subst z; exact o.nas (List.mem_of_getElem? a1)
    exact ⟨a,a1,a2,a3.mono (Same.refl _) (other a n)⟩
theorem Rel.a7w (r:Rel K B st σ H ps S as) {n:Nat} {so so':SO} {a:Addr} {ob:HO} (e:st.sto[n]? = some so) (ha:as[n]? = some a) (h:Zn K S as (upd H a ob) a so') :
    Rel K B { st with sto:=st.sto.set n so' } σ (upd H a ob) ps S as:=by
  have ma:a∈as:=List.mem_of_getElem? ha
  have hn:n<st.sto.length:=(List.getElem?_eq_some_iff.mp e).1
  have sa:S a=none:=by
    obtain ⟨a',a1,a2,_⟩:=r.sto.at' n so e
    rw [ha] at a1; cases a1; exact a2
  have other:∀ q,q≠a→H q=upd H a ob q:=fun q n=>(m7 n).symm
  refine ⟨fun b u q=>?_,⟨r.grow.same,r.grow.more,fun q w x y z=>?_⟩,fun j u f ej=>?_,r.apart,⟨by rw [List.length_set]; exact r.sto.len,r.sto.nd,fun k so2 en=>?_⟩,r.pend,r.len⟩
  · have n:b≠a:=fun z=>by subst z; rw [sa] at q; cases q
    rw [m7 n]; exact r.sub _ _ q
  · obtain ⟨x1,y1,z1⟩:=r.grow.keep q w x y z
    have n:q≠a:=fun z=>by subst z; exact z1 ma
    exact ⟨by rw [m7 n]; exact x1,y1,z1⟩
  · obtain ⟨v',a1,a2,a3⟩:=r.slots j u f ej
    refine ⟨v',a1,a2,fun z=>?_⟩
    obtain ⟨p',rfl,o'⟩:=a3 z
    have n:p'≠a:=fun z=>by subst z; exact o'.nas ma
    exact ⟨p',rfl,o'.own.mono (Same.refl _) (other p' n),o'.out,o'.nas,o'.new⟩
  · by_cases hk:n=k
    · subst hk
      rw [List.getElem?_set_self hn] at en; cases en
      exact ⟨a,ha,sa,h⟩
    · rw [List.getElem?_set_ne hk] at en
      obtain ⟨b,b1,b2,b3⟩:=r.sto.at' k so2 en
      have n:b≠a:=fun z=>by
        subst z
        have l1:=(List.getElem?_eq_some_iff.mp b1).1
        have l2:=(List.getElem?_eq_some_iff.mp ha).1
        exact hk ((List.getElem?_inj (i:=n) (j:=k) l2 r.sto.nd).mp (by rw [ha,b1]))
      exact ⟨b,b1,b2,b3.mono (Same.refl _) (other b n)⟩
end
noncomputable def Fin (K:PySem.W.Frag) (B:Bas) (D:Ends) (ps:List (V × T)):Flow→Sta→Prop
  | .next,st'=>∀ σ' H' S' as',Rel K B st' σ' H' ps S' as'→D.nx σ' H'
  | .ret t,st'=>∀ v σ' H' S' as',Rel K B st' σ' H' ((v,t)::ps) S' as'→D.rt v H'
  | .brk,st'=>∀ σ' H' S' as',Rel K B st' σ' H' ps S' as'→D.bk σ' H'
  | .cont,st'=>∀ σ' H' S' as',Rel K B st' σ' H' ps S' as'→D.ct σ' H'
inductive sOf (K:PySem.W.Frag) (B:Bas) (s:S) (D:Ends) (σ:L2.St) (H:Hp):Prop
  | mk (st:Sta) (ps:List (V × T)) (S0:Hp) (as:List Addr) (R:Rel K B st σ H ps S0 as) (fl:Flow) (st':Sta) (e:s st=some (fl,st')) (q:Fin K B D ps fl st')
inductive gOf (K:PySem.W.Frag) (B:Bas) (g:G) (v:V) (σ:L2.St) (H:Hp) (Q:L2.St→Hp→Prop):Prop
  | mk (st:Sta) (ps:List (V × T)) (S:Hp) (as:List Addr) (t:T) (R:Rel K B st σ H ((v,t)::ps) S as) (st':Sta) (e:g t st=some st') (q:∀ σ' H' S' as',Rel K B st' σ' H' ps S' as'→Q σ' H')
inductive fOf (K:PySem.W.Frag) (B:Bas) (m:M T) (σ:L2.St) (H:Hp) (Q:VK):Prop
  | mk (st:Sta) (ps:List (V × T)) (S:Hp) (as:List Addr) (R:Rel K B st σ H ps S as) (t:T) (st':Sta) (e:m st=some (t,st')) (q:∀ p H' S' as',Rel K B st' σ H' ps S' as'→T9 K B S' as' H' p t→Ly st' σ p→Q (.ref p) H')
noncomputable section
variable {X:Cx} {B:Bas} {a b c e:Expr} {m m1 m2:M T} {pos:Pos} {u v:S}
theorem m9:PSs X [] (sOf X.K B vo):=a5q.imp fun D σ H z9=>by
  obtain ⟨st,ps,S,as,R,fl,st',e,q⟩:=z9
  cases e; exact q σ H S as R
theorem d9 {st:Stmt} {rest:List Stmt} (h1:PS X st (sOf X.K B u)) (h2:PSs X rest (sOf X.K B v)):PSs X (st::rest) (sOf X.K B (jd u v)):=(Uo h1 h2).imp fun D σ H z9=>by
  obtain ⟨st,ps,S,as,R,fl,st',e,q⟩:=z9
  rcases a3q e with ⟨s1,e1,e2⟩ | ⟨e1,hn⟩
  · exact ⟨st,ps,S,as,R,.next,s1,e1,fun σ' H' S' as' R'=>⟨s1,ps,S',as',R',fl,st',e2,q⟩⟩
  · refine ⟨st,ps,S,as,R,fl,st',e1,?_⟩
    cases fl with
    | next=>exact absurd rfl hn
    | ret t=>exact q
    | brk=>exact q
    | cont=>exact q
theorem iu {st:Stmt} (h1:PS X st (sOf X.K B u)):PSs X [st] (sOf X.K B u):=Yi h1
theorem j9 (he:PE X e (tOf X.K B m)):PS X (.Return (some e) pos) (sOf X.K B (pq m)):=(a4b he).imp fun D σ H z9=>by
  obtain ⟨st,ps,S,as,R,fl,st',e,q⟩:=z9
  obtain ⟨t,e1,rfl⟩:=a1j e
  exact ⟨st,ps,S,as,R,t,st',e1,fun v H' S' as' R'=>q v σ H' S' as' R'⟩
theorem um {c1:M Bool} {sa sb:List Stmt} (hc:PT X c (cOf X.K B c1)) (ha:PSs X sa (sOf X.K B u)) (hb:PSs X sb (sOf X.K B v)):PS X (.If c sa sb pos) (sOf X.K B (sIf c1 u v)):=(ad1 hc ha hb).imp fun D σ H z9=>by
  obtain ⟨st,ps,S,as,R,fl,st',e,q⟩:=z9
  rcases a5n e with ⟨s1,e1,e2⟩ | ⟨s1,e1,e2⟩
  · exact ⟨st,ps,S,as,R,true,s1,e1,fun H1 S1 as1 R1=>a96 ⟨s1,ps,S1,as1,R1,fl,st',e2,q⟩⟩
  · exact ⟨st,ps,S,as,R,false,s1,e1,fun H1 S1 as1 R1=>a87 ⟨s1,ps,S1,as1,R1,fl,st',e2,q⟩⟩
theorem uo (i:Nat) {tg:Expr} (h:PG X tg (Ox i)):PG X tg (gOf X.K B (hName i)):=fun pins s σ H x u Q I r z9=>h pins s σ H x u Q I r (by
  obtain ⟨st,ps,S,as,t,R,st',e,q⟩:=z9
  cases e
  exact q _ H S as (R.drop.put R.top))
theorem ji (i:Nat) {te:TE} {s:Stmt} (h:PS X s (a7e te (Ox i))) (hm:∀ σ H Q,tOf X.K B m σ H Q→te σ H Q):PS X s (sOf X.K B (m6 i m)):=h.imp fun D σ H z9=>by
  obtain ⟨st,ps,S,as,R,fl,st',e,q⟩:=z9
  obtain ⟨t,s1,e1,rfl,rfl⟩:=a3e e
  exact hm σ H _ ⟨st,ps,S,as,R,t,s1,e1,fun v H' S' as' R'=>q _ H' S' as' (R'.drop.put R'.top)⟩
theorem Ck (i:Nat) {te:TE} {s:Stmt} (h:PS X s (a7e te (Ox i))) (hm:∀ σ H Q,fOf X.K B m σ H Q→te σ H Q):PS X s (sOf X.K B (sNew i m)):=h.imp fun D σ H z9=>by
  obtain ⟨st,ps,S,as,R,fl,st',e,q⟩:=z9
  obtain ⟨t,s1,e1,rfl,rfl⟩:=a2v e
  exact hm σ H _ ⟨st,ps,S,as,R,t,s1,e1,fun p H' S' as' R' o n=>q _ H' S' as' (R'.aa0 o n)⟩
end
end C
end
noncomputable section
set_option linter.all false
set_option maxRecDepth 100000
set_option maxHeartbeats 4000002
set_option autoImplicit false
namespace C
open PySem PySem.Spec PyProof.Rows L2
noncomputable section
variable {K:PySem.W.Frag} {B:Bas} {st:Sta} {σ:L2.St} {H H' S S':Hp} {ps ps2:List (V × T)} {as as':List Addr}
theorem Own.more {p:Addr} {t:T} (hs:Same S S') (x:∃ l,as'=as++l) (hh:H p=H' p) (o:Own K S as H p t):Own K S' as' H' p t:=by
  cases t with
  | lst ts=>obtain ⟨vs,h,r⟩:=o; exact ⟨vs,hh ▸ h,r.mono hs x⟩
  | dic ts=>obtain ⟨vs,h,r⟩:=o; exact ⟨vs,hh ▸ h,r.mono hs x⟩
  | _=>exact o.elim
theorem Rel.call {sto':List SO} (r:Rel K B st σ H ps S as) (g:aah ⟨S,as,H⟩ S' as' H') (sub:Same S' H') (so:Iz K S' as' H' sto'):Rel K B { st with sto:=sto' } σ H' ps S' as' where
  sub:=sub
  grow:=by
    refine ⟨r.grow.same.trans g.same,?_,fun p o a b c=>?_⟩
    · obtain ⟨l,e⟩:=r.grow.more
      obtain ⟨l',e'⟩:=g.more
      exact ⟨l++l',by rw [e',e,List.append_assoc]⟩
    · obtain ⟨x,y,z⟩:=r.grow.keep p o a b c
      exact g.keep p o x y z
  slots:=fun i t f e=>by
    obtain ⟨v,h1,h2,h3⟩:=r.slots i t f e
    refine ⟨v,h1,fun q=>(h2 q).mono g.same g.more,fun q=>?_⟩
    obtain ⟨p,rfl,o⟩:=h3 q
    obtain ⟨ob,ho⟩:=o.own.there
    obtain ⟨x,y,z⟩:=g.keep p ob ho o.out o.nas
    exact ⟨p,rfl,o.own.more g.same g.more (by rw [ho,x]),y,z,o.new⟩
  apart:=r.apart
  sto:=so
  pend:=fun p hp=>(r.pend p hp).mono g.same g.more
  len:=r.len
end
noncomputable def spF (K:PySem.W.Frag) (ar:Nat) (F:Fn):Sp:=fun vs H Q _=>∃ S as sto ts t sto',Same S H∧Iz K S as H sto∧uc K S as vs ts∧ts.length=ar∧F ts sto=some (t,sto') ∧
  ∀ v H' S' as',aah ⟨S,as,H⟩ S' as' H'→Same S' H'→Iz K S' as' H' sto'→Rep K S' as' v t→Q v H'
noncomputable section
variable {X:Cx} {B:Bas} {a b c e:Expr} {m m1 m2:M T} {pos p:Pos} {u v:S} {es:List Expr} {ms:M (List T)} {k:Nat} {f:Addr} {fd:FuncData} {pn:List Str} {F:Fn} {x:Str}
theorem a78 (G:yh X.prog X.w X.K X.mg X.base CX0 k f fd pn (spF X.K pn.length F)) (hr:K3 k X.A) (hg:Gl X x) (hm:X.mg x=some (.ref f)) (hk:PySem.W.keepIn X.K (.ref f)=true) (hb:Binds X.K fd pn [])
    (ha:PA X (e::es) (aOf X.K B ms)) (hl:∀ st ts st',ms st=some (ts,st')→ts.length=pn.length) (hdb:(x==("__debug__" : Str))=false:=by decide)
    (he:starEach (e::es) X.env=(false,eval e X.env)::starEach es X.env:=by rfl) (hpl:(backTo pos (starEach es X.env)).any (·.1)=false:=by rfl) :
    PE X (.Call (.Name x p) (e::es) [] pos) (tOf X.K B (dw F ms)) :=
  (Yu G hr hg hm hk hb .nil a93 ha hdb he hpl).imp fun σ H Q z9=>by
    obtain ⟨st,ps,S,as,R,t,st',e,q⟩:=z9
    obtain ⟨ts,s1,sto,e1,e2,rfl⟩:=Qp e
    refine ⟨st,ps,S,as,R,ts,s1,e1,fun vs H1 S1 as1 R1 rs=>?_⟩
    show spF X.K pn.length F (vs++[]) H1 Q E0
    rw [List.append_nil]
    exact ⟨S1,as1,s1.sto,ts,t,sto,R1.sub,R1.sto,rs,hl _ _ _ e1,e2,fun v H2 S2 as2 g sub so r=>q v H2 S2 as2 ((R1.call g sub so).push r)⟩
theorem eq_nil:∀ st ts st',dh st=some (ts,st')→ts.length=0:=fun st ts st' e=>by cases e; rfl
theorem cg {r:M (List T)} {n:Nat} (h:∀ st ts st',r st=some (ts,st')→ts.length=n):∀ st ts st',ak m r st=some (ts,st')→ts.length=n+1:=fun st ts st' e=>by
  obtain ⟨t,s1,us,e1,e2,rfl⟩:=yc e
  exact congrArg (· + 1) (h _ _ _ e2)
end
noncomputable section
variable {P:Program} {w:World} {K:PySem.W.Frag} {mg:Str→Option Value} {base:Heap}
theorem a0y {N:List Str} {vs:List V} {i:Nat} {v:V} (h:vs[i]? = some v):(L2.start N vs)[i]? = some (some v):=by
  unfold L2.start
  have hi:=(List.getElem?_eq_some_iff.mp h).1
  rw [List.getElem?_append_left (by rw [List.length_map]; exact hi),List.getElem?_map,h]; rfl
theorem Qu {S H:Hp} {as:List Addr} {sto:List SO} {vs:List V} {ts:List T} {N:List Str} (h1:Same S H) (h2:Iz K S as H sto) (h3:uc K S as vs ts) (hN:ts.length≤N.length) :
    Rel K ⟨S,as,H⟩ ⟨ts.map (fun t=>some (t,false))++List.replicate (N.length - ts.length) none,sto⟩ (L2.start N vs) H [] S as:=by
  have key:∀ (i:Nat) t fl,(ts.map (fun t=>some (t,false))++List.replicate (N.length - ts.length) (none:Slot))[i]? = some (some (t,fl))→fl=false∧ts[i]? = some t:=fun i t fl e=>by
    by_cases hi:i<ts.length
    · rw [List.getElem?_append_left (by rw [List.length_map]; exact hi),List.getElem?_map] at e
      cases z:ts[i]? with
      | none=>rw [z] at e; cases e
      | some t'=>rw [z] at e; cases e; exact ⟨rfl,rfl⟩
    · rw [List.getElem?_append_right (by rw [List.length_map]; exact Nat.le_of_not_lt hi)] at e
      have:=List.eq_of_mem_replicate (List.mem_of_getElem? e)
      cases this
  refine ⟨h1,⟨Same.refl _,nol,fun p o a b c=>⟨a,b,c⟩⟩,fun i t fl e=>?_,fun i j t u p ei ej=>?_,h2,(fun p hp=>by cases hp),?_⟩
  · obtain ⟨rfl,e'⟩:=key i t fl e
    obtain ⟨v,hv,r⟩:=h3.get e'
    exact ⟨v,a0y hv,fun _=>r,fun z=>by cases z⟩
  · obtain ⟨z,_⟩:=key i t true ei; cases z
  · unfold L2.start
    rw [List.length_append,List.length_append,List.length_map,List.length_map,List.length_replicate,List.length_replicate,h3.length]
theorem jq {x qual:Str} {st:Stmt} {f:Addr} {fd:FuncData} {N ps:List Str} {k:Nat} {b:S} (F:Fun K x qual st f fd) (Sc:jg N ps (gw st)) (hN:ps.length≤N.length)
    (hb:∀ (cdv:Value) (A:Around) (outer:List Env) (s:Shared) (H:Hp) (E:XK) (B:Bas),K3 k (A.deeper (envOfC qual (gw st) s.heap.objs.size f cdv)) →
      PSs (a4k CX0 P w K mg base N qual (gw st) f cdv A outer s H E).nox (Bg st) (sOf K B b)):yh P w K mg base CX0 (k+1) f fd ps (spF K ps.length (jo N.length b)):=by
  refine F.ok Sc (fun vs H Q E h=>?_) fun cdv A outer s H vs Q E hr h=>?_
  · obtain ⟨S,as,sto,ts,t,sto',h1,h2,h3,h4,_⟩:=h
    rw [h3.length,h4]
  · obtain ⟨S,as,sto,ts,t,sto',h1,h2,h3,h4,h5,q⟩:=h
    refine ⟨_,hb cdv A outer s H E ⟨S,as,H⟩ hr,?_⟩
    have lv:vs.length=ps.length:=by rw [h3.length,h4]
    have R:Rel K ⟨S,as,H⟩ ⟨ts.map (fun t=>some (t,false))++List.replicate (N.length - ts.length) none,sto⟩ (L2.start N vs) H [] S as:=Qu h1 h2 h3 (by rw [h4]; exact hN)
    unfold jo at h5
    split at h5
    · rename_i t' s' e
      cases h5
      exact ⟨_,[],S,as,R,.ret t,s',e,fun v σ' H' S' as' R'=>q v H' S' as' R'.grow R'.sub R'.sto R'.top⟩
    · rename_i s' e
      cases h5
      exact ⟨_,[],S,as,R,.next,s',e,fun σ' H' S' as' R'=>q .non H' S' as' R'.grow R'.sub R'.sto .non⟩
    · cases h5
end
end C
end
noncomputable section
set_option linter.all false
set_option maxRecDepth 100000
set_option maxHeartbeats 4000002
set_option autoImplicit false
namespace C
open PySem PySem.Spec PyProof.Rows L2
theorem a1s {g:G} {b:S} {t:T} {r:List T} {s s':Sta} {fl:Flow} (h:forL g b (t::r) s=some (fl,s')):∃ s1 fb s2,g t s=some s1∧b s1=some (fb,s2) ∧
    (match fb with | .next=>forL g b r s2=some (fl,s') | .cont=>forL g b r s2=some (fl,s') | .brk=>fl=.next∧s'=s2 | .ret v=>fl=.ret v∧s'=s2):=by
  rw [forL] at h
  dsimp only at h
  split at h
  · rename_i s1 e1
    split at h
    · rename_i s2 e2; exact ⟨s1,.next,s2,e1,e2,h⟩
    · rename_i s2 e2; exact ⟨s1,.cont,s2,e1,e2,h⟩
    · rename_i s2 e2; cases h; exact ⟨s1,.brk,_,e1,e2,rfl,rfl⟩
    · rename_i v s2 e2; cases h; exact ⟨s1,.ret v,_,e1,e2,rfl,rfl⟩
    · cases h
  · cases h
structure Ng (K:PySem.W.Frag) (S:Hp) (as:List Addr) (H:Hp) (J:It) (ts:List T):Prop where
  go:∀ (i:Nat) t,ts[i]? = some t→J.go i H∧∀ x H',J.yld i H x H'→∃ S',Ext S H S' H'∧Rep K S' as x t
  stop:∀ i,ts.length≤i→J.stop i H
inductive iOf (K:PySem.W.Frag) (B:Bas) (m:M (List T)) (σ:L2.St) (H:Hp) (R:It→Hp→Prop):Prop
  | mk (st:Sta) (ps:List (V × T)) (S:Hp) (as:List Addr) (R0:Rel K B st σ H ps S as) (ts:List T) (st':Sta) (e:m st=some (ts,st')) (z:ts.length≤sizeLine) (q:∀ J H' S' as' ps',Rel K B st' σ H' (ps'++ps) S' as'→(∀ S as H,(∀ p∈ps',Rep K S as p.1 p.2)→Same S H→Ng K S as H J ts)→R J H')
noncomputable section
variable {X:Cx} {tg l:Expr} {tl:TE}
noncomputable def iSq (K:PySem.W.Frag) (tl:TE):TI:=fun σ H R=>tl σ H fun x H1=>∃ a,x=.ref a∧(((∃ xs,SqL K H1 a xs)∧R (Itl K a) H1)∨((∃ xs,SqT K H1 a xs)∧R (Itt K a) H1))
theorem ab5 (hl:PE X l tl):PI X tg l (iSq X.K tl):=by
  intro pins s σ H R I h
  refine thn (hl pins s σ H _ I h) fun v s1 z0=>?_
  obtain ⟨x,H1,I1,r1,q1⟩:=z0
  obtain ⟨a,e,q⟩:=q1
  subst e
  cases r1
  rcases q with ⟨⟨xs,hq⟩,q⟩ | ⟨⟨xs,hq⟩,q⟩
  · obtain ⟨its,rv,p,hz⟩:=I1.list hq
    refine wpAny_pyIter_list p.isList ?_
    refine ⟨s1.heap.objs.size,[s1.heap.objs.size],_,_,H1,rfl,I1.kept (t':=s1.toks) fun b o e=>Heap.get?_push_of_some _ e,Zr a _,⟨_,Heap.get?_push_size _ rfl,rfl,rfl⟩,fun b hb=>?_,q⟩
    have e:b=s1.heap.objs.size:=by simpa using hb
    subst e
    exact I1.aaf (Nat.le_refl _) (I1.hok.fresh (Nat.le_refl _))
  · obtain ⟨its,rv,p,hz⟩:=I1.tuple hq
    refine wpAny_pyIter_tuple (show s1.heap.IsTuple a its.toArray from p) ?_
    refine ⟨s1.heap.objs.size,[s1.heap.objs.size],_,_,H1,rfl,I1.kept (t':=s1.toks) fun b o e=>Heap.get?_push_of_some _ e,Xc a _,⟨_,Heap.get?_push_size _ rfl,rfl,rfl⟩,fun b hb=>?_,q⟩
    have e:b=s1.heap.objs.size:=by simpa using hb
    subst e
    exact I1.aaf (Nat.le_refl _) (I1.hok.fresh (Nat.le_refl _))
end
noncomputable section
variable {X:Cx} {B:Bas} {a b c e tg iter:Expr} {m m1 m2:M T} {pos p:Pos} {u v:S} {g:G} {it:M (List T)} {body:List Stmt}
theorem itL {K:PySem.W.Frag} {S:Hp} {as:List Addr} {H:Hp} {p:Addr} {vs:List V} {ts:List T} (sub:Same S H) (h:SqL K H p vs) (r:uc K S as vs ts):Ng K S as H (Itl K p) ts where
  go:=fun i t e=>by
    obtain ⟨v,hv,rv⟩:=r.get e
    exact ⟨⟨vs,v,h,hv⟩,fun x H' y=>⟨S,by rw [y.1]; exact Ext.refl sub,by have:=y.2 vs h; rw [hv] at this; cases this; exact rv⟩⟩
  stop:=fun i hi=>⟨vs,h,by rw [r.length]; exact hi⟩
theorem itT {K:PySem.W.Frag} {S:Hp} {as:List Addr} {H:Hp} {p:Addr} {vs:List V} {ts:List T} (sub:Same S H) (h:SqT K H p vs) (r:uc K S as vs ts):Ng K S as H (Itt K p) ts where
  go:=fun i t e=>by
    obtain ⟨v,hv,rv⟩:=r.get e
    exact ⟨⟨vs,v,h,hv⟩,fun x H' y=>⟨S,by rw [y.1]; exact Ext.refl sub,by have:=y.2 vs h; rw [hv] at this; cases this; exact rv⟩⟩
  stop:=fun i hi=>⟨vs,h,by rw [r.length]; exact hi⟩
theorem qt:lim≤sizeLine:=by rw [sizeLine_eq]; decide
theorem qx (h:PE X iter (tOf X.K B m)):PI X tg iter (iOf X.K B (qu m)):=by
  intro pins s σ H R I hw
  refine ab5 h pins s σ H R I ?_
  obtain ⟨st,ps,S,as,Rl,ts,st',e,hz,q⟩:=hw
  unfold qu at e
  split at e
  · rename_i xs s1 e1
    split at e
    · rename_i hl
      cases e
      refine ⟨st,ps,S,as,Rl,_,_,e1,fun v H1 S1 as1 R1=>?_⟩
      have top:=R1.top
      cases top with
      | @lst a vs _ hs hr =>
        refine ⟨a,rfl,.inl ⟨⟨vs,kj R1.sub hs⟩,q _ H1 S1 as1 [(.ref a,.lst _)] R1 fun S2 as2 H2 hp hh=>?_⟩⟩
        have:=hp _ List.mem_cons_self
        cases this with
        | @lst _ vs2 _ hs2 hr2=>exact itL hh (kj hh hs2) hr2
    · cases e
  · rename_i xs s1 e1
    split at e
    · rename_i hl
      cases e
      refine ⟨st,ps,S,as,Rl,_,_,e1,fun v H1 S1 as1 R1=>?_⟩
      have top:=R1.top
      cases top with
      | @tup a vs _ hs hr =>
        refine ⟨a,rfl,.inr ⟨⟨vs,n8 R1.sub hs⟩,q _ H1 S1 as1 [(.ref a,.tup _)] R1 fun S2 as2 H2 hp hh=>?_⟩⟩
        have:=hp _ List.mem_cons_self
        cases this with
        | @tup _ vs2 _ hs2 hr2=>exact itT hh (n8 hh hs2) hr2
    · cases e
  · cases e
theorem Mr {a:M T} {ts:List T} {s s':Sta} (h:p8 a s=some (ts,s')):∃ n:Int,a s=some (.int n,s')∧(-1000000<n∧n<1000000)∧ts=rangeT n.toNat:=by
  unfold p8 at h
  split at h
  · rename_i n s1 e
    split at h
    · rename_i hl; cases h; exact ⟨n,e,by have:n.natAbs<1000000:=hl; (clear e hl; omega),rfl⟩
    · cases h
  · cases h
theorem Wr {n i:Nat} {t:T} (h:(rangeT n)[i]? = some t):i<n∧t=.int (i:Int):=by
  unfold rangeT at h
  rw [List.getElem?_map] at h
  cases z:(List.range n)[i]? with
  | none=>rw [z] at h; cases h
  | some k =>
    rw [z] at h; cases h
    obtain ⟨hi,e⟩:=List.getElem?_eq_some_iff.mp z
    rw [List.getElem_range] at e; subst e
    rw [List.length_range] at hi
    exact ⟨hi,rfl⟩
theorem Jb (hg:Gl X "range") (hm:X.mg "range" = none) (h:PE X a (tOf X.K B m)) (hs:starEach [a] X.env=[(false,eval a X.env)]:=by rfl):PI X tg (.Call (.Name "range" p) [a] [] pos) (iOf X.K B (p8 m)):=by
  intro pins s σ H R I hw
  refine a0u (ta:=Wn (tOf X.K B m) a8g) hg hm (qz h wu hs) hs pins s σ H R I ?_
  obtain ⟨st,ps,S,as,Rl,ts,st',e,hz,q⟩:=hw
  obtain ⟨n,e1,hl,rfl⟩:=Mr e
  refine ⟨st,ps,S,as,Rl,_,_,e1,fun v H1 S1 as1 R1=>?_⟩
  cases R1.top
  refine ⟨n,rfl,by (clear R1 q hz e e1 Rl I hs h hm hg; omega),by (clear R1 q hz e e1 Rl I hs h hm hg; omega),q _ H1 S1 as1 [] R1.drop fun S2 as2 H2 _ hh=>⟨fun i t e=>?_,fun i hi=>?_⟩⟩
  · obtain ⟨hi,rfl⟩:=Wr e
    refine ⟨hi,fun x H' y=>⟨S2,by rw [y.1]; exact Ext.refl hh,?_⟩⟩
    have:=y.2; subst this
    rw [Int.zero_add]; exact .int _
  · show n.toNat≤i
    unfold rangeT at hi
    rwa [List.length_map,List.length_range] at hi
theorem Az (hp:PassesOwn (model X.prog X.w) X.A X.env X.xe) (hc:X.calm=true) (hi:PI X tg iter (iOf X.K B it)) (hg:PG X tg (gOf X.K B g)) (hb:PSs X body (sOf X.K B u)) (hsz:∀ st ts st',it st=some (ts,st')→ts.length≤sizeLine)
    (hs:∀ x,foldedSetIterable iter X.env x=pure x:=by intro _; rfl):PS X (.For tg iter body [] pos) (sOf X.K B (yj g it u)):=(a8x hp hc hi hg hb hs).imp fun D σ H z9=>by
  obtain ⟨st,ps,S,as,R,fl,st',e,q⟩:=z9
  obtain ⟨ts,s1,e1,e2⟩:=a2g e
  refine ⟨st,ps,S,as,R,ts,s1,e1,hsz _ _ _ e1,fun J H1 S1 as1 ps' R1 facts=>?_⟩
  refine ⟨fun i m σ H=>m=ts.length - i∧i≤ts.length∧∃ sti Si asi,Rel X.K B sti σ H (ps'++ps) Si asi∧forL g u (ts.drop i) sti=some (fl,st'),⟨ts.length,by simp,Nat.zero_le _,s1,S1,as1,R1,by simpa using e2⟩,?_⟩
  rintro i m σ2 H2 ⟨rfl,hi,sti,Si,asi,Ri,ei⟩
  have F:=facts Si asi H2 (fun p hp=>Ri.pend p (List.mem_append_left _ hp)) Ri.sub
  have sub:∀ p∈ps,p∈ps'++ps:=fun p hp=>List.mem_append_right _ hp
  by_cases hlt:i<ts.length
  · rw [List.drop_eq_getElem_cons hlt] at ei
    obtain ⟨s2,fb,s3,eg,eb,er⟩:=a1s ei
    have ht:ts[i]? = some ts[i]:=List.getElem?_eq_getElem hlt
    refine .inr ⟨(F.go i _ ht).1,fun σ' H'=>∃ sti Si asi,Rel X.K B sti σ' H' (ps'++ps) Si asi∧forL g u (ts.drop (i+1)) sti=some (fl,st'),fun σ' H' h=>⟨ts.length - (i+1),by (clear h ht er eb eg ei sub F Ri hi facts R1 e2 e1 q e R hs hsz hb hg hc hp; omega),rfl,hlt,h⟩,fun x H' y=>?_⟩
    obtain ⟨S',ex,rx⟩:=(F.go i _ ht).2 x H' y
    refine ⟨sti,ps'++ps,S',asi,_,(Ri.ext ex).push rx,s2,eg,fun σ3 H3 S3 as3 R3=>⟨s2,ps'++ps,S3,as3,R3,fb,s3,eb,?_⟩⟩
    cases fb with
    | next=>exact fun σ' H' S' as' R'=>⟨s3,S',as',R',er⟩
    | cont=>exact fun σ' H' S' as' R'=>⟨s3,S',as',R',er⟩
    | brk =>
      obtain ⟨rfl,rfl⟩:=er
      exact fun σ' H' S' as' R'=>q σ' H' S' as' (R'.pick sub)
    | ret v =>
      obtain ⟨rfl,rfl⟩:=er
      exact fun v σ' H' S' as' R'=>q v σ' H' S' as' (R'.pick fun p hp=>by
        rcases List.mem_cons.mp hp with rfl | z
        · exact List.mem_cons_self
        · exact List.mem_cons_of_mem _ (sub p z))
  · have hie:i=ts.length:=by (clear sub F ei Ri facts R1 e2 e1 q e R hs hsz hb hg hc hp; omega)
    subst hie
    rw [List.drop_length] at ei
    cases ei
    exact .inl ⟨F.stop _ (Nat.le_refl _),q σ2 H2 Si asi (Ri.pick sub)⟩
end
end C
end
noncomputable section
set_option linter.all false
set_option maxRecDepth 100000
set_option maxHeartbeats 4000002
set_option autoImplicit false
namespace C
open PySem PySem.Spec PyProof.Rows L2
noncomputable section
variable {K:PySem.W.Frag} {B:Bas} {st:Sta} {σ:L2.St} {H H' S S':Hp} {ps ps2:List (V × T)} {as as':List Addr}
theorem Rel.Zt (r:Rel K B st σ H ps S as) {i:Nat} {t:T} (e:st.env[i]? = some (some (t,true))):∃ S',Rel K B { st with env:=st.env.set i (some (t,false)) } σ H ps S' as:=by
  obtain ⟨v,S',_,R⟩:=r.freeze e
  exact ⟨S',R.drop⟩
theorem Rel.jj:∀ (cap:List Nat) {st:Sta} {S:Hp},Rel K B st σ H ps S as→∃ S',Rel K B { st with env:=jj cap st.env } σ H ps S' as
  | [],st,S,r=>⟨S,r⟩
  | i::l,st,S,r=>by
    unfold C.jj
    rw [List.foldl_cons]
    split
    · rename_i t f e
      cases f with
      | true =>
        obtain ⟨S1,R1⟩:=r.Zt e
        exact Rel.jj l R1
      | false =>
        have e2:st.env.set i (some (t,false))=st.env:=by
          apply List.ext_getElem?
          intro j
          by_cases hij:i=j
          · subst hij
            rw [List.getElem?_set_self (List.getElem?_eq_some_iff.mp e).1,e]
          · rw [List.getElem?_set_ne hij]
        rw [e2]
        exact Rel.jj l r
    · exact Rel.jj l r
noncomputable def Et (env:List Slot):Nat→List Slot
  | 0=>env
  | n+1=>match (Et env n)[n]? with
    | some (some (t,_))=>(Et env n).set n (some (t,false))
    | _=>Et env n
theorem K7 (env:List Slot):∀ n,(Et env n).length=env.length
  | 0=>rfl
  | n+1=>by
    rw [Et]
    split
    · rw [List.length_set]; exact K7 env n
    · exact K7 env n
theorem Jg (env:List Slot):∀ (n j:Nat),(Et env n)[j]? = if j<n then (env[j]?).map Hi else env[j]?
  | 0,j=>by rw [if_neg (Nat.not_lt_zero _)]; rfl
  | n+1,j=>by
    have ihn:=Jg env n n
    rw [if_neg (Nat.lt_irrefl _)] at ihn
    have ihj:=Jg env n j
    rw [Et,ihn]
    by_cases hj:j=n
    · subst hj
      rw [if_pos (Nat.lt_succ_self _)]
      cases z:env[j]? with
      | none=>simp only [z,Option.map_none]; rw [ihn,z]
      | some s =>
        have hl:j<(Et env j).length:=by rw [K7]; exact (List.getElem?_eq_some_iff.mp z).1
        cases s with
        | none=>simp only [Option.map_some]; rw [ihn,z]; rfl
        | some p=>obtain ⟨t,f⟩:=p; simp only [Option.map_some]; rw [List.getElem?_set_self hl]; rfl
    · have e1:(if j<n+1 then (env[j]?).map Hi else env[j]?)=(if j<n then (env[j]?).map Hi else env[j]?):=by
        by_cases hlt:j<n
        · rw [if_pos hlt,if_pos (Nat.lt_succ_of_lt hlt)]
        · rw [if_neg hlt,if_neg (by (clear ihj ihn; omega))]
      rw [e1,← ihj]
      split
      · rw [List.getElem?_set_ne (Ne.symm hj)]
      · rfl
theorem Ym (env:List Slot):Et env env.length=env.map Hi:=by
  apply List.ext_getElem?
  intro j
  rw [Jg,List.getElem?_map]
  by_cases hj:j<env.length
  · rw [if_pos hj]
  · rw [if_neg hj,List.getElem?_eq_none (Nat.le_of_not_lt hj)]; rfl
theorem Rel.Et (r:Rel K B st σ H ps S as):∀ n,∃ S',Rel K B { st with env:=C.Et st.env n } σ H ps S' as
  | 0=>⟨S,r⟩
  | n+1=>by
    obtain ⟨S1,R1⟩:=Rel.Et r n
    rw [C.Et]
    split
    · rename_i t f e
      cases f with
      | true=>exact R1.Zt e
      | false =>
        have e2:(C.Et st.env n).set n (some (t,false))=C.Et st.env n:=by
          apply List.ext_getElem?
          intro j
          by_cases hij:n=j
          · subst hij
            rw [List.getElem?_set_self (List.getElem?_eq_some_iff.mp e).1,e]
          · rw [List.getElem?_set_ne hij]
        rw [e2]
        exact ⟨S1,R1⟩
    · exact ⟨S1,R1⟩
theorem Rel.qj (r:Rel K B st σ H ps S as):∃ S',Rel K B (qj st) σ H ps S' as:=by
  obtain ⟨S',R⟩:=r.Et st.env.length
  rw [Ym] at R
  exact ⟨S',R⟩
noncomputable def a3w (st:Sta):Prop:=∀ (i:Nat) t,st.env[i]?≠some (some (t,true))
theorem Bu (st:Sta):a3w (C.qj st):=fun i t e=>by
  unfold C.qj at e
  rw [List.getElem?_map] at e
  cases z:st.env[i]? with
  | none=>rw [z] at e; cases e
  | some s =>
    rw [z] at e
    cases s with
    | none=>cases e
    | some p=>obtain ⟨t,f⟩:=p; cases e
theorem Rel.rebase (r:Rel K B st σ H ps S as) (n:a3w st):Rel K ⟨S,as,H⟩ st σ H ps S as :=
  ⟨r.sub,⟨Same.refl _,nol,fun p o a b c=>⟨a,b,c⟩⟩,fun i t f e=>by
    obtain ⟨v,h1,h2,_⟩:=r.slots i t f e
    exact ⟨v,h1,h2,fun z=>by subst z; exact absurd e (n i t)⟩,r.apart,r.sto,r.pend,r.len⟩
end
theorem Yt {g:G} {c:M Bool} {e:M T} {t:T} {r acc us:List T} {s s':Sta} (h:Eu g c e (t::r) s acc=some (us,s')):∃ s1 b s2,g t s=some s1∧c s1=some (b,s2) ∧
    ((b=true∧∃ u s3,e s2=some (u,s3)∧acc.length<lim∧Eu g c e r (qj s3) (acc++[u])=some (us,s'))∨(b=false∧Eu g c e r (qj s2) acc=some (us,s'))):=by
  rw [Eu] at h
  split at h
  · rename_i s1 e1
    split at h
    · rename_i s2 e2
      split at h
      · rename_i u s3 e3
        split at h
        · rename_i hl; exact ⟨s1,true,s2,e1,e2,.inl ⟨rfl,u,s3,e3,hl,h⟩⟩
        · cases h
      · cases h
    · rename_i s2 e2; exact ⟨s1,false,s2,e1,e2,.inr ⟨rfl,h⟩⟩
    · cases h
  · cases h
theorem Z8 {nv:Nat} {cap:List Nat} {g:G} {it:M (List T)} {c:M Bool} {e:M T} {s s':Sta} {v:T} (h:p7 nv cap g it c e s=some (v,s')):∃ ts s1 us s2,it s=some (ts,s1) ∧
    Eu g c e ts ⟨List.replicate nv none++cap.map (fun i=>((jj cap s1.env)[i]?).getD none),s1.sto⟩ []=some (us,s2)∧v=.lst us∧s'=⟨jj cap s1.env,s2.sto⟩:=by
  unfold p7 at h
  split at h
  · rename_i ts s1 e1
    dsimp only at h
    split at h
    · rename_i us s2 e2; cases h; exact ⟨ts,s1,us,s2,e1,e2,rfl,rfl⟩
    · cases h
  · cases h
noncomputable section
variable {K:PySem.W.Frag} {B:Bas} {st:Sta} {σ:L2.St} {H H' S S':Hp} {ps ps2:List (V × T)} {as as':List Addr} {D:Addr} {ob:HO}
theorem Iz.mem {sto:List SO} (r:Iz K S as H sto) {a:Addr} (h:a∈as):∃ o,H a=some o:=by
  obtain ⟨n,hn⟩:=List.getElem?_of_mem h
  have hl:=(List.getElem?_eq_some_iff.mp hn).1
  rw [r.len] at hl
  obtain ⟨a',h1,h2,h3⟩:=r.at' n _ (List.getElem?_eq_getElem hl)
  rw [hn] at h1; cases h1
  exact h3.there
theorem Rel.fresh (r:Rel K B st σ H ps S as) (h:H D=none):B.H D=none∧S D=none∧D∉as∧Ly st σ D:=by
  have sD:S D=none:=r.sub.free h
  have nD:D∉as:=fun z=>by obtain ⟨o,e⟩:=r.sto.mem z; rw [h] at e; cases e
  refine ⟨?_,sD,nD,fun j u e1 e2=>?_⟩
  · cases q:B.H D with
    | none=>rfl
    | some o =>
      have b1:B.S D=none:=by
        cases z:B.S D with
        | none=>rfl
        | some u=>have:=r.grow.same _ _ z; rw [sD] at this; cases this
      have b2:D∉B.as:=fun z=>by obtain ⟨l,e⟩:=r.grow.more; exact nD (by rw [e]; exact List.mem_append_left _ z)
      have:=(r.grow.keep D o q b1 b2).1
      rw [h] at this; cases this
  · obtain ⟨v,h1,_,h3⟩:=r.slots j u true e1
    rw [e2] at h1; cases h1
    obtain ⟨p,ep,o⟩:=h3 rfl
    cases ep
    obtain ⟨ob,ho⟩:=o.own.there
    rw [h] at ho; cases ho
theorem Rel.aa3 (r:Rel K B st σ H ps S as) (bD:B.H D=none) (sD:S D=none) (nD:D∉as) (no:Ly st σ D):Rel K B st σ (upd H D ob) ps S as:=by
  have ne:∀ b u,S b=some u→b≠D:=fun b u e z=>by subst z; rw [sD] at e; cases e
  refine ⟨fun b u e=>by rw [m7 (ne b u e)]; exact r.sub _ _ e,⟨r.grow.same,r.grow.more,fun p o x y z=>?_⟩,fun i t f e=>?_,r.apart,⟨r.sto.len,r.sto.nd,fun n so e=>?_⟩,r.pend,r.len⟩
  · obtain ⟨a,b,c⟩:=r.grow.keep p o x y z
    exact ⟨by rw [m7 (fun w=>by subst w; rw [bD] at x; cases x)]; exact a,b,c⟩
  · obtain ⟨v,h1,h2,h3⟩:=r.slots i t f e
    refine ⟨v,h1,h2,fun z=>?_⟩
    obtain ⟨p,rfl,o⟩:=h3 z
    have n:p≠D:=fun w=>by subst w; subst z; exact no i t e h1
    exact ⟨p,rfl,o.own.mono (Same.refl _) (m7 n).symm,o.out,o.nas,o.new⟩
  · obtain ⟨a,h1,h2,h3⟩:=r.sto.at' n so e
    exact ⟨a,h1,h2,h3.mono (Same.refl _) (m7 (fun w=>by subst w; exact nD (List.mem_of_getElem? h1))).symm⟩
theorem Rel.a9k (r:Rel K B st σ H ps S as) (no:a3w st) (sD:S D=none) (nD:D∉as):Rel K ⟨S,as,upd H D ob⟩ st σ (upd H D ob) ps S as:=by
  have ne:∀ b u,S b=some u→b≠D:=fun b u e z=>by subst z; rw [sD] at e; cases e
  refine ⟨fun b u e=>by rw [m7 (ne b u e)]; exact r.sub _ _ e,⟨Same.refl _,nol,fun p o x y z=>⟨x,y,z⟩⟩,fun i t f e=>?_,r.apart,⟨r.sto.len,r.sto.nd,fun n so e=>?_⟩,r.pend,r.len⟩
  · obtain ⟨v,h1,h2,_⟩:=r.slots i t f e
    exact ⟨v,h1,h2,fun z=>by subst z; exact absurd e (no i t)⟩
  · obtain ⟨a,h1,h2,h3⟩:=r.sto.at' n so e
    exact ⟨a,h1,h2,h3.mono (Same.refl _) (m7 (fun w=>by subst w; exact nD (List.mem_of_getElem? h1))).symm⟩
end
theorem Fz:∀ (cap:List Nat) (env:List Slot) (k:Nat),(∀ t,env[k]?≠some (some (t,true)))→∀ t,(jj cap env)[k]?≠some (some (t,true))
  | [],env,k,h=>h
  | i::l,env,k,h=>by
    have e:jj (i::l) env=jj l (match env[i]? with | some (some (t,_))=>env.set i (some (t,false)) | _=>env):=rfl
    rw [e]
    refine Fz l _ k fun t=>?_
    split
    · rename_i t' f e'
      by_cases hk:i=k
      · subst hk
        rw [List.getElem?_set_self (List.getElem?_eq_some_iff.mp e').1]
        intro z; cases z
      · rw [List.getElem?_set_ne hk]; exact h t
    · exact h t
theorem K8:∀ (cap:List Nat) (env:List Slot) (k:Nat),k∈cap→∀ t,(jj cap env)[k]?≠some (some (t,true))
  | [],env,k,h=>by simp at h
  | i::l,env,k,h=>by
    have e:jj (i::l) env=jj l (match env[i]? with | some (some (t,_))=>env.set i (some (t,false)) | _=>env):=rfl
    rw [e]
    rcases List.mem_cons.mp h with rfl | h' -- here
    · refine Fz l _ k fun t=>?_
      split
      · rename_i t' f e'
        rw [List.getElem?_set_self (List.getElem?_eq_some_iff.mp e').1]
        intro z; cases z
      · rename_i hx
        intro z
        exact hx _ _ z
    · exact K8 l _ k h'
noncomputable def gE (K:PySem.W.Frag) (g:G):TG:=fun v σ H Q=>∃ B,gOf K B g v σ H Q
noncomputable def cE (K:PySem.W.Frag) (c:M Bool):TT:=fun σ H Q=>∃ B,cOf K B c σ H Q
noncomputable def eE (K:PySem.W.Frag) (e:M T):TE:=fun σ H Q=>∃ B,tOf K B e σ H Q
theorem pgE {X:Cx} {tg:Expr} {g:G} (h:∀ B,PG X tg (gOf X.K B g)):PG X tg (gE X.K g):=fun pins s σ H x u Q I r ⟨B,q⟩=>h B pins s σ H x u Q I r q
theorem ptE {X:Cx} {e:Expr} {c:M Bool} (h:∀ B,PT X e (cOf X.K B c)):PT X e (cE X.K c):=fun pins s σ H Q I ⟨B,q⟩=>h B pins s σ H Q I q
theorem peE {X:Cx} {e:Expr} {m:M T} (h:∀ B,PE X e (tOf X.K B m)):PE X e (eE X.K m):=fun pins s σ H Q I ⟨B,q⟩=>h B pins s σ H Q I q
theorem u9 {X:Cx}:PTs X [] (cE X.K ql):=fun pins s σ H Q I z9=>by
  obtain ⟨B,st,ps,S,as,R,b,st',e,q⟩:=z9
  cases e
  exact a5x pins s σ H Q I (q H S as R)
theorem J9 {X:Cx} {e:Expr} {c:M Bool} (h:∀ B,PT X e (cOf X.K B c)):PTs X [e] (cE X.K c):=a5l (ptE h)
noncomputable section
variable {X:Cx} {scope:Scope} {N:List Str}
inductive CI (K:PySem.W.Frag) (B:Bas) (g:G) (c:M Bool) (e:M T) (ts us:List T) (env:List Slot) (s2:Sta) (σ:L2.St) (pp:List (V × T)) (D:Addr) (i m:Nat) (σ':L2.St) (H':Hp):Prop where
  | mk (sti:Sta) (Si:Hp) (asi:List Addr) (acc:List T) (accv:List V) (hm:m=ts.length - i) (hi:i≤ts.length) (Ri:Rel K ⟨Si,asi,H'⟩ sti σ' H' [] Si asi) (no:a3w sti) (Ro:Rel K B ⟨env,sti.sto⟩ σ H' pp Si asi) (hD:H' D=some (.lst accv)) (sD:Si D=none) (nD:D∉asi) (rA:uc K Si asi accv acc) (ei:Eu g c e (ts.drop i) sti acc=some (us,s2)):CI K B g c e ts us env s2 σ pp D i m σ' H'
theorem Yc {B:Bas} {nv:Nat} {cap:List Nat} {g:G} {c:M Bool} {e:M T} {ts us:List T} {env:List Slot} {sto1:List SO} {s2:Sta} {σ:L2.St} {H1 S1:Hp} {as1:List Addr} {ps ps':List (V × T)} {J:It} {Q:VK}
    (hN:N.length=nv+cap.length) (hv:∀ i x,i<nv→N[i]? = some x→True)
    (hcap:∀ (j k:Nat),cap[j]? = some k→∃ x,N[nv+j]? = some x∧X.N[k]? = some x∧aa8 X scope x)
    (R1:Rel X.K B ⟨env,sto1⟩ σ H1 (ps'++ps) S1 as1) (hno:∀ k∈cap,∀ t,env[k]?≠some (some (t,true)))
    (facts:∀ S as H,Same B.S S→(∃ l,as=B.as++l)→(∀ p∈ps',Rep X.K S as p.1 p.2)→Same S H→Ng X.K S as H J ts)
    (hc:Eu g c e ts ⟨List.replicate nv none++cap.map (fun i=>(env[i]?).getD none),sto1⟩ []=some (us,s2))
    (fin:∀ D H' S' as',Rel X.K B ⟨env,s2.sto⟩ σ H' (ps'++ps) S' as'→T9 X.K B S' as' H' D (.lst us)→Ly ⟨env,s2.sto⟩ σ D→Q (.ref D) H') :
    Rt X scope N (gE X.K g) (cE X.K c) (eE X.K e) σ J H1 Q:=by
  intro D hD
  obtain ⟨bD,sD1,nD1,noD⟩:=R1.fresh hD
  have capg:∀ (i:Nat) s,(List.replicate nv (none:Slot)++cap.map (fun i=>(env[i]?).getD none))[i]? = some (some s)→∃ j k,i=nv+j∧cap[j]? = some k∧env[k]? = some (some s):=fun i s h=>by
    by_cases hi:i<nv
    · rw [List.getElem?_append_left (by rw [List.length_replicate]; exact hi)] at h
      have:=List.eq_of_mem_replicate (List.mem_of_getElem? h); cases this
    · rw [List.getElem?_append_right (by rw [List.length_replicate]; exact Nat.le_of_not_lt hi),List.length_replicate,List.getElem?_map] at h
      cases z:cap[i - nv]? with
      | none=>rw [z] at h; cases h
      | some k =>
        rw [z] at h
        refine ⟨i - nv,k,by (clear z h noD nD1 sD1 bD hD fin hc facts hno R1 hcap hv hN; omega),z,?_⟩
        cases w:env[k]? with
        | none=>simp [w] at h
        | some s'=>simp [w] at h; rw [h]
  have sig:∀ (j k:Nat) v,cap[j]? = some k→σ[k]? = some (some v)→(List.replicate nv (none:Option V)++cap.map (fun i=>(σ[i]?).getD none))[nv+j]? = some (some v):=fun j k v h1 h2=>by
    rw [List.getElem?_append_right (by rw [List.length_replicate]; (clear h2 h1 capg noD nD1 sD1 bD hD fin hc facts hno R1 hcap hv hN; omega)),List.length_replicate,Nat.add_sub_cancel_left,List.getElem?_map,h1]
    simp [h2]
  refine ⟨List.replicate nv none++cap.map (fun i=>(σ[i]?).getD none),by rw [List.length_append,List.length_replicate,List.length_map,hN],fun i v x h1 h2 _=>?_,?_⟩
  · by_cases hi:i<nv
    · rw [List.getElem?_append_left (by rw [List.length_replicate]; exact hi)] at h1
      have:=List.eq_of_mem_replicate (List.mem_of_getElem? h1); cases this
    · rw [List.getElem?_append_right (by rw [List.length_replicate]; exact Nat.le_of_not_lt hi),List.length_replicate,List.getElem?_map] at h1
      cases z:cap[i - nv]? with
      | none=>rw [z] at h1; cases h1
      | some k =>
        rw [z] at h1
        obtain ⟨y,n1,n2,ck⟩:=hcap _ _ z
        have e:nv+(i - nv)=i:=by (clear ck n2 n1 z h1 h2 sig capg noD nD1 sD1 bD hD fin hc facts hno R1 hcap hv hN; omega)
        rw [e,h2] at n1; cases n1
        refine ⟨k,n2,?_,ck⟩
        cases w:σ[k]? with
        | none=>simp [w] at h1
        | some s'=>simp [w] at h1; rw [h1]
  refine ⟨fun i m σ' H'=>CI X.K B g c e ts us env s2 σ (ps'++ps) D i m σ' H',⟨ts.length,.mk _ S1 as1 [] [] (by simp) (Nat.zero_le _) ?_ ?_ ?_ jf sD1 nD1 .nil hc⟩,?_⟩
  · refine Rel.a9k (B:=B) (H:=H1) ⟨R1.sub,R1.grow,fun i t f h=>?_,fun i j t u p hi hj=>?_,R1.sto,(fun p hp=>by cases hp),?_⟩ (fun i t h=>?_) sD1 nD1
    · obtain ⟨j,k,rfl,hk,ek⟩:=capg i _ h
      obtain ⟨v,h1,h2,h3⟩:=R1.slots k t f ek
      exact ⟨v,sig j k v hk h1,h2,h3⟩
    · obtain ⟨j,k,rfl,hk,ek⟩:=capg i _ hi
      exact absurd ek (hno k (List.mem_of_getElem? hk) t)
    · show (List.replicate nv (none:Option V)++cap.map _).length=(List.replicate nv (none:Slot)++cap.map _).length
      rw [List.length_append,List.length_append,List.length_replicate,List.length_replicate,List.length_map,List.length_map]
    · obtain ⟨j,k,rfl,hk,ek⟩:=capg i _ h
      exact absurd ek (hno k (List.mem_of_getElem? hk) t)
  · intro i t h
    obtain ⟨j,k,rfl,hk,ek⟩:=capg i _ h
    exact absurd ek (hno k (List.mem_of_getElem? hk) t)
  · exact R1.aa3 bD sD1 nD1 noD
  rintro i m σ' H' ⟨sti,Si,asi,acc,accv,rfl,hi,Ri,no,Ro,hD',sD,nD,rA,ei⟩
  have F:=facts Si asi H' Ro.grow.same Ro.grow.more (fun p hp=>Ro.pend p (List.mem_append_left _ hp)) Ri.sub
  by_cases hlt:i<ts.length
  · rw [List.drop_eq_getElem_cons hlt] at ei
    obtain ⟨s3,b,s4,eg,ec,er⟩:=Yt ei
    have ht:ts[i]? = some ts[i]:=List.getElem?_eq_getElem hlt
    refine .inr ⟨(F.go i _ ht).1,fun x H2 y=>?_⟩
    obtain ⟨S2,ex,rx⟩:=(F.go i _ ht).2 x H2 y
    refine ⟨⟨Si,asi,H'⟩,sti,[],S2,asi,_,(Ri.ext ex).push rx,s3,eg,fun σ3 H3 S3 as3 R3=>⟨⟨Si,asi,H'⟩,s3,[],S3,as3,R3,b,s4,ec,fun H4 S4 as4 R4=>?_⟩⟩
    rcases er with ⟨rfl,w,s5,ee,hlen,erest⟩ | ⟨rfl,erest⟩
    · refine a96 ⟨⟨Si,asi,H'⟩,s4,[],S4,as4,R4,w,s5,ee,fun y H5 S5 as5 R5=>?_⟩
      obtain ⟨S6,R6⟩:=R5.qj
      obtain ⟨k1,k2,k3⟩:=R6.grow.keep D _ hD' sD nD
      have Ro2:=Ro.call R6.grow R6.sub R6.sto
      refine ⟨accv,k1,?_,ts.length - (i+1),by (clear Ro2 k3 k2 k1 R6 R5 erest hlen ee ec R4 R3 rx ex ht eg ei F rA nD sD hD' Ro no Ri hi sig capg noD nD1 sD1 bD hD fin hc facts hno R1 hcap hv hN; omega),.mk (qj s5) S6 as5 (acc++[w]) (accv++[y]) rfl hlt (R6.drop.a9k (Bu _) k2 k3) (Bu _) (Ro2.aa3 bD k2 k3 noD) jf k2 k3 ((rA.mono R6.grow.same R6.grow.more).append (.cons R6.top .nil)) erest⟩
      rw [rA.length]; exact Nat.lt_of_lt_of_le hlen qt
    · refine a87 ?_
      obtain ⟨S6,R6⟩:=R4.qj
      obtain ⟨k1,k2,k3⟩:=R6.grow.keep D _ hD' sD nD
      have Ro2:=Ro.call R6.grow R6.sub R6.sto
      exact ⟨ts.length - (i+1),by (clear Ro2 k3 k2 k1 R6 ec erest R4 R3 rx ex y ht eg ei F rA nD sD hD' Ro no Ri hi sig capg noD nD1 sD1 bD hD fin hc facts hno R1 hcap hv hN; omega),.mk (qj s4) S6 as4 acc accv rfl hlt (R6.rebase (Bu _)) (Bu _) Ro2 k1 k2 k3 (rA.mono R6.grow.same R6.grow.more) erest⟩
  · have hie:i=ts.length:=by (clear F ei rA nD sD hD' Ro no Ri sig capg noD nD1 sD1 bD hD fin hc facts hno R1 hcap hv hN; omega)
    subst hie
    rw [List.drop_length] at ei
    cases ei
    exact .inl ⟨F.stop _ (Nat.le_refl _),fin D H' Si asi Ro ⟨⟨accv,hD',rA⟩,sD,nD,bD⟩ noD⟩
theorem Rel.give {K:PySem.W.Frag} {B:Bas} {st:Sta} {σ:L2.St} {H S:Hp} {ps:List (V × T)} {as:List Addr} {p:Addr} {t:T} (r:Rel K B st σ H ps S as) (o:T9 K B S as H p t) (no:Ly st σ p):∃ S',Rel K B st σ H ((.ref p,t)::ps) S' as:=by
  obtain ⟨ob,ho⟩:=o.own.there
  have sS:Same S (upd S p ob):=Same.upd o.out ob
  have rep:Rep K (upd S p ob) as (.ref p) t:=by
    have w:=o.own
    cases t with
    | lst ts=>obtain ⟨vs,h,q⟩:=w; rw [ho] at h; cases h; exact .lst (SqL.of jf) (q.mono sS nol)
    | dic ts=>obtain ⟨vs,h,q⟩:=w; rw [ho] at h; cases h; exact .dic (.inl jf) (q.mono sS nol)
    | _=>exact w.elim
  have outs:∀ q,S q=none→q≠p→upd S p ob q=none:=fun q h n=>by rw [m7 n]; exact h
  refine ⟨upd S p ob,Rel.push (v:=.ref p) (t:=t) ⟨?_,?_,?_,r.apart,?_,fun q hq=>(r.pend q hq).mono sS nol,r.len⟩ rep⟩
  · intro b u q
    by_cases z:b=p
    · subst z; rw [jf] at q; cases q; exact ho
    · rw [m7 z] at q; exact r.sub _ _ q
  · refine ⟨r.grow.same.trans sS,r.grow.more,fun q w a b c=>?_⟩
    obtain ⟨x,y,z⟩:=r.grow.keep q w a b c
    refine ⟨x,outs q y fun n=>?_,z⟩
    subst n; rw [o.new] at a; cases a
  · intro j u f ej
    obtain ⟨v',a1,a2,a3⟩:=r.slots j u f ej
    refine ⟨v',a1,fun z=>(a2 z).mono sS nol,fun z=>?_⟩
    subst z
    obtain ⟨p',rfl,o'⟩:=a3 rfl
    refine ⟨p',rfl,o'.own.mono sS rfl,outs p' o'.out fun n=>?_,o'.nas,o'.new⟩
    subst n
    exact no j u ej a1
  · refine ⟨r.sto.len,r.sto.nd,fun n so en=>?_⟩
    obtain ⟨a,a1,a2,a3⟩:=r.sto.at' n so en
    refine ⟨a,a1,outs a a2 fun z=>?_,a3.mono sS rfl⟩
    subst z
    exact o.nas (List.mem_of_getElem? a1)
theorem Vi {K:PySem.W.Frag} {B:Bas} {m:M T} {σ:L2.St} {H:Hp} {Q:VK} (h:tOf K B m σ H Q):fOf K B m σ H Q:=by
  obtain ⟨st,ps,S,as,R,t,st',e,q⟩:=h
  refine ⟨st,ps,S,as,R,t,st',e,fun p H' S' as' R' o n=>?_⟩
  obtain ⟨S2,R2⟩:=R'.give o n
  exact q _ H' S2 as' R2
theorem uw {e:Expr} {B:Bas} {m:M T} (h:PE X e (fOf X.K B m)):PE X e (tOf X.K B m):=h.imp fun σ H Q=>Vi
variable {B:Bas} {nv:Nat} {cap:List Nat} {g:G} {it:M (List T)} {c:M Bool} {e:M T} {tg iter elt:Expr} {ifs:List Expr} {pos:Pos}
structure a9i (X:Cx) (scope:Scope) (N:List Str) (nv:Nat) (cap:List Nat):Prop where
  len:N.length=nv+cap.length
  at':∀ (j k:Nat),cap[j]? = some k→∃ x,N[nv+j]? = some x∧X.N[k]? = some x∧aa8 X scope x
theorem Jr (co:a9i X scope N nv cap) (hsz:∀ st ts st',it st=some (ts,st')→ts.length≤sizeLine) {σ:L2.St} {H:Hp} {Q:VK} (h:fOf X.K B (p7 nv cap g it c e) σ H Q) :
    a77 X scope N (iOf X.K B it) (gE X.K g) (cE X.K c) (eE X.K e) σ H Q:=by
  obtain ⟨st,ps,S,as,R,t,st',e,q⟩:=h
  obtain ⟨ts,s1,us,s2,e1,e2,rfl,rfl⟩:=Z8 e
  refine ⟨st,ps,S,as,R,ts,s1,e1,hsz _ _ _ e1,fun J H1 S1 as1 ps' R1 facts=>?_⟩
  obtain ⟨S2,R2⟩:=R1.jj cap
  exact Yc co.len (fun _ _ _ _=>trivial) co.at' R2 (fun k hk=>K8 cap s1.env k hk) (fun S as H _ _=>facts S as H) e2 fun D H' S' as' R' o n=>q D H' S' as' (R'.pick fun p hp=>List.mem_append_right _ hp) o n
theorem xq (co:a9i X scope N nv cap) (sc:M7 X scope N) (calm:X.calm=true) (hi:PI X tg iter (iOf X.K B it)) (hsz:∀ st ts st',it st=some (ts,st')→ts.length≤sizeLine)
    (hg:∀ C s₀ H₀ ex pn,PG (wk X scope N C s₀ H₀ ex pn) tg (gE X.K g)) (hc:∀ C s₀ H₀ ex pn,PTs (wk X scope N C s₀ H₀ ex pn) ifs (cE X.K c)) (he:∀ C s₀ H₀ ex pn,PE (wk X scope N C s₀ H₀ ex pn) elt (eE X.K e))
    (hs:∀ x,foldedSetIterable iter X.env x=pure x:=by intro _; rfl):PE X (.ListComp elt [⟨tg,iter,ifs,0⟩] scope pos) (fOf X.K B (p7 nv cap g it c e)) :=
  (a6a sc calm hi hg hc he hs).imp fun σ H Q h=>Jr co hsz h
end
end C
end
noncomputable section
set_option linter.all false
set_option maxRecDepth 100000
set_option maxHeartbeats 4000002
set_option autoImplicit false
namespace C
open PySem PySem.Spec PyProof.Rows L2
noncomputable section
variable {X:Cx}
theorem U7 {f:Value→Value→Sem Value} {g:T→T→Option T} {r:R2} (h:OpR X f r)
    (k:∀ S as x y t u w,Rep X.K S as x t→Rep X.K S as y u→g t u=some w→∀ (H:Hp) (Q:VK),Same S H→(∀ v H' S',Ext S H S' H'→Rep X.K S' as v w→Q v H')→r x y H Q):OpT X f g:=by
  intro pins s σ H x y v u Q I rx ry z8
  obtain ⟨S,as,t,w,z,sub,ht,hu,hf,q⟩:=z8
  exact h pins s σ H x y v u Q I rx ry (k S as x y t w z ht hu hf H Q sub q)
structure OI (g:T→Option T):Prop where
  n:g .non=none
  b:∀ x,g (.bl x)=none
  s:∀ x,g (.str x)=none
  t:∀ x,g (.tup x)=none
  l:∀ x,g (.lst x)=none
  d:∀ x,g (.dic x)=none
  o:∀ x,g (.obj x)=none
theorem OI.int {g:T→Option T} {w t:T} (h:OI g) (e:g t=some w):∃ i,t=.int i:=by
  cases t with
  | int i=>exact ⟨i,rfl⟩
  | non=>exact jh (h.n.symm.trans e)
  | bl x=>exact jh ((h.b x).symm.trans e)
  | str x=>exact jh ((h.s x).symm.trans e)
  | tup x=>exact jh ((h.t x).symm.trans e)
  | lst x=>exact jh ((h.l x).symm.trans e)
  | dic x=>exact jh ((h.d x).symm.trans e)
  | obj x=>exact jh ((h.o x).symm.trans e)
theorem Cz {K:PySem.W.Frag} {S:Hp} {as:List Addr} {x y:V} {t u w:T} {g:T→T→Option T} {P:Prop} (ht:Rep K S as x t) (hu:Rep K S as y u) (hf:g t u=some w)
    (n1:∀ u,OI (g · u)) (n2:∀ i,OI (g (.int i))) (k:∀ i j,x=.int i→y=.int j→g (.int i) (.int j)=some w→P):P:=by
  obtain ⟨i,rfl⟩:=(n1 u).int hf
  obtain ⟨j,rfl⟩:=(n2 i).int hf
  cases ht; cases hu
  exact k i j rfl rfl hf
theorem Ds:OpT X (binaryOp .Sub) Hu:=U7 a7v fun S as x y t u w ht hu hf H Q sub q =>
  Cz (g:=Hu) ht hu hf (fun u=>⟨rfl,fun _=>rfl,fun _=>rfl,fun _=>rfl,fun _=>rfl,fun _=>rfl,fun _=>rfl⟩) (fun i=>⟨rfl,fun _=>rfl,fun _=>rfl,fun _=>rfl,fun _=>rfl,fun _=>rfl,fun _=>rfl⟩) fun i j ex ey hf=>by
  subst ex ey; cases hf
  exact ⟨_,_,rfl,rfl,q _ H S (Ext.refl sub) (.int _)⟩
theorem jy:OpT X (binaryOp .Mod) ux:=U7 a80 fun S as x y t u w ht hu hf H Q sub q =>
  Cz (g:=ux) ht hu hf (fun u=>⟨rfl,fun _=>rfl,fun _=>rfl,fun _=>rfl,fun _=>rfl,fun _=>rfl,fun _=>rfl⟩) (fun i=>⟨rfl,fun _=>rfl,fun _=>rfl,fun _=>rfl,fun _=>rfl,fun _=>rfl,fun _=>rfl⟩) fun i j ex ey hf=>by
  subst ex ey
  obtain ⟨hc,hf⟩:=yd hf
  cases hf; exact ⟨_,_,rfl,rfl,hc,q _ H S (Ext.refl sub) (.int _)⟩
noncomputable def aax (i j:Int):Prop:=0<j∧(j<1073741824∨j.natAbs<fdl)
theorem a3j:OpR X (binaryOp .FloorDiv) (rI aax fun i j=>.int (i / j)):=opI fun i j _ _ _ _ _ hc q=>by
  have h1:(0:Int)<j:=hc.1
  have h2:j.natAbs<2 ^ 200:=by
    rcases hc.2 with h | h
    · exact Nat.lt_trans (show j.natAbs<1073741824 by (clear q hc; omega)) (by decide)
    · exact h
  exact floordiv_int (by (clear h2 q hc; omega)) (by rw [Int.fdiv_eq_ediv_of_nonneg i (by (clear h2 q hc; omega))]; exact q) (.inl (PyProof.noPylong_of_log2 (Nat.lt_trans ((Nat.log2_lt (by (clear h2 q hc; omega))).mpr h2) (by decide))))
theorem jl:OpT X (binaryOp .FloorDiv) jr:=U7 a3j fun S as x y t u w ht hu hf H Q sub q =>
  Cz (g:=jr) ht hu hf (fun u=>⟨rfl,fun _=>rfl,fun _=>rfl,fun _=>rfl,fun _=>rfl,fun _=>rfl,fun _=>rfl⟩) (fun i=>⟨rfl,fun _=>rfl,fun _=>rfl,fun _=>rfl,fun _=>rfl,fun _=>rfl,fun _=>rfl⟩) fun i j ex ey hf=>by
  subst ex ey
  obtain ⟨hc,hf⟩:=yd hf
  cases hf; exact ⟨_,_,rfl,rfl,hc,q _ H S (Ext.refl sub) (.int _)⟩
theorem Ti:OpT X (binaryOp .Pow) a4l:=U7 a9j fun S as x y t u w ht hu hf H Q sub q =>
  Cz (g:=a4l) ht hu hf (fun u=>⟨rfl,fun _=>rfl,fun _=>rfl,fun _=>rfl,fun _=>rfl,fun _=>rfl,fun _=>rfl⟩) (fun i=>⟨rfl,fun _=>rfl,fun _=>rfl,fun _=>rfl,fun _=>rfl,fun _=>rfl,fun _=>rfl⟩) fun i j ex ey hf=>by
  subst ex ey
  obtain ⟨h,hf⟩:=yd hf
  cases hf; exact ⟨_,_,rfl,rfl,⟨h.1,by (clear q hf hu ht sub; omega),by (clear q hf hu ht sub; omega)⟩,q _ H S (Ext.refl sub) (.int _)⟩
theorem Vl:OpT X (compareOp .Lt) ltT:=U7 acu fun S as x y t u w ht hu hf H Q sub q =>
  Cz (g:=ltT) ht hu hf (fun u=>⟨rfl,fun _=>rfl,fun _=>rfl,fun _=>rfl,fun _=>rfl,fun _=>rfl,fun _=>rfl⟩) (fun i=>⟨rfl,fun _=>rfl,fun _=>rfl,fun _=>rfl,fun _=>rfl,fun _=>rfl,fun _=>rfl⟩) fun i j ex ey hf=>by
  subst ex ey; cases hf
  exact ⟨_,_,rfl,rfl,q _ H S (Ext.refl sub) (.bl _)⟩
theorem a3x:OpT X (compareOp .LtE) leT:=U7 aat fun S as x y t u w ht hu hf H Q sub q =>
  Cz (g:=leT) ht hu hf (fun u=>⟨rfl,fun _=>rfl,fun _=>rfl,fun _=>rfl,fun _=>rfl,fun _=>rfl,fun _=>rfl⟩) (fun i=>⟨rfl,fun _=>rfl,fun _=>rfl,fun _=>rfl,fun _=>rfl,fun _=>rfl,fun _=>rfl⟩) fun i j ex ey hf=>by
  subst ex ey; cases hf
  exact ⟨_,_,rfl,rfl,q _ H S (Ext.refl sub) (.bl _)⟩
theorem W7:OpT X (compareOp .Gt) gtT:=U7 abo fun S as x y t u w ht hu hf H Q sub q =>
  Cz (g:=gtT) ht hu hf (fun u=>⟨rfl,fun _=>rfl,fun _=>rfl,fun _=>rfl,fun _=>rfl,fun _=>rfl,fun _=>rfl⟩) (fun i=>⟨rfl,fun _=>rfl,fun _=>rfl,fun _=>rfl,fun _=>rfl,fun _=>rfl,fun _=>rfl⟩) fun i j ex ey hf=>by
  subst ex ey; cases hf
  exact ⟨_,_,rfl,rfl,q _ H S (Ext.refl sub) (.bl _)⟩
theorem Hz:UnT X (unaryOp .USub) Ho:=by
  intro pins s σ H x v Q I rx z8
  obtain ⟨S,as,t,w,sub,ht,hf,q⟩:=z8
  cases ht <;> simp only [Ho,reduceCtorEq] at hf
  cases hf
  exact a8h pins s σ H _ v Q I rx ⟨_,rfl,q _ H S (Ext.refl sub) (.int _)⟩
noncomputable def ad8 (K:PySem.W.Frag):R2:=fun x y H Q=>∃ l b xs zs,x=.ref l∧y=.ref b∧SqL K H l xs∧SqL K H b zs∧xs.length+zs.length≤sizeLine∧∀ p,H p=none→Q (.ref p) (upd H p (.lst (xs++zs)))
theorem a5j:OpR X (binaryOp .Add) (ad8 X.K):=by
  intro pins s σ H x y v u Q I rx ry h
  obtain ⟨l,b,xs,zs,rfl,rfl,hH,hB,hz,q⟩:=h
  cases rx
  cases ry
  obtain ⟨its,r,p1,hl⟩:=I.list hH
  obtain ⟨its2,r2,p2,hl2⟩:=I.list hB
  obtain ⟨⟨cls,dd,data,sl⟩,n,ho,hc,hd0,hd⟩:=id p1
  obtain ⟨⟨cls2,dd2,data2,sl2⟩,n2,ho2,hc2,hd02,hd2⟩:=id p2
  simp only at hc hd hc2 hd2
  subst hc hd hc2 hd2
  refine concat_meets ⟨_,ho,rfl⟩ ⟨_,ho2,rfl⟩ noFill_list_add seq_list_add PySem.F.slot_list_add PySem.F.entry_list_add (PySem.F.args_list_add_2 _ _)
      (list_addW l b its.toArray its2.toArray n n2 dd dd2 sl sl2 (by rw [List.size_toArray,List.size_toArray,← r.length,← r2.length]; exact hz)) ⟨ho,ho2,?_⟩
  have ea:its.toArray++its2.toArray=(its++its2).toArray:=by simp
  rw [ea]
  exact ⟨.ref _,_,I.aeb (t':=s.toks) (r.append r2) (by rw [List.length_append]; exact hz),rfl,q _ I.fresh⟩
noncomputable def a90 (K:PySem.W.Frag):R2:=fun x y H Q=>∃ a b ys,x=.ref a∧y=.ref b∧SqT K H a []∧SqT K H b ys∧Q (.ref b) H
theorem a3g:OpR X (binaryOp .Add) (a90 X.K):=by
  intro pins s σ H x y v u Q I rx ry h
  obtain ⟨a,b,ys,rfl,rfl,ha,hb,q⟩:=h
  cases rx
  cases ry
  obtain ⟨its,r1,p1,_⟩:=I.tuple ha
  obtain ⟨its2,r2,p2,_⟩:=I.tuple hb
  cases r1
  obtain ⟨⟨cls,dd,data,sl⟩,ho,hc,n,hd⟩:=id p1
  obtain ⟨⟨cls2,dd2,data2,sl2⟩,ho2,hc2,n2,hd2⟩:=id p2
  simp only at hc hd hc2 hd2
  subst hc hd hc2 hd2
  exact concat_meets ⟨_,ho,rfl⟩ ⟨_,ho2,rfl⟩ noFill_tuple_add seq_tuple_add PySem.F.slot_tuple_add PySem.F.entry_tuple_add (PySem.F.args_tuple_add_2 _ _)
      (tuple_addW0 a b _ its2.toArray n n2 dd dd2 sl sl2 (by rfl)) ⟨ho,ho2,⟨.ref b,H,I,rfl,q⟩⟩
theorem ju:OpT X (binaryOp .Add) uh:=by
  intro pins s σ H x y v u Q I rx ry z8
  obtain ⟨S,as,t,t2,w,sub,ht,hu,hf,q⟩:=z8
  cases ht <;> first | exact nomatch (show none=some w from hf) | cases hu <;> first | exact nomatch (show none=some w from hf) | simp only [uh] at hf
  · cases hf
    exact a8v pins s σ H _ _ v u Q I rx ry ⟨_,_,rfl,rfl,q _ H S (Ext.refl sub) (.int _)⟩
  · split at hf
    · rename_i hl; cases hf
      exact Wm pins s σ H _ _ v u Q I rx ry ⟨_,_,rfl,rfl,Nat.le_trans (Nat.le_of_lt hl) qt,q _ H S (Ext.refl sub) (.str _)⟩
    · cases hf
  · rename_i a vs ts hs hr b ws us hs2 hr2
    split at hf
    · rename_i hl; cases hf
      have hz:vs.length+ws.length≤sizeLine:=by rw [hr.length,hr2.length]; exact Nat.le_trans (Nat.le_of_lt hl) qt
      cases hr with
      | nil=>exact a3g pins s σ H _ _ v u Q I rx ry ⟨_,_,_,rfl,rfl,n8 sub hs,n8 sub hs2,q _ H S (Ext.refl sub) (.tup hs2 hr2)⟩
      | @cons v0 t0 vs0 ts0 h1 h2 =>
        refine a5v pins s σ H _ _ v u Q I rx ry ⟨_,_,_,_,rfl,rfl,n8 sub hs,n8 sub hs2,by simp,hz,fun z=>?_,fun z p hp=>?_⟩
        · subst z
          cases hr2
          rw [List.append_nil] at q
          exact q _ H S (Ext.refl sub) (.tup hs (.cons h1 h2))
        · have x:=Ext.laid sub hp (.tup ((v0::vs0)++ws))
          exact q _ _ _ x (.tup (SqT.of jf) (((uc.cons h1 h2).append hr2).mono x.s nol))
    · cases hf
  · rename_i a vs ts hs hr b ws us hs2 hr2
    split at hf
    · rename_i hl; cases hf
      have hz:vs.length+ws.length≤sizeLine:=by rw [hr.length,hr2.length]; exact Nat.le_trans (Nat.le_of_lt hl) qt
      refine a5j pins s σ H _ _ v u Q I rx ry ⟨_,_,_,_,rfl,rfl,kj sub hs,kj sub hs2,hz,fun p hp=>?_⟩
      have x:=Ext.laid sub hp (.lst (vs++ws))
      exact q _ _ _ x (.lst (SqL.of jf) ((hr.append hr2).mono x.s nol))
    · cases hf
theorem a75 (x:Str) (n:Int) (h:0≤n):Txt.mul x n=⟨((List.replicate n.toNat x.cps.toList).flatten).toArray⟩:=by
  have key:∀ (k:Nat) (acc:Array Nat),(List.replicate k x.cps).foldl (· ++ ·) acc=acc++((List.replicate k x.cps.toList).flatten).toArray:=by
    intro k
    induction k with
    | zero=>intro acc; simp
    | succ k ih =>
      intro acc
      rw [List.replicate_succ,List.foldl_cons,ih,List.replicate_succ,List.flatten_cons]
      apply Array.ext'
      simp
  unfold Txt.mul
  by_cases h1:n<1
  · have:n=0:=by omega
    subst this
    rw [if_pos h1]; rfl
  · rw [if_neg h1]
    by_cases h2:(n==1||x.length==0)=true
    · rw [if_pos h2]
      rw [Bool.or_eq_true] at h2
      rcases h2 with h2 | h2
      · have:n=1:=by simpa using h2
        subst this
        cases x; simp
      · have h3:x.cps.size=0:=by simpa [Str.length] using h2
        obtain ⟨c⟩:=x
        have h4:c = #[]:=Array.eq_empty_of_size_eq_zero h3
        subst h4
        congr 1
        apply Array.ext'
        simp
    · rw [if_neg h2,key]
      congr 1
      apply Array.ext'
      simp
theorem Ab:OpT X (binaryOp .Mult) Ji:=by
  intro pins s σ H x y v u Q I rx ry z8
  obtain ⟨S,as,t,t2,w,sub,ht,hu,hf,q⟩:=z8
  cases ht <;> first | exact nomatch (show none=some w from hf) | cases hu <;> first | exact nomatch (show none=some w from hf) | simp only [Ji] at hf
  · split at hf
    · rename_i hb; cases hf
      refine a7r pins s σ H _ _ v u Q I rx ry ⟨_,_,rfl,rfl,?_,q _ H S (Ext.refl sub) (.int _)⟩
      rw [Bool.or_eq_true] at hb
      rcases hb with h | h
      · exact .inl (of_decide_eq_true h)
      · exact .inr (of_decide_eq_true h)
    · cases hf
  · rename_i z j
    split at hf
    · rename_i hb; cases hf
      obtain ⟨t',rfl⟩:=rx
      obtain ⟨t2',rfl⟩:=ry
      refine SB.mul ⟨?_,fun _ _=>?_,fun _ _=>?_⟩ fun t3 k=>⟨.str (Txt.mul z j),H,I.tok _,⟨_,rfl⟩,?_⟩
      · have h1:¬ j < -(2 ^ 63:Int):=by (clear q sub I; omega)
        have h2:¬ j ≥ 2 ^ 63:=by (clear h1 q sub I; omega)
        rw [decide_eq_false h1,decide_eq_false h2]; rfl
      · have h1:(z.length:Int)≤100:=by (clear q sub I; omega)
        have h2:(100:Int)≤(2 ^ 63 - 1) / j:=by
          have hj:0<j:=by
            rcases Int.lt_or_le 0 j with h | h
            · exact h
            · exfalso
              have:j=0:=by (clear h1 q hb sub I; omega)
              subst this
              rename_i a _; exact a (by decide)
          exact (Int.le_ediv_iff_mul_le hj).mpr (by (clear hj h1 q sub I; omega))
        (clear q hb sub I; omega)
      · have h3:z.length * j.toNat≤100 * 1000:=Nat.mul_le_mul hb.2.2 (by (clear q sub I; omega))
        unfold Builtin.Str.tooLong
        rw [sizeLine_eq]
        exact decide_eq_false (by (clear q hb sub I; omega))
      · rw [a75 z j hb.1]; exact q _ H S (Ext.refl sub) (.str _)
    · cases hf
end
end C
end
noncomputable section
set_option linter.all false
set_option maxRecDepth 100000
set_option maxHeartbeats 4000002
set_option autoImplicit false
namespace C
open PySem PySem.Spec PyProof.Rows L2
noncomputable section
variable {X:Cx} {B:Bas} {a b c e o:Expr} {m m1 m2:M T} {pos p:Pos}
theorem Yb (n:Nat) (i:Int):ixI n i=ixN n i:=rfl
theorem Oz {K:PySem.W.Frag} {S:Hp} {as:List Addr} {y:V} {t:T} {q:L2.Key} (r:Rep K S as y t) (h:keyOf t=some q):y=kV q:=by
  cases r <;> simp only [keyOf,reduceCtorEq] at h <;> (cases h; rfl)
noncomputable def abv:R2:=fun x y H Q=>∃ a v,x=.ref a∧Wj H a y (some v)∧Q v H
theorem a6o (hu:X.A.units+1<cLine):IxR X abv:=by
  intro value slice pins s σ H x y v u Q I rx ry z8 hs
  obtain ⟨a,w,ex,g,q⟩:=z8
  subst ex
  cases rx
  refine tail_any (K1 I g) slot_dict_getitem.lookup (Q7 hu I g ry fun w' s' I' r'=>⟨w,H,I',r',q⟩) hs
theorem a1i (hu:X.A.units+1<cLine):IxR X (r2 X.K cu):=by
  intro value slice pins s σ H x y v u Q I rx ry z8 hs
  obtain ⟨S,as,t,t2,w,sub,ht,hu2,hf,q⟩:=z8
  cases ht with
  | @tup a vs ts h1 h2 =>
    cases hu2 <;> first | exact jh hf | skip
    rename_i i
    obtain ⟨j,e1,e2⟩:=Option.bind_eq_some_iff.mp hf
    obtain ⟨z,hz,rz⟩:=h2.get e2
    refine a94 value slice pins s σ H _ _ v u Q I rx ry ⟨a,vs,i,z,rfl,rfl,n8 sub h1,?_,q z H S (Ext.refl sub) rz⟩ hs
    rw [Yb,← h2.length] at e1
    unfold atI; rw [e1]; exact hz
  | @lst a vs ts h1 h2 =>
    cases hu2 <;> first | exact jh hf | skip
    rename_i i
    obtain ⟨j,e1,e2⟩:=Option.bind_eq_some_iff.mp hf
    obtain ⟨z,hz,rz⟩:=h2.get e2
    refine a65 value slice pins s σ H _ _ v u Q I rx ry ⟨a,vs,i,z,rfl,rfl,kj sub h1,?_,q z H S (Ext.refl sub) rz⟩ hs
    rw [Yb,← h2.length] at e1
    unfold atI; rw [e1]; exact hz
  | str z =>
    cases hu2 <;> first | exact jh hf | skip
    rename_i i
    obtain ⟨hl,hf⟩:=yd hf
    obtain ⟨j,e1,e2⟩:=Option.bind_eq_some_iff.mp hf
    obtain ⟨cc,e3,e4⟩:=Option.map_eq_some_iff.mp e2
    subst e4
    refine a8u value slice pins s σ H _ _ v u Q I rx ry ⟨z,i,cc,rfl,rfl,Nat.le_trans (Nat.le_of_lt hl) qt,?_,q _ H S (Ext.refl sub) (.str _)⟩ hs
    rw [Yb] at e1
    unfold atI; rw [e1]; exact e3
  | @dic a kvs ts h1 h2 =>
    obtain ⟨k,e1,e2⟩:=Option.bind_eq_some_iff.mp hf
    have ey:=Oz hu2 e1
    subst ey
    rcases h2.get k with ⟨z,t',a1,a2,a3⟩ | ⟨_,a2⟩
    · rw [e2] at a2; cases a2
      exact a6o hu value slice pins s σ H _ _ v u Q I rx ry ⟨a,z,rfl,.inl ⟨kvs,k,vd sub h1,rfl,a1.symm⟩,q z H S (Ext.refl sub) a3⟩ hs
    · rw [e2] at a2; cases a2
  | _=>exact jh hf
theorem fj (hu:X.A.units+1<cLine) (ha:PE X a (tOf X.K B m1)) (hb:PE X b (tOf X.K B m2)) (hs:Zx b):PE X (.Subscript a b pos) (tOf X.K B (mOp cu m1 m2)):=V6 (abp (a1i hu) ha hb hs)
theorem zu:R7 X (.builtin "len") Ax:=by
  intro pins s σ H xs us Q I rs z8
  obtain ⟨S,as,ts,w,sub,hr,hf,q⟩:=z8
  cases hr with
  | nil=>simp only [Ax,reduceCtorEq] at hf
  | @cons x t xs' ts' h1 h2 =>
    cases h2 with
    | cons h3 h4=>simp only [Ax,reduceCtorEq] at hf
    | nil =>
      cases h1 with
      | tup g1 g2=>simp only [Ax] at hf; cases hf; exact Ii pins s σ H _ us Q I rs ⟨_,_,rfl,.inr (n8 sub g1),by rw [g2.length]; exact q _ H S (Ext.refl sub) (.int _)⟩
      | lst g1 g2=>simp only [Ax] at hf; cases hf; exact Ii pins s σ H _ us Q I rs ⟨_,_,rfl,.inl (kj sub g1),by rw [g2.length]; exact q _ H S (Ext.refl sub) (.int _)⟩
      | str z =>
        simp only [Ax] at hf
        split at hf
        · rename_i hl; cases hf; exact Pz pins s σ H _ us Q I rs ⟨_,rfl,Nat.le_trans (Nat.le_of_lt hl) qt,q _ H S (Ext.refl sub) (.int _)⟩
        · cases hf
      | @dic a kvs ts g1 g2 =>
        simp only [Ax] at hf; cases hf
        obtain ⟨u,rfl,ru⟩:=rs.one
        cases ru
        exact acv I (vd sub g1) fun t s' I'=>⟨.int kvs.length,H,I',⟨t,rfl⟩,by rw [g2.length]; exact q _ H S (Ext.refl sub) (.int _)⟩
      | _=>simp only [Ax,reduceCtorEq] at hf
theorem wj:R7 X (.type "tuple") Aw:=by
  intro pins s σ H xs us Q I rs z8
  obtain ⟨S,as,ts,w,sub,hr,hf,q⟩:=z8
  cases hr with
  | nil=>simp only [Aw,reduceCtorEq] at hf
  | @cons x t xs' ts' h1 h2 =>
    cases h2 with
    | cons h3 h4=>simp only [Aw,reduceCtorEq] at hf
    | nil =>
      cases h1 with
      | @tup a vs ts g1 g2=>simp only [Aw] at hf; cases hf; exact Gq pins s σ H _ us Q I rs ⟨_,_,rfl,.inr ⟨n8 sub g1,q _ H S (Ext.refl sub) (.tup g1 g2)⟩⟩
      | @lst a vs ts g1 g2 =>
        simp only [Aw] at hf; cases hf
        refine Gq pins s σ H _ us Q I rs ⟨_,_,rfl,.inl ⟨kj sub g1,fun p hp=>?_⟩⟩
        have x:=Ext.laid sub hp (.tup vs)
        exact q _ _ _ x (.tup (SqT.of jf) (g2.mono x.s nol))
      | _=>simp only [Aw,reduceCtorEq] at hf
theorem Bs.put {K:PySem.W.Frag} {S:Hp} {as:List Addr} {k:L2.Key} {v:V} {t:T} (r:Rep K S as v t):∀ {vs:List (L2.Key × V)} {ts:List (L2.Key × T)},Bs K S as vs ts→Bs K S as (putK vs k v) (Du k t ts):=by
  intro vs ts h
  have any:∀ {vs:List (L2.Key × V)} {ts:List (L2.Key × T)},Bs K S as vs ts→(vs.any fun kv=>decide (kv.1=k))=(ts.any fun p=>decide (p.1=k)):=by
    intro vs ts h
    induction vs generalizing ts with
    | nil=>cases h; rfl
    | cons p r ih=>cases h with | cons h1 h2=>rw [List.any_cons,List.any_cons,ih h2]
  have mp:∀ {vs:List (L2.Key × V)} {ts:List (L2.Key × T)},Bs K S as vs ts→Bs K S as (vs.map fun kv=>if kv.1=k then (kv.1,v) else kv) (ts.map fun p=>if p.1=k then (p.1,t) else p):=by
    intro vs ts h
    induction vs generalizing ts with
    | nil=>cases h; exact .nil
    | cons p rr ih =>
      cases h with
      | @cons q v0 t0 _ _ h1 h2 =>
        rw [List.map_cons,List.map_cons]
        by_cases e:q=k
        · rw [if_pos e,if_pos e]; exact .cons r (ih h2)
        · rw [if_neg e,if_neg e]; exact .cons h1 (ih h2)
  have ap:∀ {vs:List (L2.Key × V)} {ts:List (L2.Key × T)},Bs K S as vs ts→Bs K S as (vs++[(k,v)]) (ts++[(k,t)]):=by
    intro vs ts h
    induction vs generalizing ts with
    | nil=>cases h; exact .cons r .nil
    | cons p rr ih=>cases h with | cons h1 h2=>exact .cons h1 (ih h2)
  unfold putK Du
  rw [any h]
  split
  · exact mp h
  · exact ap h
end
end C
end
noncomputable section
set_option linter.all false
set_option maxRecDepth 100000
set_option maxHeartbeats 4000002
set_option autoImplicit false
namespace C
open PySem PySem.Spec PyProof.Rows L2
theorem Px {i:Nat} {k:M T} {s s':Sta} {t:T} (h:xg i k s=some (t,s')):Jv i s=true∧∃ kt kvs f q,k s=some (kt,s')∧s'.env[i]? = some (some (.dic kvs,f))∧keyOf kt=some q∧Ac q kvs=some t:=by
  unfold xg at h
  split at h
  · rename_i hd
    refine ⟨hd,?_⟩
    split at h
    · rename_i kt s2 e2
      split at h
      · rename_i kvs f e3
        split at h
        · rename_i t' e4
          cases h
          obtain ⟨q,e5,e6⟩:=Option.bind_eq_some_iff.mp e4
          exact ⟨kt,kvs,f,q,e2,e3,e5,e6⟩
        · cases h
      · cases h
    · cases h
  · cases h
theorem Tf {i:Nat} {k d:M T} {s s':Sta} {t:T} (h:Hg i k d s=some (t,s')):Jv i s=true∧∃ kt s1 dt kvs f q,k s=some (kt,s1)∧d s1=some (dt,s')∧s'.env[i]? = some (some (.dic kvs,f))∧keyOf kt=some q∧t=(Ac q kvs).getD dt:=by
  unfold Hg at h
  split at h
  · rename_i hd
    refine ⟨hd,?_⟩
    split at h
    · rename_i kt s1 e1
      split at h
      · rename_i dt s2 e2
        split at h
        · rename_i kvs f e3
          split at h
          · rename_i q e4
            cases h
            exact ⟨kt,s1,dt,kvs,f,q,e1,e2,e3,e4,rfl⟩
          · cases h
        · cases h
      · cases h
    · cases h
  · cases h
noncomputable section
variable {K:PySem.W.Frag} {B:Bas} {st:Sta} {σ:L2.St} {H S:Hp} {ps:List (V × T)} {as:List Addr}
theorem Rel.dictAt (r:Rel K B st σ H ps S as) {i:Nat} {kvs:List (L2.Key × T)} {f:Bool} (e:st.env[i]? = some (some (.dic kvs,f))):∃ p vs,σ[i]? = some (some (.ref p))∧Rd H p (.dK vs)∧Bs K S as vs kvs:=by
  obtain ⟨v,h1,h2,h3⟩:=r.slots i _ f e
  cases f with
  | false =>
    have h:=h2 rfl
    cases h with
    | dic a b=>exact ⟨_,_,h1,vd r.sub a,b⟩
  | true =>
    obtain ⟨p,rfl,o⟩:=h3 rfl
    obtain ⟨vs,h,q⟩:=o.own
    exact ⟨p,vs,h1,.inl h,q⟩
end
noncomputable section
variable {X:Cx} {B:Bas} {a b c e o k d:Expr} {m mo mk md mv:M T} {pos p:Pos}
theorem Jt {i:Nat} {s:Sta} (h:Jv i s=true):∃ kvs f,s.env[i]? = some (some (.dic kvs,f)):=by
  unfold Jv at h
  split at h
  · rename_i kvs f e; exact ⟨kvs,f,e⟩
  · cases h
theorem Qx {i:Nat} {s:Sta} (h:xu i s=true):∃ kvs f,s.env[i]? = some (some (.lst kvs,f)):=by
  unfold xu at h
  split at h
  · rename_i kvs f e; exact ⟨kvs,f,e⟩
  · cases h
theorem Mq (i:Nat) (hu:X.A.units+1<cLine) (ho:PE X o (a3s i)) (hk:PE X k (tOf X.K B mk)) (hs:a7j k):PE X (.Subscript o k pos) (tOf X.K B (xg i mk)):=(a5h hu ho hk hs).imp fun σ H Q z9=>by
  obtain ⟨st,ps,S,as,R,t,st',e,q⟩:=z9
  obtain ⟨hd,kt,kvs,f,qk,e2,e3,e4,e5⟩:=Px e
  obtain ⟨kvs0,f0,e0⟩:=Jt hd
  obtain ⟨p0,vs0,s0,_⟩:=R.dictAt e0
  refine ⟨_,s0,st,ps,S,as,R,kt,st',e2,fun u H2 S2 as2 R2=>?_⟩
  obtain ⟨p1,vs1,s1,rd1,h4⟩:=R2.dictAt e3
  rw [s0] at s1; cases s1
  have ey:=Oz R2.top e4
  subst ey
  rcases h4.get qk with ⟨z,t',a1,a2,a3⟩ | ⟨_,a2⟩
  · rw [e5] at a2; cases a2
    exact ⟨p0,z,rfl,.inl ⟨vs1,qk,rd1,rfl,a1.symm⟩,q z H2 S2 as2 (R2.drop.push a3)⟩
  · rw [e5] at a2; cases a2
theorem Zq (i:Nat) {apos:Pos} (hu:X.A.units+1<cLine) (ho:PE X o (a3s i)) (hk:PE X k (tOf X.K B mk)) (hd:PE X d (tOf X.K B md)) (m:M2 X o "get" apos k d pos):PE X (.Call (.Attribute o "get" apos) [k,d] [] pos) (tOf X.K B (Hg i mk md)) :=
  (Va hu ho hk hd m).imp fun σ H Q z9=>by
    obtain ⟨st,ps,S,as,R,t,st',e,q⟩:=z9
    obtain ⟨hd,kt,s1,dt,kvs,f,qk,e1,e2,e3,e4,rfl⟩:=Tf e
    obtain ⟨kvs0,f0,e0⟩:=Jt hd
    obtain ⟨p0,vs0,s0,rd0,_⟩:=R.dictAt e0
    refine ⟨_,s0,p0,rfl,.inl ⟨vs0,rd0⟩,st,ps,S,as,R,kt,s1,e1,fun u H1 S1 as1 R1=>⟨s1,_,S1,as1,R1,dt,st',e2,fun w H2 S2 as2 R2=>?_⟩⟩
    obtain ⟨p1,vs1,z1,rd1,h4⟩:=R2.dictAt e3
    rw [s0] at z1; cases z1
    have ey:=Oz R2.top2 e4
    subst ey
    refine ⟨Ln vs1 qk,.inl ⟨vs1,qk,rd1,rfl,rfl⟩,?_⟩
    rcases h4.get qk with ⟨z,t',a1,a2,a3⟩ | ⟨a1,a2⟩
    · rw [a1]; rw [a2] at q; exact q z H2 S2 as2 (R2.drop.drop.push a3)
    · rw [a1]; rw [a2] at q; exact q w H2 S2 as2 (R2.drop.drop.push R2.top)
theorem a8s {apos:Pos} (hu:X.A.units+1<cLine) (ho:PE X o (tOf X.K B mo)) (hk:PE X k (tOf X.K B mk)) (hd:PE X d (tOf X.K B md)) (m:M2 X o "get" apos k d pos):PE X (.Call (.Attribute o "get" apos) [k,d] [] pos) (tOf X.K B (iz aag (ak mo (ak mk (ak md dh))))) :=
  (Va hu ho hk hd m).imp fun σ H Q z9=>by
    obtain ⟨st,ps,S,as,R,t,st',e,q⟩:=z9
    obtain ⟨ts,e1,ef⟩:=Bl e
    obtain ⟨to,s1,r1,eo,e2,rfl⟩:=yc e1
    obtain ⟨tk,s2,r2,ek,e3,rfl⟩:=yc e2
    obtain ⟨td,s3,r3,ed,e4,rfl⟩:=yc e3
    cases e4
    refine ⟨st,ps,S,as,R,to,s1,eo,fun v H1 S1 as1 R1=>?_⟩
    have top:=R1.top
    cases top with
    | @dic a vs kvs g1 g2 =>
      obtain ⟨qk,e4,e5⟩:=Option.map_eq_some_iff.mp ef
      subst e5
      refine ⟨a,rfl,.inl ⟨vs,vd R1.sub g1⟩,s1,_,S1,as1,R1,tk,s2,ek,fun u H2 S2 as2 R2=>⟨s2,_,S2,as2,R2,td,_,ed,fun w H3 S3 as3 R3=>?_⟩⟩
      have ey:=Oz R3.top2 e4
      subst ey
      have top3:Rep X.K S3 as3 (.ref a) (.dic kvs):=R3.pend _ (List.mem_cons_of_mem _ (List.mem_cons_of_mem _ List.mem_cons_self))
      cases top3 with
      | @dic _ vs3 _ g3 g4 =>
        refine ⟨Ln vs3 qk,.inl ⟨vs3,qk,vd R3.sub g3,rfl,rfl⟩,?_⟩
        rcases g4.get qk with ⟨z,t',a1,a2,a3⟩ | ⟨a1,a2⟩
        · rw [a1]; rw [a2] at q; exact q z H3 S3 as3 (R3.drop.drop.drop.push a3)
        · rw [a1]; rw [a2] at q; exact q w H3 S3 as3 (R3.drop.drop.drop.push R3.top)
    | _=>exact jh ef
theorem zy (i:Nat) {pos':Pos} (hu:X.A.units+1<cLine) (ho:PE X o (a3s i)) (hk:PE X k (tOf X.K B mk)) (hv:PE X e (tOf X.K B mv)) (hs:swapsWith e (some (.Subscript o k pos')) pos.line X.env=pure false) :
    PS X (.Assign [.Subscript o k pos'] e pos) (sOf X.K B (qm i mk mv)):=(Yj hu ho hk hv hs).imp fun D σ H z9=>by
  obtain ⟨st,ps,S,as,R,fl,st',e,q⟩:=z9
  obtain ⟨t,s1,kt,s2,kvs,qk,e1,hd,e3,e4,e5,hl,rfl,rfl⟩:=U5 e
  obtain ⟨kvs0,f0,e0⟩:=Jt hd
  refine ⟨st,ps,S,as,R,t,s1,e1,fun v H1 S1 as1 R1=>?_⟩
  obtain ⟨p0,vs0,s0,rd0,_⟩:=R1.dictAt e0
  refine ⟨_,s0,s1,_,S1,as1,R1,kt,s2,e3,fun y H3 S3 as3 R3=>?_⟩
  obtain ⟨w,h1,_,h3⟩:=R3.slots i _ true e4
  rw [s0] at h1; cases h1
  obtain ⟨p',ep,ow⟩:=h3 rfl
  cases ep
  obtain ⟨vs,hH,h4⟩:=ow.own
  have ey:=Oz R3.top e5
  subst ey
  exact ⟨p0,_,rfl,a5e.k hH (by rw [h4.length]; exact Nat.lt_of_lt_of_le hl qt),q _ _ S3 as3 (R3.drop.drop.turn e4 s0 ⟨_,jf,h4.put R3.top2⟩)⟩
end
end C
end
noncomputable section
set_option linter.all false
set_option maxRecDepth 100000
set_option maxHeartbeats 4000002
set_option autoImplicit false
namespace C
open PySem PySem.Spec PyProof.Rows L2
theorem dj {ms:M (List T)} {n:Nat} (h:∀ st ts st',ms st=some (ts,st')→ts.length≤n) (hn:n≤1000):∀ st ts st',ms st=some (ts,st')→ts.length≤1000:=fun st ts st' e=>Nat.le_trans (h st ts st' e) hn
theorem qw {m:M T}:∀ st ts st',qu m st=some (ts,st')→ts.length≤sizeLine:=fun st ts st' e=>by
  unfold qu at e
  split at e
  · split at e
    · rename_i h; cases e; exact Nat.le_trans (Nat.le_of_lt h) qt
    · cases e
  · split at e
    · rename_i h; cases e; exact Nat.le_trans (Nat.le_of_lt h) qt
    · cases e
  · cases e
theorem J5 {m:M T}:∀ st ts st',p8 m st=some (ts,st')→ts.length≤sizeLine:=fun st ts st' e=>by
  obtain ⟨n,_,h,rfl⟩:=Mr e
  unfold rangeT
  rw [List.length_map,List.length_range]
  refine Nat.le_trans ?_ qt
  show n.toNat≤1000000
  omega
noncomputable def dz (P:Program) (w:World) (K:PySem.W.Frag) (mg:Str→Option Value) (base:Heap) (x:Str) (k:Nat) (ps:List Str) (F:Fn):Prop :=
  ∃ f fd,yh P w K mg base CX0 k f fd ps (spF K ps.length F)∧Binds K fd ps []∧PySem.W.keepIn K (.ref f)=true∧mg x=some (.ref f)
theorem dz.mono {P:Program} {w:World} {K:PySem.W.Frag} {mg:Str→Option Value} {base:Heap} {x:Str} {j k:Nat} {ps:List Str} {F:Fn} (d:dz P w K mg base x j ps F) (h:j≤k):dz P w K mg base x k ps F:=by
  obtain ⟨f,fd,h1,h2⟩:=d
  exact ⟨f,fd,h1.mono h,h2⟩
noncomputable section
variable {X:Cx} {B:Bas} {a b c e o k:Expr} {m m1 m2:M T} {pos p:Pos} {es:List Expr} {ms:M (List T)} {F:Fn} {x:Str} {n:Nat} {pn:List Str}
theorem dg (D:dz X.prog X.w X.K X.mg X.base x n pn F) (hr:K3 n X.A) (hg:Gl X x)
    (ha:PA X (e::es) (aOf X.K B ms)) (hl:∀ st ts st',ms st=some (ts,st')→ts.length=pn.length) (hdb:(x==("__debug__" : Str))=false:=by decide)
    (he:starEach (e::es) X.env=(false,eval e X.env)::starEach es X.env:=by rfl) (hpl:(backTo pos (starEach es X.env)).any (·.1)=false:=by rfl) :
    PE X (.Call (.Name x p) (e::es) [] pos) (tOf X.K B (dw F ms)):=by
  obtain ⟨f,fd,h1,h2,h3,h4⟩:=D
  exact a78 h1 hr hg h4 h3 h2 ha hl hdb he hpl
theorem Vy (h:PA X es (aOf X.K B ms)) (hm:∀ st ts st',ms st=some (ts,st')→ts.length≤1000):PE X (.List es pos) (fOf X.K B (iz (fun l=>some (.lst l)) ms)) :=
  (a4z h).imp fun σ H Q z9=>by
    obtain ⟨st,ps,S,as,R,t,st',e,q⟩:=z9
    obtain ⟨ts,e1,e2⟩:=Bl e
    cases e2
    refine ⟨st,ps,S,as,R,ts,st',e1,fun vs H1 S1 as1 R1 rs=>⟨?_,fun p hp=>?_⟩⟩
    · rw [rs.length]; exact Nat.le_of_lt (Gp (hm _ _ _ e1))
    · obtain ⟨bD,sD,nD,no⟩:=R1.fresh hp
      exact q p _ S1 as1 (R1.aa3 bD sD nD no) ⟨⟨vs,jf,rs⟩,sD,nD,bD⟩ no
theorem Mv:PE X (.Dict [] [] pos) (fOf X.K B (au (.dic []))):=a2c.imp fun σ H Q z9=>by
  obtain ⟨st,ps,S,as,R,t,st',e,q⟩:=z9
  cases e
  intro p hp
  obtain ⟨bD,sD,nD,no⟩:=R.fresh hp
  exact q p _ S as (R.aa3 bD sD nD no) ⟨⟨[],jf,.nil⟩,sD,nD,bD⟩ no
theorem Rel.listAt {K:PySem.W.Frag} {B:Bas} {st:Sta} {σ:L2.St} {H S:Hp} {ps:List (V × T)} {as:List Addr} (r:Rel K B st σ H ps S as) {i:Nat} {xs:List T} {f:Bool} (e:st.env[i]? = some (some (.lst xs,f))):∃ p vs,σ[i]? = some (some (.ref p))∧SqL K H p vs∧uc K S as vs xs:=by
  obtain ⟨v,h1,h2,h3⟩:=r.slots i _ f e
  cases f with
  | false =>
    have h:=h2 rfl
    cases h with
    | lst a b=>exact ⟨_,_,h1,kj r.sub a,b⟩
  | true =>
    obtain ⟨p,rfl,o⟩:=h3 rfl
    obtain ⟨vs,h,q⟩:=o.own
    exact ⟨p,vs,h1,SqL.of h,q⟩
theorem Cd (i:Nat) {st:Stmt} (h:PS X st (a6d (tBM X.K "list" Zv (a3s i) (Wn (tOf X.K B m) a8g)))):PS X st (sOf X.K B (jz i m)):=h.imp fun D σ H z9=>by
  obtain ⟨st,ps,S,as,R,fl,st',e,q⟩:=z9
  obtain ⟨hd,t,s1,xs,e1,e2,hl,rfl,rfl⟩:=Tc e
  obtain ⟨xs0,f0,e0⟩:=Qx hd
  obtain ⟨p0,vs0,s0,q0,_⟩:=R.listAt e0
  refine ⟨_,s0,.inl ⟨rfl,_,q0⟩,st,ps,S,as,R,t,s1,e1,fun v H1 S1 as1 R1=>?_⟩
  obtain ⟨w,h1,_,h3⟩:=R1.slots i _ true e2
  rw [s0] at h1; cases h1
  obtain ⟨p',ep,ow⟩:=h3 rfl
  cases ep
  obtain ⟨vs,hH,h4⟩:=ow.own
  exact ⟨p0,vs,v,rfl,rfl,hH,by rw [h4.length]; exact Nat.lt_of_lt_of_le hl qt,q _ _ S1 as1 (R1.drop.turn e2 s0 ⟨_,jf,h4.append (.cons R1.top .nil)⟩)⟩
end
end C
end
noncomputable section
set_option linter.all false
set_option maxRecDepth 100000
set_option maxHeartbeats 4000002
set_option autoImplicit false
namespace C
open PySem PySem.Spec PyProof.Rows L2
noncomputable section
variable {X:Cx} {B:Bas} {a b c e o k:Expr} {m m1 m2:M T} {pos p:Pos}
theorem Qq {K:PySem.W.Frag} {S:Hp} {as:List Addr}:∀ {vs:List V} {ts:List T} {l:List Int},uc K S as vs ts→X6 ts=some l→vs=l.map V.int
  | _,[],l,h0,h=>by cases h0; cases h; rfl
  | _,_::_,l,h0,h=>by
    cases h0 with | cons h1 h2=>?_
    cases h1 <;> first | exact jh h | skip
    obtain ⟨l',e1,e2⟩:=Option.map_eq_some_iff.mp h
    subst e2
    rw [Qq h2 e1]; rfl
theorem Hh {K:PySem.W.Frag} {S:Hp} {as:List Addr}:∀ {vs:List V} {ts:List T} {l:List Bool},uc K S as vs ts→Im ts=some l→vs=l.map V.bl
  | _,_,l,.nil,h=>by cases h; rfl
  | _,_,l,.cons (t:=t) h1 h2,h=>by
    cases h1 <;> first | exact jh h | skip
    obtain ⟨l',e1,e2⟩:=Option.map_eq_some_iff.mp h
    subst e2
    rw [Hh h2 e1]; rfl
theorem Qh {K:PySem.W.Frag} {S:Hp} {as:List Addr}:∀ {vs:List V} {ts:List T} {l:List Str},uc K S as vs ts→J3 ts=some l→vs=l.map V.str
  | _,_,l,.nil,h=>by cases h; rfl
  | _,_,l,.cons (t:=t) h1 h2,h=>by
    cases h1 <;> first | exact jh h | skip
    obtain ⟨l',e1,e2⟩:=Option.map_eq_some_iff.mp h
    subst e2
    rw [Qh h2 e1]; rfl
theorem a2k {l:List Int} {us:List Value} (r:Vals (l.map V.int) us) {i:Nat} {v:Value} (h:us.toArray[i]? = some v):∃ t,v=.int (l.getD i 0) t:=by
  rw [List.getElem?_toArray] at h
  have hi:i<(l.map V.int).length:=by rw [r.length]; exact (List.getElem?_eq_some_iff.mp h).1
  rw [List.length_map] at hi
  have e:(l.map V.int)[i]? = some (.int l[i]):=by rw [List.getElem?_map,List.getElem?_eq_getElem hi]; rfl
  obtain ⟨u,h1,t,h2⟩:=r.get e
  rw [h] at h1; cases h1
  exact ⟨t,by rw [h2,List.getD_eq_getElem?_getD,List.getElem?_eq_getElem hi]; rfl⟩
theorem Qo {l:List Bool} {us:List Value} (r:Vals (l.map V.bl) us) {i:Nat} {v:Value} (h:us.toArray[i]? = some v):v=.bool (l.getD i true):=by
  rw [List.getElem?_toArray] at h
  have hi:i<(l.map V.bl).length:=by rw [r.length]; exact (List.getElem?_eq_some_iff.mp h).1
  rw [List.length_map] at hi
  have e:(l.map V.bl)[i]? = some (.bl l[i]):=by rw [List.getElem?_map,List.getElem?_eq_getElem hi]; rfl
  obtain ⟨u,h1,h2⟩:=r.get e
  rw [h] at h1; cases h1
  rw [h2,List.getD_eq_getElem?_getD,List.getElem?_eq_getElem hi]; rfl
theorem Inv.xu {pins:List (Addr × Obj)} {σ:L2.St} {H:Hp} {s:Shared} {a:Addr} {xs:List V} (I:L2.Inv X pins σ H s) (h:SqL X.K H a xs):a<s.heap.objs.size:=by
  obtain ⟨its,_,⟨o,n,h1,_⟩,_⟩:=I.list h
  exact Heap.lt_size h1
theorem Oi (hc:X.calm=true):R7 X (.builtin "sum") aad:=by
  intro pins s σ H xs us Q I rs z8
  obtain ⟨S,as,ts,w,sub,hr,hf,q⟩:=z8
  cases hr with
  | nil=>exact jh hf
  | @cons x t xs' ts' h1 h2 =>
    cases h2 with
    | cons h3 h4=>cases h1 <;> exact jh hf
    | nil =>
      cases h1 with
      | @lst a vs ts g1 g2 =>
        obtain ⟨l,e1,e2⟩:=Option.map_eq_some_iff.mp hf
        subst e2
        have ev:=Qq g2 e1
        subst ev
        obtain ⟨u,rfl,ru⟩:=rs.one
        cases ru
        obtain ⟨its,r,p,hz⟩:=I.list (kj sub g1)
        have hlt:=Inv.xu I (kj sub g1)
        refine call_sum_walkG (wpAny_pyIter_list p.isList ?_)
        refine ⟨_,_,_,_,_,_,fun i=>l.getD i 0,rfl,Walks.list (A:=X.A.in1) (show X.A.in1.handled=none from I.ok.hd hc) s.heap.objs.size a (Nat.ne_of_lt hlt) its.toArray,And.intro ⟨_,Heap.get?_push_size _ rfl,rfl,rfl⟩ (PlainL.keeps p fun b o e=>Heap.get?_push_of_some _ e).isList,fun b hb=>?_,fun i v hv=>a2k r hv,fun h' tk t' hk=>?_⟩
        · rw [Heap.size_push]
          rcases List.mem_cons.mp hb with rfl | hb -- here
          · exact Nat.lt_succ_self _
          · rw [List.mem_singleton.mp hb]; exact Nat.lt_succ_of_lt hlt -- here
        · have hl:its.toArray.size=l.length:=by rw [List.size_toArray,← r.length,List.length_map]
          rw [hl,preSum_getD,List.take_length]
          exact ⟨.int l.sum,H,I.kept (h':=h') (t':=tk) fun b u e=>hk b u (by simp; exact Nat.ne_of_lt (Heap.lt_size e)) (Heap.get?_push_of_some _ e),⟨_,rfl⟩,q _ H S (Ext.refl sub) (.int _)⟩
      | _=>exact jh hf
theorem all_range (l:List Bool) (d:Bool):((List.range l.length).all fun i=>l.getD i d)=l.all id:=by
  induction l with
  | nil=>rfl
  | cons x r ih =>
    rw [List.length_cons,List.range_succ_eq_map,List.all_cons,List.all_map,List.all_cons,← ih]
    rfl
theorem any_range (l:List Bool) (d:Bool):((List.range l.length).any fun i=>l.getD i d)=l.any id:=by
  induction l with
  | nil=>rfl
  | cons x r ih =>
    rw [List.length_cons,List.range_succ_eq_map,List.any_cons,List.any_map,List.any_cons,← ih]
    rfl
theorem Yx (hc:X.calm=true):R7 X (.builtin "all") abr:=by
  intro pins s σ H xs us Q I rs z8
  obtain ⟨S,as,ts,w,sub,hr,hf,q⟩:=z8
  cases hr with
  | nil=>exact jh hf
  | @cons x t xs' ts' h1 h2 =>
    cases h2 with
    | cons h3 h4=>cases h1 <;> exact jh hf
    | nil =>
      cases h1 with
      | @lst a vs ts g1 g2 =>
        obtain ⟨l,e1,e2⟩:=Option.map_eq_some_iff.mp hf
        subst e2
        have ev:=Hh g2 e1
        subst ev
        obtain ⟨u,rfl,ru⟩:=rs.one
        cases ru
        obtain ⟨its,r,p,hz⟩:=I.list (kj sub g1)
        have hlt:=Inv.xu I (kj sub g1)
        refine call_all_walk (wpAny_pyIter_list p.isList ?_)
        refine ⟨_,_,_,_,_,_,fun i=>l.getD i true,rfl,Walks.list (A:=X.A.in1) (show X.A.in1.handled=none from I.ok.hd hc) s.heap.objs.size a (Nat.ne_of_lt hlt) its.toArray,And.intro ⟨_,Heap.get?_push_size _ rfl,rfl,rfl⟩ (PlainL.keeps p fun b o e=>Heap.get?_push_of_some _ e).isList,fun i v s Q E hv hq=>?_,fun h' tk hk=>?_⟩
        · have e:=Qo r hv
          subst e
          exact wpAny_truthy_bool hq
        · have hl:its.toArray.size=l.length:=by rw [List.size_toArray,← r.length,List.length_map]
          rw [hl,all_range]
          exact ⟨.bl (l.all id),H,I.kept (h':=h') (t':=tk) fun b u e=>hk b u (by simp; exact Nat.ne_of_lt (Heap.lt_size e)) (Heap.get?_push_of_some _ e),rfl,q _ H S (Ext.refl sub) (.bl _)⟩
      | _=>exact jh hf
theorem a0f (hc:X.calm=true):R7 X (.builtin "any") acr:=by
  intro pins s σ H xs us Q I rs z8
  obtain ⟨S,as,ts,w,sub,hr,hf,q⟩:=z8
  cases hr with
  | nil=>exact jh hf
  | @cons x t xs' ts' h1 h2 =>
    cases h2 with
    | cons h3 h4=>cases h1 <;> exact jh hf
    | nil =>
      cases h1 with
      | @lst a vs ts g1 g2 =>
        obtain ⟨l,e1,e2⟩:=Option.map_eq_some_iff.mp hf
        subst e2
        have ev:=Hh g2 e1
        subst ev
        obtain ⟨u,rfl,ru⟩:=rs.one
        cases ru
        obtain ⟨its,r,p,hz⟩:=I.list (kj sub g1)
        have hlt:=Inv.xu I (kj sub g1)
        refine call_any_walk (wpAny_pyIter_list p.isList ?_)
        refine ⟨_,_,_,_,_,_,fun i=>l.getD i true,rfl,Walks.list (A:=X.A.in1) (show X.A.in1.handled=none from I.ok.hd hc) s.heap.objs.size a (Nat.ne_of_lt hlt) its.toArray,And.intro ⟨_,Heap.get?_push_size _ rfl,rfl,rfl⟩ (PlainL.keeps p fun b o e=>Heap.get?_push_of_some _ e).isList,fun i v s Q E hv hq=>?_,fun h' tk hk=>?_⟩
        · have e:=Qo r hv
          subst e
          exact wpAny_truthy_bool hq
        · have hl:its.toArray.size=l.length:=by rw [List.size_toArray,← r.length,List.length_map]
          rw [hl,any_range]
          exact ⟨.bl (l.any id),H,I.kept (h':=h') (t':=tk) fun b u e=>hk b u (by simp; exact Nat.ne_of_lt (Heap.lt_size e)) (Heap.get?_push_of_some _ e),rfl,q _ H S (Ext.refl sub) (.bl _)⟩
      | _=>exact jh hf
theorem M6:∀ {l:List Str} {us:List Value},Vals (l.map V.str) us→StrsAre us l
  | [],_,r=>by cases r; exact .nil
  | x::l,_,r=>by
    rw [List.map_cons] at r
    cases r with
    | cons r1 r2=>obtain ⟨t,rfl⟩:=r1; exact .cons x t (M6 r2)
theorem Om {l:List Str} {us:List Value} (h:StrsAre us l):Vals (l.map V.str) us:=by
  induction h with
  | nil=>exact .nil
  | cons x t _ ih=>exact .cons ⟨t,rfl⟩ ih
noncomputable abbrev Es (a b:Str):Prop:=¬ b.cps.toList<a.cps.toList
theorem Kr {a b c:Str} (h1:Es a b) (h2:Es b c):Es a c:=fun h=>by
  have h3:a.cps.toList≤b.cps.toList:=List.not_lt.mp h1
  have h4:b.cps.toList≤c.cps.toList:=List.not_lt.mp h2
  exact List.not_lt.mpr (List.le_trans h3 h4) h
theorem Ww {a b:Str} (h1:Es a b) (h2:Es b a):a=b:=by
  have h3:a.cps.toList≤b.cps.toList:=List.not_lt.mp h1
  have h4:b.cps.toList≤a.cps.toList:=List.not_lt.mp h2
  have h5:=List.le_antisymm h3 h4
  cases a; cases b
  simp at h5; subst h5; rfl
theorem Jm:∀ (p:Str) (l:List Str),risingS p l=true→(p::l).Pairwise Es
  | p,[],_=>by simp
  | p,x::r,h=>by
    rw [risingS,Bool.and_eq_true] at h
    have ih:=Jm x r h.2
    have hx:Es p x:=fun z=>by
      have:=h.1
      rw [ltCps_eq,decide_eq_true z] at this
      cases this
    refine List.pairwise_cons.mpr ⟨fun y hy=>?_,ih⟩
    rcases List.mem_cons.mp hy with rfl | hy -- here
    · exact hx
    · exact Kr hx (List.rel_of_pairwise_cons ih hy)
theorem Sh (l:List Str) (h:sortedS l=true):l.Pairwise Es:=by
  cases l with
  | nil=>exact .nil
  | cons x r=>exact Jm x r h
theorem Jz (x:Str):∀ l,(Xl x l).Perm (x::l)
  | []=>.refl _
  | y::r=>by
    rw [Xl]
    split
    · exact .refl _
    · exact ((Jz x r).cons y).trans (.swap x y r)
theorem Qm (x:Str):∀ l:List Str,l.Pairwise Es→(Xl x l).Pairwise Es
  | [],_=>by simp [Xl]
  | y::r,h=>by
    rw [Xl]
    split
    · rename_i hx
      have hx:=of_decide_eq_true hx
      have hxy:Es x y:=fun z=>List.lt_irrefl _ (List.lt_trans hx z)
      refine List.pairwise_cons.mpr ⟨fun z hz=>?_,h⟩
      rcases List.mem_cons.mp hz with rfl | hz -- here
      · exact hxy
      · exact Kr hxy (List.rel_of_pairwise_cons h hz)
    · rename_i hx
      have hx:Es y x:=fun z=>hx (decide_eq_true z)
      refine List.pairwise_cons.mpr ⟨fun z hz=>?_,Qm x r (List.pairwise_cons.mp h).2⟩
      rcases List.mem_cons.mp ((Jz x r).mem_iff.mp hz) with rfl | hz
      · exact hx
      · exact List.rel_of_pairwise_cons h hz
theorem Hw:∀ (l acc:List Str),acc.Pairwise Es→(l.foldl (fun acc x=>Xl x acc) acc).Pairwise Es∧(l.foldl (fun acc x=>Xl x acc) acc).Perm (l++acc)
  | [],acc,h=>⟨h,.refl _⟩
  | x::l,acc,h=>by
    obtain ⟨h1,h2⟩:=Hw l (Xl x acc) (Qm x acc h)
    exact ⟨h1,h2.trans (((Jz x acc).append_left l).trans (List.perm_middle))⟩
theorem X7 (l:List Str):(Ci l).Pairwise Es:=(Hw l [] .nil).1
theorem Hf (l:List Str):(Ci l).Perm l:=by
  have:=(Hw l [] .nil).2
  rwa [List.append_nil] at this
theorem V7 {l l':List Str} (h1:sortedS l'=true) (h2:l'.Perm l):l'=Ci l :=
  List.Perm.eq_of_pairwise (le:=Es) (fun _ _ _ _=>Ww) (Sh l' h1) (X7 l) (h2.trans (Hf l).symm)
theorem Js {K:PySem.W.Frag} {S:Hp} {as:List Addr}:∀ l:List Str,uc K S as (l.map V.str) (l.map T.str)
  | []=>.nil
  | x::l=>.cons (.str x) (Js l)
theorem Wf {pins:List (Addr × Obj)} {σ:L2.St} {H S:Hp} {s:Shared} {as:List Addr} {a:Addr} {l:List Str} {Q:VK} (I:L2.Inv X pins σ H s) (sub:Same S H) (g1:SqL X.K H a (l.map V.str)) (h64:l.length<64)
    (q:∀ v H' S',Ext S H S' H'→Rep X.K S' as v (.lst ((Ci l).map .str))→Q v H'):wpAny (model X.prog X.w) X.A (call (.builtin "sorted") [.ref a]) (EP X pins σ Q) X.xe s:=by
  obtain ⟨its,r,p,hz⟩:=I.list g1
  refine sorted_strs p.isList (M6 r) (by rw [← r.length,List.length_map]; exact h64) fun out ss' a1 a2 a3=>?_
  have es:=V7 a3 a2
  subst es
  obtain ⟨e,he⟩:=sortedAll_at s.heap its out
  have hl:(List.map V.str (Ci l)).length≤sizeLine:=by
    rw [List.length_map,(Hf l).length_eq]
    exact Nat.le_trans (Nat.le_of_lt h64) (by rw [sizeLine_eq]; decide)
  have hn:H (s.heap.objs.size+1)=none:=I.hok.fresh (Nat.le_succ _)
  have x:=Ext.laid sub hn (.lst ((Ci l).map V.str))
  refine ⟨.ref (s.heap.objs.size+1),_,I.laid (a:=s.heap.objs.size+1) (o:=.lst ((Ci l).map V.str)) (h':=sortedAll s.heap its out) (t':=s.toks) (fun _ _=>sortedAll_old) (Nat.le_succ _) ⟨hl,out.toList,e,Om a1,he⟩,rfl,q _ _ _ x (.lst (SqL.of jf) (Js _))⟩
theorem Np:Fo X (.builtin "sorted") (fun xs H Q=>∃ S as ts l,Same S H∧uc X.K S as xs [.lst ts]∧ts.length<64∧J3 ts=some l∧∀ v H' S',Ext S H S' H'→Rep X.K S' as v (.lst ((Ci l).map .str))→Q v H'):=by
  intro pins s σ H xs us Q I rs z8
  obtain ⟨S,as,ts,l,sub,hr,h64,e1,q⟩:=z8
  cases hr with
  | cons h1 h2 =>
    cases h2
    cases h1 with
    | @lst a vs _ g1 g2 =>
      have ev:=Qh g2 e1
      subst ev
      obtain ⟨u,rfl,ru⟩:=rs.one
      cases ru
      have hl:=g2.length
      rw [List.length_map] at hl
      exact Wf I sub (kj sub g1) (by (clear rs g2 g1 q e1 sub I; omega)) q
noncomputable def tyOf:T→Option Value
  | .non=>some (.type "NoneType")
  | .bl _=>some (.type "bool")
  | .int _=>some (.type "int")
  | .str _=>some (.type "str")
  | .tup _=>some (.type "tuple")
  | .lst _=>some (.type "list")
  | .dic _=>some (.type "dict")
  | .obj _=>none
theorem a8c {pins:List (Addr × Obj)} {σ:L2.St} {H S:Hp} {s:Shared} {as:List Addr} {x:V} {u c:Value} {t:T} {ty:Value} {b:Bool} {Q:Value→Shared→Prop} {E:Value→Shared→Prop} (I:L2.Inv X pins σ H s) (sub:Same S H) (rx:RelV x u) (r:Rep X.K S as x t) (hty:tyOf t=some ty)
    (e:PySem.W.kitOne X.K ty c=some b) (h:∀ tk,Q (.bool b) { s with toks:=tk }):wpAny (model X.prog X.w) X.A (call (.builtin "isinstance") [u,c]) Q E s:=by
  cases r with
  | non=>cases hty; exact Ga I rx .non e h
  | bl y=>cases hty; exact Ga I rx (.bl y) e h
  | int y=>cases hty; exact Ga I rx (.int y) e h
  | str y=>cases hty; exact Ga I rx (.str y) e h
  | @tup a vs ts g1 g2 =>
    cases hty
    cases (show u=Value.ref a from rx)
    obtain ⟨its,_,⟨o,h1,h2,_⟩,_⟩:=I.tuple (n8 sub g1)
    exact PySem.W.kia_one PySem.W.kitx_tuple I.kIn ⟨o,h1,h2⟩ e (fun z=>nomatch z) h
  | @lst a vs ts g1 g2 =>
    cases hty
    cases (show u=Value.ref a from rx)
    obtain ⟨its,_,⟨o,n,h1,h2,_⟩,_⟩:=I.list (kj sub g1)
    exact PySem.W.kia_one PySem.W.kitx_list I.kIn ⟨o,h1,h2⟩ e (fun z=>nomatch z) h
  | @dic a kvs ts g1 g2 =>
    cases hty
    cases (show u=Value.ref a from rx)
    obtain ⟨_,_,vs,_,o,es,ep,h1,h2,_⟩:=Ia I.hok (vd sub g1)
    exact PySem.W.kia_one PySem.W.kitx_dict I.kIn ⟨o,h1,h2.1⟩ e (fun z=>nomatch z) h
  | obj h=>cases hty
noncomputable def a8k (f:Value→Bool):List T→Option T
  | [t]=>(tyOf t).map fun ty=>.bl (f ty)
  | _=>none
theorem a83 {cn:String} {f:Value→Bool} {pc:Pos} (hg:Gl X "isinstance") (hm:X.mg "isinstance" = none) (hg2:Gl X (Str.ofString cn)) (hm2:X.mg (Str.ofString cn)=none) (hv:bootBuiltins (Str.ofString cn)=some (.type cn))
    (hf:∀ t ty,tyOf t=some ty→PySem.W.kitOne X.K ty (.type cn)=some (f ty)) (ha:PE X a (tOf X.K B m)) (hd:((Str.ofString cn)==("__debug__" : Str))=false) (hn:(Str.ofString cn) ≠ "__name__")
    (he:starEach [a,.Name (Str.ofString cn) pc] X.env=(false,eval a X.env)::starEach [.Name (Str.ofString cn) pc] X.env:=by rfl) (he2:starEach [.Name (Str.ofString cn) pc] X.env=(false,eval (.Name (Str.ofString cn) pc) X.env)::starEach [] X.env:=by rfl)
    (hpl:(backTo pos (starEach [.Name (Str.ofString cn) pc] X.env)).any (·.1)=false:=by rfl) :
    PE X (.Call (.Name "isinstance" p) [a,.Name (Str.ofString cn) pc] [] pos) (tOf X.K B (iz (a8k f) (ak m dh))):=by
  have hc:Fo X (.builtin "isinstance") (fun xs H Q=>∃ S as x t ty,xs=[x,.ty cn]∧Same S H∧Rep X.K S as x t∧tyOf t=some ty∧Q (.bl (f ty)) H):=by
    intro pins s σ H xs us Q I rs z8
    obtain ⟨S,as,x,t,ty,ex,sub,r,hty,q⟩:=z8
    subst ex
    obtain ⟨u,w,rfl,r1,r2⟩:=rs.two
    cases r2
    exact a8c I sub r1 r hty (hf t ty hty) fun tk=>⟨.bl (f ty),H,I.tok _,rfl,q⟩
  have hnm:PE X (.Name (Str.ofString cn) pc) (tC (.ty cn)):=a69 hg2 hm2 hv rfl hn hd
  refine (v9 hc hg hm PyProof.Rows.boot_isinstance (qz ha (qz hnm wu he2) he) (by decide) (by decide) he hpl).imp fun σ H Q z0=>?_
  obtain ⟨st,ps,S,as,R,t,st',e,q⟩:=z0
  obtain ⟨ts,e1,e2⟩:=Bl e
  obtain ⟨t1,s1,us,ea,en,rfl⟩:=yc e1
  cases en
  simp only [a8k] at e2
  obtain ⟨ty,e3,e4⟩:=Option.map_eq_some_iff.mp e2
  subst e4
  exact ⟨st,ps,S,as,R,t1,_,ea,fun v H1 S1 as1 R1=>⟨S1,as1,v,t1,ty,rfl,R1.sub,R1.top,e3,q _ H1 S1 as1 (R1.drop.push (.bl _))⟩⟩
example (K:PySem.W.Frag):PySem.W.kitOne K (.type "bool") (.type "int")=some true:=by rfl
example (K:PySem.W.Frag):PySem.W.kitOne K (.type "str") (.type "int")=some false:=by rfl
end
end C
end
noncomputable section
set_option linter.all false
set_option maxRecDepth 100000
set_option maxHeartbeats 4000002
set_option autoImplicit false
namespace C
open PySem PySem.Spec PyProof.Rows L2
theorem Rg (l b:Addr) (xs0 ys0:Array Value) (n n2:Nat) (dd2:Option Addr) (sl2:Array (Option Value)) (hs0:¬(!xs0.isEmpty&&Builtin.List.listTooLong (xs0.size+ys0.size))=true) (hs1:xs0.size≤sizeLine) (hs2:xs0.size+ys0.size≤sizeLine+1) :
    Meets (Builtin.«list.extend» ⟨[.ref l,.ref b],[]⟩) (fun _ R s=>s.heap.get? l=some { cls:=.type "list",dict:=none,data:=.seq xs0 n,slots:=#[] }∧s.heap.get? b=some { cls:=.type "list",dict:=dd2,data:=.seq ys0 n2,slots:=sl2 }∧R (.ok (.ret Value.none)) { s with heap:=s.heap.update l (Obj.mapSeq fun x=>x++ys0),toks:=s.toks }) :=
  .of_wp fun pr wd Ar R z h=>by
    obtain ⟨hp,gs,dr,tk,os⟩:=z; obtain ⟨hl,hb,h⟩:=h; have f1:=AutoSeq1.idx_int; have f2:=AutoSeq1.sub_tuple_tuple; have f3:=AutoSeq1.sub_list_list; have f4:=AutoSeq1.sub_tuple_list; have f5:=AutoSeq1.sub_list_tuple
    have hz':(xs0++ys0).size≤sizeLine+1:=by rw [Array.size_append]; exact hs2
    wp_walk using (wpAny_updateSeq hl rfl (hz:=hs1) (_hz':=hz')),AutoSeq1.wpAny_loadPart' hl,AutoSeq1.wpAny_loadPart' hb; exact ⟨_,rfl,h⟩
theorem Ol (l b:Addr) (xs0 ys0:Array Value) (n n2:Nat) (dd2:Option Addr) (sl2:Array (Option Value)) (hs0:¬(!xs0.isEmpty&&Builtin.List.listTooLong (xs0.size+ys0.size))=true) (hs1:xs0.size≤sizeLine) (hs2:xs0.size+ys0.size≤sizeLine+1) :
    Meets (Builtin.«list.extend» ⟨[.ref l,.ref b],[]⟩) (fun _ R s=>s.heap.get? l=some { cls:=.type "list",dict:=none,data:=.seq xs0 n,slots:=#[] }∧s.heap.get? b=some { cls:=.type "tuple",dict:=dd2,data:=.seq ys0 n2,slots:=sl2 }∧R (.ok (.ret Value.none)) { s with heap:=s.heap.update l (Obj.mapSeq fun x=>x++ys0),toks:=s.toks }) :=
  .of_wp fun pr wd Ar R z h=>by
    obtain ⟨hp,gs,dr,tk,os⟩:=z; obtain ⟨hl,hb,h⟩:=h; have f1:=AutoSeq1.idx_int; have f2:=AutoSeq1.sub_tuple_tuple; have f3:=AutoSeq1.sub_list_list; have f4:=AutoSeq1.sub_tuple_list; have f5:=AutoSeq1.sub_list_tuple
    have hz':(xs0++ys0).size≤sizeLine+1:=by rw [Array.size_append]; exact hs2
    wp_walk using (wpAny_updateSeq hl rfl (hz:=hs1) (_hz':=hz')),AutoSeq1.wpAny_loadPart' hl,AutoSeq1.wpAny_loadPart' hb; exact ⟨_,rfl,h⟩
noncomputable section
variable {X:Cx} {B:Bas} {m:M T}
noncomputable def V0 (K:PySem.W.Frag):V→List V→Hp→VK→Prop:=fun x vs H Q=>∃ l b xs zs,x=.ref l∧vs=[.ref b]∧H l=some (.lst xs)∧(SqL K H b zs∨SqT K H b zs)∧xs.length+zs.length≤sizeLine∧Q .non (upd H l (.lst (xs++zs)))
theorem yu:MtM X "list.extend" (V0 X.K):=by
  intro pins s σ H x vs v us Q I rx rv h
  obtain ⟨l,b,xs,zs,rfl,rfl,hH,hB,hz,q⟩:=h
  cases rx
  obtain ⟨u,rfl,ru⟩:=rv.one
  cases ru
  obtain ⟨z,its,n,r,hl,e⟩:=I.adf hH
  have fin:∀ its2:List Value,Vals zs its2→L2.Inv X pins σ (upd H l (.lst (xs++zs))) { s with heap:=s.heap.update l (Obj.mapSeq fun x=>x++its2.toArray),toks:=s.toks }:=fun its2 r2 =>
    I.ado (its':=its++its2) hH e (by simp) (r.append r2) (by rw [List.length_append]; exact hz)
  have hlong:∀ its2:List Value,Vals zs its2→¬ (!its.toArray.isEmpty&&Builtin.List.listTooLong (its.toArray.size+its2.toArray.size))=true:=fun its2 r2=>by
    have hsz:its.toArray.size+its2.toArray.size≤sizeLine:=by rw [List.size_toArray,List.size_toArray,← hl,← r2.length]; exact hz
    rw [a3m hsz,Bool.and_false]
    exact Bool.false_ne_true
  rcases hB with hB | hB
  · obtain ⟨its2,r2,⟨⟨cls2,dd2,data2,sl2⟩,n2,ho2,hc2,hd02,hd2⟩,_⟩:=I.list hB
    simp only at hc2 hd2
    subst hc2 hd2
    refine call_meets F.slot_list_extend ⟨_,e,rfl⟩ F.entry_list_extend (F.args_list_extend_2 _ _)
      (Rg l b its.toArray its2.toArray n n2 dd2 sl2 (hlong its2 r2) (by rw [List.size_toArray,← hl]; (clear hd02 ho2 r2 hB hlong fin e hl r rv q hz hH I; omega)) (by rw [List.size_toArray,List.size_toArray,← hl,← r2.length]; (clear hd02 ho2 r2 hB hlong fin e hl r z rv q hH I; omega))) ⟨e,ho2,?_⟩
    exact ⟨.non,_,fin its2 r2,rfl,q⟩
  · obtain ⟨its2,r2,⟨⟨cls2,dd2,data2,sl2⟩,ho2,hc2,n2,hd2⟩,_⟩:=I.tuple hB
    simp only at hc2 hd2
    subst hc2 hd2
    refine call_meets F.slot_list_extend ⟨_,e,rfl⟩ F.entry_list_extend (F.args_list_extend_2 _ _)
      (Ol l b its.toArray its2.toArray n n2 dd2 sl2 (hlong its2 r2) (by rw [List.size_toArray,← hl]; (clear ho2 r2 hB hlong fin e hl r rv q hz hH I; omega)) (by rw [List.size_toArray,List.size_toArray,← hl,← r2.length]; (clear ho2 r2 hB hlong fin e hl r z rv q hH I; omega))) ⟨e,ho2,?_⟩
    exact ⟨.non,_,fin its2 r2,rfl,q⟩
theorem Ba (i:Nat) {st:Stmt} (h:PS X st (a6d (tBM X.K "list" (V0 X.K) (a3s i) (Wn (tOf X.K B m) a8g)))):PS X st (sOf X.K B (jx i m)):=h.imp fun D σ H z9=>by
  obtain ⟨st,ps,S,as,R,fl,st',e,q⟩:=z9
  obtain ⟨hd,t,s1,xs,ys,e1,ey,e2,hl,rfl,rfl⟩:=Tw e
  obtain ⟨xs0,f0,e0⟩:=Qx hd
  obtain ⟨p0,vs0,s0,q0,_⟩:=R.listAt e0
  refine ⟨_,s0,.inl ⟨rfl,_,q0⟩,st,ps,S,as,R,t,s1,e1,fun v H1 S1 as1 R1=>?_⟩
  obtain ⟨w,h1,_,h3⟩:=R1.slots i _ true e2
  rw [s0] at h1; cases h1
  obtain ⟨p',ep,ow⟩:=h3 rfl
  cases ep
  obtain ⟨vs,hH,h4⟩:=ow.own
  have top:=R1.top
  cases top with
  | @tup b zs _ g1 g2 =>
    cases ey
    exact ⟨p0,b,vs,zs,rfl,rfl,hH,.inr (n8 R1.sub g1),by rw [h4.length,g2.length]; exact Nat.le_trans (Nat.le_of_lt hl) qt,q _ _ S1 as1 (R1.drop.turn e2 s0 ⟨_,jf,h4.append g2⟩)⟩
  | @lst b zs _ g1 g2 =>
    cases ey
    exact ⟨p0,b,vs,zs,rfl,rfl,hH,.inl (kj R1.sub g1),by rw [h4.length,g2.length]; exact Nat.le_trans (Nat.le_of_lt hl) qt,q _ _ S1 as1 (R1.drop.turn e2 s0 ⟨_,jf,h4.append g2⟩)⟩
  | _=>exact jh ey
end
end C
end
noncomputable section
set_option linter.all false
set_option maxRecDepth 100000
set_option maxHeartbeats 4000002
set_option autoImplicit false
namespace C
open PySem PySem.Spec PyProof.Rows L2
theorem Rel.newObj {K:PySem.W.Frag} {B:Bas} {st:Sta} {σ:L2.St} {H S:Hp} {ps:List (V × T)} {as:List Addr} {p:Addr} {ob:HO} {so:SO} (r:Rel K B st σ H ps S as) (hp:H p=none) (h:Zn K S (as++[p]) (upd H p ob) p so) :
    Rel K B { st with sto:=st.sto++[so] } σ (upd H p ob) ((.ref p,.obj st.sto.length)::ps) S (as++[p]):=by
  obtain ⟨bD,sD,nD,no⟩:=r.fresh hp
  have mo:∃ l,as++[p]=as++l:=⟨[p],rfl⟩
  have other:∀ q,q≠p→H q=upd H p ob q:=fun q n=>(m7 n).symm
  refine Rel.push (st:={ st with sto:=st.sto++[so] }) (H:=upd H p ob) (v:=.ref p) (t:=.obj st.sto.length) ⟨fun b u e=>?_,⟨r.grow.same,?_,fun q o a b c=>?_⟩,fun i t f e=>?_,r.apart,⟨?_,?_,fun n so2 e=>?_⟩,fun q hq=>(r.pend q hq).mono (Same.refl _) mo,r.len⟩ (.obj ?_)
  · rw [m7 (fun z=>by subst z; rw [sD] at e; cases e)]; exact r.sub _ _ e
  · obtain ⟨l,e⟩:=r.grow.more
    exact ⟨l++[p],by rw [e,List.append_assoc]⟩
  · obtain ⟨x,y,z⟩:=r.grow.keep q o a b c
    have n:q≠p:=fun w=>by subst w; rw [bD] at a; cases a
    refine ⟨by rw [m7 n]; exact x,y,fun m=>?_⟩
    rcases List.mem_append.mp m with m | m
    · exact z m
    · exact n (List.mem_singleton.mp m)
  · obtain ⟨v,h1,h2,h3⟩:=r.slots i t f e
    refine ⟨v,h1,fun z=>(h2 z).mono (Same.refl _) mo,fun z=>?_⟩
    obtain ⟨q,rfl,o⟩:=h3 z
    have n:q≠p:=fun w=>by subst w; subst z; exact no i t e h1
    refine ⟨q,rfl,o.own.more (Same.refl _) mo (other q n),o.out,fun m=>?_,o.new⟩
    rcases List.mem_append.mp m with m | m
    · exact o.nas m
    · exact n (List.mem_singleton.mp m)
  · show (as++[p]).length=(st.sto++[so]).length
    rw [List.length_append,List.length_append,r.sto.len]; rfl
  · refine List.nodup_append.mpr ⟨r.sto.nd,by simp,fun a ha b hb=>?_⟩
    rw [List.mem_singleton.mp hb]
    intro z; subst z; exact nD ha
  · have e:(st.sto++[so])[n]? = some so2:=e
    by_cases hn:n<st.sto.length
    · rw [List.getElem?_append_left hn] at e
      obtain ⟨a,h1,h2,h3⟩:=r.sto.at' n so2 e
      have na:a≠p:=fun z=>by subst z; exact nD (List.mem_of_getElem? h1)
      refine ⟨a,Zu h1,h2,?_⟩
      cases so2 with
      | dic ts=>obtain ⟨vs,x,y⟩:=h3; exact ⟨vs,by rw [m7 na]; exact x,y.mono (Same.refl _) mo⟩
      | lst ts=>obtain ⟨vs,x,y⟩:=h3; exact ⟨vs,by rw [m7 na]; exact x,y.mono (Same.refl _) mo⟩
      | dit ts=>obtain ⟨vs,x,y⟩:=h3; exact ⟨vs,by rw [m7 na]; exact x,y.mono (Same.refl _) mo⟩
    · rw [List.getElem?_append_right (Nat.le_of_not_lt hn)] at e
      have hn0:n - st.sto.length=0:=by
        have:=(List.getElem?_eq_some_iff.mp e).1
        simp at this; omega
      rw [hn0] at e; cases e
      have hne:n=as.length:=by rw [r.sto.len]; omega
      subst hne
      exact ⟨p,by rw [List.getElem?_append_right (Nat.le_refl _),Nat.sub_self]; rfl,sD,h⟩
  · rw [← r.sto.len,List.getElem?_append_right (Nat.le_refl _),Nat.sub_self]; rfl
noncomputable def PN (X:Cx) (e:Expr) (N:L2.St→V→Prop):Prop:=PE X e (fun σ H Q=>∃ v,N σ v∧Q v H)
noncomputable def MN (K:PySem.W.Frag) (m:M T) (N:L2.St→V→Prop):Prop:=∀ (B:Bas) (st:Sta) (σ:L2.St) (H:Hp) (ps:List (V × T)) (S:Hp) (as:List Addr) (t:T) (st':Sta),Rel K B st σ H ps S as→m st=some (t,st')→st'=st∧∃ v,N σ v∧Rep K S as v t
structure PM (X:Cx) (e:Expr) (m:M T) (N:L2.St→V→Prop):Prop where
  p:PN X e N
  m:MN X.K m N
noncomputable section
variable {X:Cx} {B:Bas} {a b e e1 e2:Expr} {m m1 m2:M T} {N N1 N2:L2.St→V→Prop} {pos p:Pos}
end
end C
end
noncomputable section
set_option linter.all false
set_option autoImplicit false
namespace C
open PySem PySem.Spec PyProof.Rows L2
inductive a2f:List Expr→List Str→Prop where
  | nil:a2f [] []
  | cons {x:Str} {k:Nat} {q:Pos} {es:List Expr} {xs:List Str}:a2f es xs→a2f (.Constant (.str x) k q::es) (x::xs)
theorem Zo {X:Cx} {B:Bas}:∀ {es:List Expr} {xs:List Str},a2f es xs→PA X es (aOf X.K B (Dl xs))
  | _,_,.nil=>d7
  | _,_,.cons h=>aj j5 (Zo h)
theorem len_strs:∀ (xs:List Str) (st:Sta) (ts:List T) (st':Sta),Dl xs st=some (ts,st')→ts.length≤xs.length
  | [],st,ts,st',e=>d8 st ts st' e
  | _::xs,st,ts,st',e=>bf (len_strs xs) st ts st' e
noncomputable section
variable {X:Cx} {B:Bas} {a b c e o k:Expr} {m m1 m2:M T} {pos p p2:Pos}
theorem a1u (l:List T):Oc l=a8k (fun ty=>ty == .type "list") l :=
  match l with
  | []=>rfl
  | [t]=>T.casesOn (motive_1:=fun t=>Oc [t]=a8k (fun ty=>ty == .type "list") [t]) t rfl (fun _=>rfl) (fun _=>rfl) (fun _=>rfl) (fun _=>rfl) (fun _=>rfl) (fun _=>rfl) fun _=>rfl
  | x::y::r=>T.casesOn (motive_1:=fun t=>Oc (t::y::r)=a8k (fun ty=>ty == .type "list") (t::y::r)) x rfl (fun _=>rfl) (fun _=>rfl) (fun _=>rfl) (fun _=>rfl) (fun _=>rfl) (fun _=>rfl) fun _=>rfl
theorem Rv {pc:Pos} (hg:Gl X "isinstance") (hm:X.mg "isinstance" = none) (hg2:Gl X "list") (hm2:X.mg "list" = none) (ha:PE X a (tOf X.K B m)) (he:starEach [a,.Name "list" pc] X.env=(false,eval a X.env)::starEach [.Name "list" pc] X.env:=by rfl) :
    PE X (.Call (.Name "isinstance" p) [a,.Name "list" pc] [] pos) (tOf X.K B (iz Oc (ak m dh))):=by
  rw [show Oc=_ from funext a1u]
  exact a83 (cn := "list") hg hm hg2 hm2 boot_list (fun t ty h=>by cases t <;> cases h <;> rfl) ha (by decide) (by decide) he
end
end C
end
noncomputable section
set_option linter.all false
set_option autoImplicit false
namespace C
open PySem
mutual
theorem Ei:∀ (t:T) {d:PyData},dat t=some d→d.canLay0=true
  | .non,_,h=>by simp only [dat] at h; cases h; simp only [PyData.canLay0]
  | .bl b,_,h=>by simp only [dat] at h; cases h; simp only [PyData.canLay0]
  | .int i,_,h=>by simp only [dat] at h; cases h; simp only [PyData.canLay0]
  | .str x,_,h=>by
    simp only [dat] at h
    split at h
    · rename_i hx; cases h; exact hx
    · cases h
  | .tup xs,_,h=>by
    simp only [dat] at h
    obtain ⟨l,e1,e2⟩:=Option.map_eq_some_iff.mp h
    subst e2
    simp only [PyData.canLay0]
    exact Mx xs e1
  | .lst xs,_,h=>by
    simp only [dat] at h
    obtain ⟨l,e1,e2⟩:=Option.map_eq_some_iff.mp h
    subst e2
    simp only [PyData.canLay0]
    exact Mx xs e1
  | .dic _,_,h=>by simp only [dat] at h; cases h
  | .obj _,_,h=>by simp only [dat] at h; cases h
theorem Mx:∀ (ts:List T) {l:List PyData},Oe ts=some l→PyData.canLayAll0 l=true
  | [],_,h=>by simp only [Oe] at h; cases h; simp only [PyData.canLayAll0]
  | x::r,_,h=>by
    simp only [Oe] at h
    split at h
    · rename_i a ea
      obtain ⟨l,e1,e2⟩:=Option.map_eq_some_iff.mp h
      subst e2
      simp only [PyData.canLayAll0]
      rw [Ei x ea,Mx r e1]; rfl
    · cases h
end
theorem a1c {x:T} {r:List T} {l:List PyData} (h:Oe (x::r)=some l):∃ a l',dat x=some a∧Oe r=some l'∧l=a::l':=by
  simp only [Oe] at h
  split at h
  · rename_i a ea
    obtain ⟨l,e1,e2⟩:=Option.map_eq_some_iff.mp h
    exact ⟨a,l,ea,e1,e2.symm⟩
  · cases h
theorem Rw {t u:T} {b:Bool} (h:eqD t u=some b):∃ x y,dat t=some x∧dat u=some y∧x.depth≤40∧b=PyData.eqv x y:=by
  unfold eqD at h
  split at h
  · rename_i x ex
    split at h
    · rename_i y ey
      split at h
      · rename_i hd; cases h; exact ⟨x,y,ex,ey,hd,rfl⟩
      · cases h
    · cases h
  · cases h
theorem a6i {t u:T} {b:Bool} (h:eqT t u=some b):(∃ x y,t=.dic x∧u=.dic y∧((x.length=y.length∧a7l x y=some b)∨(x.length≠y.length∧b=false)))∨eqD t u=some b:=by
  unfold eqT at h
  split at h
  · split at h
    · rename_i hl; exact .inl ⟨_,_,rfl,rfl,.inl ⟨hl,h⟩⟩
    · rename_i hl; cases h; exact .inl ⟨_,_,rfl,rfl,.inr ⟨hl,rfl⟩⟩
  · exact .inr h
end C
end
noncomputable section
set_option linter.all false
set_option maxRecDepth 100000
set_option maxHeartbeats 4000002
set_option autoImplicit false
namespace C
open PySem PySem.Spec PyProof.Rows L2
noncomputable section
variable {X:Cx} {pins:List (Addr × Obj)} {σ:L2.St} {H S:Hp} {s:Shared} {as:List Addr}
theorem Zy (I:L2.Inv X pins σ H s) (sub:Same S H):(∀ {v:V} {t:T},Rep X.K S as v t→∀ {d:PyData} {u:Value},dat t=some d→RelV v u→∃ bs,Reads s.heap u d bs)∧∀ {vs:List V} {ts:List T},uc X.K S as vs ts→∀ {ds:List PyData} {us:List Value},Oe ts=some ds→Vals vs us→∃ bs,ReadsAll s.heap us ds bs:=by
  have tp:∀ {a:Addr} {vs:List V} {ts:List T},SqT X.K S a vs→uc X.K S as vs ts→(∀ {ds:List PyData} {us:List Value},Oe ts=some ds→Vals vs us→∃ bs,ReadsAll s.heap us ds bs)→∀ {d:PyData} {u:Value},dat (.tup ts)=some d→RelV (.ref a) u→∃ bs,Reads s.heap u d bs:=by
    intro a vs ts h _ q d u e r
    simp only [dat] at e
    obtain ⟨l,e1,e2⟩:=Option.map_eq_some_iff.mp e
    subst e2
    cases r
    obtain ⟨its,rv,⟨o,h1,h2,n,h3⟩,_⟩:=I.tuple (n8 sub h)
    obtain ⟨bs,rb⟩:=q e1 rv
    exact ⟨_,.tuple h1 h2 h3 rb⟩
  have ls:∀ {a:Addr} {vs:List V} {ts:List T},SqL X.K S a vs→uc X.K S as vs ts→(∀ {ds:List PyData} {us:List Value},Oe ts=some ds→Vals vs us→∃ bs,ReadsAll s.heap us ds bs)→∀ {d:PyData} {u:Value},dat (.lst ts)=some d→RelV (.ref a) u→∃ bs,Reads s.heap u d bs:=by
    intro a vs ts h _ q d u e r
    simp only [dat] at e
    obtain ⟨l,e1,e2⟩:=Option.map_eq_some_iff.mp e
    subst e2
    cases r
    obtain ⟨its,rv,⟨o,n,h1,h2,_,h3⟩,_⟩:=I.list (kj sub h)
    obtain ⟨bs,rb⟩:=q e1 rv
    exact ⟨_,.list h1 h2 h3 rb⟩
  have st:∀ (x:Str) {d:PyData} {u:Value},dat (.str x)=some d→RelV (.str x) u→∃ bs,Reads s.heap u d bs:=by
    intro x d u e r
    simp only [dat] at e
    split at e
    · cases e; obtain ⟨t,rfl⟩:=r; exact ⟨_,.str x t⟩
    · cases e
  have cn:∀ {v:V} {t:T} {vs:List V} {ts:List T},Rep X.K S as v t→uc X.K S as vs ts→(∀ {d:PyData} {u:Value},dat t=some d→RelV v u→∃ bs,Reads s.heap u d bs)→(∀ {ds:List PyData} {us:List Value},Oe ts=some ds→Vals vs us→∃ bs,ReadsAll s.heap us ds bs)→∀ {ds:List PyData} {us:List Value},Oe (t::ts)=some ds→Vals (v::vs) us→∃ bs,ReadsAll s.heap us ds bs:=by
    intro v t vs ts _ _ h q ds us e r
    obtain ⟨a,l,e1,e2,e3⟩:=a1c e
    subst e3
    cases r with
    | cons r1 r2 =>
      obtain ⟨b1,x1⟩:=h e1 r1
      obtain ⟨b2,x2⟩:=q e2 r2
      exact ⟨_,.cons x1 x2⟩
  have nl:∀ {ds:List PyData} {us:List Value},Oe []=some ds→Vals [] us→∃ bs,ReadsAll s.heap us ds bs:=by
    intro ds us e r; simp only [Oe] at e; cases e; cases r; exact ⟨_,.nil⟩
  have no:∀ {d:PyData} {u:Value},dat .non=some d→RelV .non u→∃ bs,Reads s.heap u d bs:=by
    intro d u e r; simp only [dat] at e; cases e; cases r; exact ⟨_,.none⟩
  have bo:∀ (b:Bool) {d:PyData} {u:Value},dat (.bl b)=some d→RelV (.bl b) u→∃ bs,Reads s.heap u d bs:=by
    intro b d u e r; simp only [dat] at e; cases e; cases r; exact ⟨_,.bool b⟩
  have it:∀ (i:Int) {d:PyData} {u:Value},dat (.int i)=some d→RelV (.int i) u→∃ bs,Reads s.heap u d bs:=by
    intro i d u e r; simp only [dat] at e; cases e; obtain ⟨t,rfl⟩:=r; exact ⟨_,.int i t⟩
  have di:∀ {a:Addr} {ts:List (L2.Key × T)} {d:PyData} {u:Value},dat (.dic ts)=some d→RelV (.ref a) u→∃ bs,Reads s.heap u d bs:=by
    intro a ts d u e; simp only [dat] at e; cases e
  have ob:∀ {a:Addr} {n:Nat} {d:PyData} {u:Value},dat (.obj n)=some d→RelV (.ref a) u→∃ bs,Reads s.heap u d bs:=by
    intro a n d u e; simp only [dat] at e; cases e
  exact ⟨fun h=>Rep.rec (motive_1:=fun v t _=>∀ {d:PyData} {u:Value},dat t=some d→RelV v u→∃ bs,Reads s.heap u d bs) (motive_2:=fun vs ts _=>∀ {ds:List PyData} {us:List Value},Oe ts=some ds→Vals vs us→∃ bs,ReadsAll s.heap us ds bs) (motive_3:=fun _ _ _=>True) no bo it st tp ls (fun _ _ _=>di) (fun _=>ob) nl cn trivial (fun _ _ _ _=>trivial) h,
    fun h=>uc.rec (motive_1:=fun v t _=>∀ {d:PyData} {u:Value},dat t=some d→RelV v u→∃ bs,Reads s.heap u d bs) (motive_2:=fun vs ts _=>∀ {ds:List PyData} {us:List Value},Oe ts=some ds→Vals vs us→∃ bs,ReadsAll s.heap us ds bs) (motive_3:=fun _ _ _=>True) no bo it st tp ls (fun _ _ _=>di) (fun _=>ob) nl cn trivial (fun _ _ _ _=>trivial) h⟩
theorem Rep.reads (I:L2.Inv X pins σ H s) (sub:Same S H) {v:V} {t:T} (h:Rep X.K S as v t) {d:PyData} {u:Value} (e:dat t=some d) (r:RelV v u):∃ bs,Reads s.heap u d bs:=(Zy I sub).1 h e r
theorem a4m (I:L2.Inv X pins σ H s) (sub:Same S H) {x y:V} {t u:T} {v w:Value} {b:Bool} {A:Around} (hx:Rep X.K S as x t) (hy:Rep X.K S as y u) (rx:RelV x v) (ry:RelV y w) (e:eqD t u=some b) (hu:A.units+40<cLine):SeqAt.EqAt A s v w b:=by
  obtain ⟨dx,dy,e1,e2,hd,rfl⟩:=Rw e
  obtain ⟨b1,x1⟩:=hx.reads I sub e1 rx
  obtain ⟨b2,x2⟩:=hy.reads I sub e2 ry
  exact SeqAt.eqAt_reads dx dy A s v w b1 b2 x1 x2 (Ei _ e1) (Ei _ e2) (by have:=Nat.min_le_left dx.depth dy.depth; (clear this x2 x1 e e2 e1 ry rx hy hx sub I; omega))
theorem a0c (I:L2.Inv X pins σ H s) (sub:Same S H) {A:Around} (hu:A.units+40<cLine) {kb:List (L2.Key × V)} {ub:List (L2.Key × T)} {wb:List (L2.Key × Value)} (rb:Bs X.K S as kb ub) (vb:KV kb wb) :
    ∀ {ka:List (L2.Key × V)} {ua:List (L2.Key × T)} {wa:List (L2.Key × Value)} {r:Bool},Bs X.K S as ka ua→KV ka wa→a7l ua ub=some r→PySem.W.KeqHits A s wb wa r
  | _,[],_,_,h0,va,e=>by
    cases h0
    simp only [a7l] at e; cases e
    cases va
    exact .nil
  | _,(k,_)::_,_,_,h0,va,e=>by
    cases h0 with | cons h q=>?_
    simp only [a7l] at e
    cases va with
    | @cons _ p2 _ _ hp hr =>
      obtain ⟨pk,pv⟩:=p2
      obtain ⟨ek,rv⟩:=hp
      dsimp only at ek rv
      subst ek
      rcases rb.get k with ⟨z,t',a1,a2,a3⟩ | ⟨a1,a2⟩
      · rw [a2] at e
        dsimp only at e
        have rel:=KV.val vb k
        rw [a1] at rel
        obtain ⟨w',hw,rw'⟩:=Og.some_of rel
        split at e
        · rename_i eb he
          obtain ⟨b',e1,e2⟩:=Option.map_eq_some_iff.mp e
          subst e2
          exact .hit hw (a4m I sub h a3 rv rw' he hu) (a0c I sub hu rb vb q hr e1)
        · cases e
      · rw [a2] at e
        cases e
        have rel:=KV.val vb k
        rw [a1] at rel
        exact .miss (Og.none_of rel)
end
noncomputable section
variable {X:Cx}
theorem Pq {op:CmpOp} {neg:Bool} (hop:(op=.Eq∧neg=false)∨(op=.NotEq∧neg=true)) {g:T→T→Option T} (hg:∀ t u w,g t u=some w→∃ b,eqT t u=some b∧w=.bl (xor neg b)) (hu:X.A.units+64<cLine):OpT X (compareOp op) g:=by
  intro pins s σ H x y v u Q I rx ry z8
  obtain ⟨S,as,t,t2,w,sub,ht,hu2,hf,q⟩:=z8
  obtain ⟨b,e,rfl⟩:=hg _ _ _ hf
  have fin:EP X pins σ Q (.bool (xor neg b)) s:=⟨.bl (xor neg b),H,I,rfl,q _ H S (Ext.refl sub) (.bl _)⟩
  rcases a6i e with ⟨xs,ys,rfl,rfl,hd⟩ | he
  · cases ht with
    | @dic a kvs _ g1 g2 =>
      cases hu2 with
      | @dic a' kvs' _ k1 k2 =>
        cases rx
        cases ry
        obtain ⟨z,hs,vs,rel,dd⟩:=Ia I.hok (vd sub g1)
        obtain ⟨z',hs',vs',rel',dd'⟩:=Ia I.hok (vd sub k1)
        have l1:vs.length=xs.length:=by rw [← rel.length]; exact g2.length
        have l2:vs'.length=ys.length:=by rw [← rel'.length]; exact k2.length
        have hu1:X.A.in1.units+40<cLine:=by show X.A.units+1+40<cLine; (clear l2 l1 dd' rel' hs' z' dd rel hs z k2 k1 g2 g1 hf e hd fin q sub I hg hop; omega)
        rcases hd with ⟨hl,eb⟩ | ⟨hl,rfl⟩
        · have hits:vs.length=vs'.length→PySem.W.KeqHits X.A.in1 s vs' vs b:=fun _=>a0c I sub hu1 k2 rel' g2 rel eb
          have el:(vs.length==vs'.length)=true:=by rw [l1,l2,hl]; exact beq_self_eq_true _
          rcases hop with ⟨rfl,rfl⟩ | ⟨rfl,rfl⟩
          · refine PySem.W.keq_eq hs hs' dd dd' (by (clear hf fin q hg el hits eb hl hu1 l2 l1 dd' rel' hs' z' dd rel hs z k2 k1 g2 g1 e sub I; omega)) hits ?_
            rw [el]; simpa using fin
          · refine PySem.W.keq_ne hs hs' dd dd' (by (clear hf fin q hg el hits eb hl hu1 l2 l1 dd' rel' hs' z' dd rel hs z k2 k1 g2 g1 e sub I; omega)) hits ?_
            rw [el]; simpa using fin
        · have hits:vs.length=vs'.length→PySem.W.KeqHits X.A.in1 s vs' vs true:=fun h=>absurd (by rw [← l1,← l2]; exact h) hl
          have el:(vs.length==vs'.length)=false:=by rw [l1,l2]; exact beq_eq_false_iff_ne.mpr hl
          rcases hop with ⟨rfl,rfl⟩ | ⟨rfl,rfl⟩
          · refine PySem.W.keq_eq hs hs' dd dd' (by (clear hf fin q hg el hits e hl hu1 l2 l1 dd' rel' hs' z' dd rel hs z k2 k1 g2 g1 sub I; omega)) hits ?_
            rw [el]; simpa using fin
          · refine PySem.W.keq_ne hs hs' dd dd' (by (clear hf fin q hg el hits e hl hu1 l2 l1 dd' rel' hs' z' dd rel hs z k2 k1 g2 g1 sub I; omega)) hits ?_
            rw [el]; simpa using fin
  · obtain ⟨dx,dy,e1,e2,hd,rfl⟩:=Rw he
    obtain ⟨b1,x1⟩:=ht.reads I sub e1 rx
    obtain ⟨b2,x2⟩:=hu2.reads I sub e2 ry
    have hm:X.A.units+min dx.depth dy.depth<cLine:=by have:=Nat.min_le_left dx.depth dy.depth; (clear this x2 x1 he fin q hf e e2 e1 hu2 ht sub ry rx I hg hop; omega)
    rcases hop with ⟨rfl,rfl⟩ | ⟨rfl,rfl⟩
    · exact SeqAt.compareEq_reads x1 x2 (Ei _ e1) (Ei _ e2) hm (by simpa using fin)
    · exact SeqAt.compareNe_reads x1 x2 (Ei _ e1) (Ei _ e2) hm (by simpa using fin)
theorem m8 (hu:X.A.units+64<cLine):OpT X (compareOp .Eq) eqO:=Pq (.inl ⟨rfl,rfl⟩) (fun t u w h=>by
  unfold eqO at h
  split at h
  · rename_i b e; cases h; exact ⟨b,e,by simp⟩
  · cases h) hu
theorem Ou (hu:X.A.units+64<cLine):OpT X (compareOp .NotEq) neO:=Pq (.inr ⟨rfl,rfl⟩) (fun t u w h=>by
  unfold neO at h
  split at h
  · rename_i b e; cases h; exact ⟨b,e,by simp⟩
  · cases h) hu
open Classical in
noncomputable def a5a (h:Heap) (dx:PyData) (y:Value):Bool:=if e:∃ d bs,Reads h y d bs∧d.canLay0=true then PyData.eqv (Classical.choose e) dx else false
theorem a5i {h:Heap} {dx d:PyData} {y:Value} {bs:List Addr} (r:Reads h y d bs) (l:d.canLay0=true):a5a h dx y=PyData.eqv d dx:=by
  have e:∃ d bs,Reads h y d bs∧d.canLay0=true:=⟨d,bs,r,l⟩
  unfold a5a
  rw [dif_pos e]
  obtain ⟨bs',r',l'⟩:=Classical.choose_spec e
  rw [SeqAt.Reads.unique _ _ _ _ _ l' r' r]
theorem Z5 {pins:List (Addr × Obj)} {σ:L2.St} {H S:Hp} {s:Shared} {as:List Addr} {A:Around} (I:L2.Inv X pins σ H s) (sub:Same S H) (hu:A.units+40<cLine) {x:V} {t:T} {v:Value} {dx:PyData} (hx:Rep X.K S as x t) (rx:RelV x v) (ex:dat t=some dx) :
    ∀ {vs:List V} {ts:List T} {us:List Value} {b:Bool},uc X.K S as vs ts→Vals vs us→inL t ts=some b→(∀ y∈us,SeqAt.EqAt A s y v (a5a s.heap dx y))∧us.any (a5a s.heap dx)=b
  | _,[],_,_,h0,r,e=>by cases h0; simp only [inL] at e; cases e; cases r; exact ⟨fun y h=>(nomatch h),rfl⟩
  | _,_::_,_,_,h0,r,e=>by
    cases h0 with | cons h q=>?_
    simp only [inL] at e
    cases r with
    | @cons _ u1 _ us1 r1 r2 =>
      split at e
      · rename_i eb he
        obtain ⟨b',e1,e2⟩:=Option.map_eq_some_iff.mp e
        subst e2
        obtain ⟨i1,i2⟩:=Z5 I sub hu hx rx ex q r2 e1
        obtain ⟨dy,dx',f1,f2,hd,rfl⟩:=Rw he
        rw [ex] at f2; cases f2
        obtain ⟨b1,x1⟩:=h.reads I sub f1 r1
        have hb:=a5i (dx:=dx) x1 (Ei _ f1)
        refine ⟨fun y hy=>?_,by rw [List.any_cons,i2,hb]⟩
        rcases List.mem_cons.mp hy with rfl | hy -- here
        · rw [hb]; exact a4m I sub h hx r1 rx he hu
        · exact i1 y hy
      · cases e
theorem Z2 {t u w:T} (h:inT t u=some w):(∃ ys b,(u=.tup ys∨u=.lst ys)∧inL t ys=some b∧(dat t).isSome=true∧w=.bl b)∨(∃ kvs q,u=.dic kvs∧keyOf t=some q∧w=.bl (Ac q kvs).isSome):=by
  unfold inT at h
  split at h
  · obtain ⟨q,e1,e2⟩:=Option.map_eq_some_iff.mp h
    exact .inr ⟨_,q,rfl,e1,e2.symm⟩
  · split at h
    · rename_i hd
      split at h
      · obtain ⟨b,e1,e2⟩:=Option.map_eq_some_iff.mp h; exact .inl ⟨_,b,.inl rfl,e1,hd,e2.symm⟩
      · obtain ⟨b,e1,e2⟩:=Option.map_eq_some_iff.mp h; exact .inl ⟨_,b,.inr rfl,e1,hd,e2.symm⟩
      · cases h
    · cases h
theorem Yq {op:CmpOp} {neg:Bool} (hop:(op=.In∧neg=false)∨(op=.NotIn∧neg=true)) {g:T→T→Option T} (hg:∀ t u w,g t u=some w→∃ w',inT t u=some w'∧∃ b,w'=.bl b∧w=.bl (xor neg b)) (hu:X.A.units+64<cLine):OpT X (compareOp op) g:=by
  intro pins s σ H x y v u Q I rx ry z8
  obtain ⟨S,as,t,t2,w,sub,ht,hu2,hf,q⟩:=z8
  obtain ⟨w',ei,b0,rfl,rfl⟩:=hg _ _ _ hf
  rcases Z2 ei with ⟨ys,b,hy,e,hdt,eb⟩ | ⟨kvs,qk,rfl,ek,eb⟩
  · cases eb
    obtain ⟨dx,ex⟩:=Option.isSome_iff_exists.mp hdt
    have fin:EP X pins σ Q (.bool (xor neg b0)) s:=⟨.bl (xor neg b0),H,I,rfl,q _ H S (Ext.refl sub) (.bl _)⟩
    have hu1:X.A.in1.units+40<cLine:=by show X.A.units+1+40<cLine; (clear fin ex e hdt hy q hf ei hu2 ht sub ry rx I hg hop; omega)
    rcases hy with rfl | rfl
    · cases hu2 with
      | @tup a vs _ g1 g2 =>
        cases ry
        obtain ⟨its,r,p,hz⟩:=I.tuple (n8 sub g1)
        obtain ⟨i1,i2⟩:=Z5 I sub hu1 ht rx ex g2 r e
        have he:∀ y,y∈its.toArray→SeqAt.EqAt X.A.in1 s y v (a5a s.heap dx y):=fun y hy=>i1 y (by simpa using hy)
        have ha:its.toArray.any (a5a s.heap dx)=b0:=by rw [← i2]; simp
        rcases hop with ⟨rfl,rfl⟩ | ⟨rfl,rfl⟩
        · exact SeqAt.in_tupleAt _ (show s.heap.IsTuple a its.toArray from p) he (by rw [ha]; simpa using fin)
        · exact SeqAt.notIn_tupleAt _ (show s.heap.IsTuple a its.toArray from p) he (by rw [ha]; simpa using fin)
    · cases hu2 with
      | @lst a vs _ g1 g2 =>
        cases ry
        obtain ⟨its,r,p,hz⟩:=I.list (kj sub g1)
        obtain ⟨i1,i2⟩:=Z5 I sub hu1 ht rx ex g2 r e
        have he:∀ y,y∈its.toArray→SeqAt.EqAt X.A.in1 s y v (a5a s.heap dx y):=fun y hy=>i1 y (by simpa using hy)
        have ha:its.toArray.any (a5a s.heap dx)=b0:=by rw [← i2]; simp
        rcases hop with ⟨rfl,rfl⟩ | ⟨rfl,rfl⟩
        · exact SeqAt.in_listAt _ p.isList he (by rw [ha]; simpa using fin)
        · exact SeqAt.notIn_listAt _ p.isList he (by rw [ha]; simpa using fin)
  · cases eb
    cases hu2 with
    | @dic a kv _ g1 g2 =>
      cases ry
      have ey:=Oz ht ek
      subst ey
      have hs:(Ac qk kvs).isSome=(Ln kv qk).isSome:=by
        rcases g2.get qk with ⟨z,t',a1,a2,_⟩ | ⟨a1,a2⟩
        · simp [a1,a2]
        · simp [a1,a2]
      rw [hs] at q
      have gd:Wj H a (kV qk) (Ln kv qk):=.inl ⟨kv,qk,vd sub g1,rfl,rfl⟩
      rcases hop with ⟨rfl,rfl⟩ | ⟨rfl,rfl⟩
      · exact aeu (by (clear q hf hg gd hs ht rx g2 g1 ei ek sub I; omega)) I gd rx fun s' I'=>⟨.bl _,H,I',rfl,by simpa using q _ H S (Ext.refl sub) (.bl _)⟩
      · exact a6s (by (clear q hf hg gd hs ht rx g2 g1 ei ek sub I; omega)) I gd rx fun s' I'=>⟨.bl _,H,I',rfl,by simpa using q _ H S (Ext.refl sub) (.bl _)⟩
theorem a81 (hu:X.A.units+64<cLine):OpT X (compareOp .In) inT:=Yq (.inl ⟨rfl,rfl⟩) (fun t u w h=>by
  rcases Z2 h with ⟨ys,b,h1,h2,h3,rfl⟩ | ⟨kvs,q,rfl,h2,rfl⟩
  · exact ⟨_,h,b,rfl,by simp⟩
  · exact ⟨_,h,_,rfl,by simp⟩) hu
end
end C
end
noncomputable section
set_option linter.all false
set_option maxRecDepth 100000
set_option maxHeartbeats 4000002
set_option autoImplicit false
namespace C
open PySem PySem.Spec PyProof.Rows L2
noncomputable def a9c (K:PySem.W.Frag) (ar:Nat) (F:Fn):Sp:=fun vs H Q _=>∃ S as sto ts t sto',Same S H∧Iz K S as H sto∧uc K S as vs ts∧ts.length=ar∧F ts sto=some (t,sto') ∧
  ∀ p H' S' as',aah ⟨S,as,H⟩ S' as' H'→Same S' H'→Iz K S' as' H' sto'→T9 K ⟨S,as,H⟩ S' as' H' p t→Q (.ref p) H'
inductive aa9 (K:PySem.W.Frag) (B:Bas) (s:S) (D:Ends) (σ:L2.St) (H:Hp):Prop
  | mk (st:Sta) (ps:List (V × T)) (S0:Hp) (as:List Addr) (R:Rel K B st σ H ps S0 as) (t:T) (st':Sta) (e:s st=some (.ret t,st')) (q:∀ p σ' H' S' as',Rel K B st' σ' H' ps S' as'→T9 K B S' as' H' p t→D.rt (.ref p) H')
theorem a6g {u v:S} {s s':Sta} {t:T} (h:jd (sNx u) v s=some (.ret t,s')):∃ s1,u s=some (.next,s1)∧v s1=some (.ret t,s'):=by
  unfold jd sNx at h
  cases e:u s with
  | none=>rw [e] at h; cases h
  | some p =>
    obtain ⟨fl,s1⟩:=p
    rw [e] at h
    cases fl <;> first | exact ⟨s1,rfl,h⟩ | cases h
theorem T8 {i:Nat} {s s':Sta} {t:T} (h:qy i s=some (.ret t,s')):s.env[i]? = some (some (t,true))∧s'=s:=by
  unfold qy at h
  split at h
  · rename_i t' e; cases h; exact ⟨e,rfl⟩
  · cases h
theorem a76 {g:G} {m:M T} {s s':Sta} {fl:Flow} (h:sGo g m s=some (fl,s')):∃ t s1,m s=some (t,s1)∧g t s1=some s'∧fl=.next:=by
  unfold sGo at h
  split at h
  · rename_i t s1 e
    split at h
    · rename_i s2 e2; cases h; exact ⟨t,s1,e,e2,rfl⟩
    · cases h
  · cases h
noncomputable def a1m (v:S):Prop:=∀ s s',v s≠some (.next,s')
theorem Vk (i:Nat):a1m (qy i):=fun s s' h=>by
  unfold qy at h
  split at h <;> cases h
theorem Ag {u v:S} (h:a1m v):a1m (jd u v):=fun s s' e=>by
  unfold jd at e
  split at e
  · exact h _ _ e
  · rename_i hn; exact hn _ e
noncomputable section
variable {X:Cx} {B:Bas} {a b c e:Expr} {m m1 m2:M T} {pos p:Pos} {u v:S} {es:List Expr} {ms:M (List T)} {k n:Nat} {f:Addr} {fd:FuncData} {pn:List Str} {F:Fn} {x:Str}
theorem Af {st:Stmt} {rest:List Stmt} (h1:PS X st (sOf X.K B u)) (h2:PSs X rest (aa9 X.K B v)):PSs X (st::rest) (aa9 X.K B (jd (sNx u) v)):=(Uo h1 h2).imp fun D σ H z9=>by
  obtain ⟨st,ps,S,as,R,t,st',e,q⟩:=z9
  obtain ⟨s1,e1,e2⟩:=a6g e
  exact ⟨st,ps,S,as,R,.next,s1,e1,fun σ' H' S' as' R'=>⟨s1,ps,S',as',R',t,st',e2,q⟩⟩
theorem Y8 (i:Nat) (he:PE X e (a3s i)):PSs X [.Return (some e) pos] (aa9 X.K B (qy i)):=(Yi (a4b he)).imp fun D σ H z9=>by
  obtain ⟨st,ps,S,as,R,t,st',e,q⟩:=z9
  obtain ⟨e1,rfl⟩:=T8 e
  obtain ⟨v,h1,_,h3⟩:=R.slots i t true e1
  obtain ⟨p,rfl,o⟩:=h3 rfl
  exact ⟨_,h1,q p σ H S as R o⟩
theorem a9m {g:G} {s:Stmt} (h:PS X s (a7e (tOf X.K B m) (gOf X.K B g))):PS X s (sOf X.K B (sGo g m)):=h.imp fun D σ H z9=>by
  obtain ⟨st,ps,S,as,R,fl,st',e,q⟩:=z9
  obtain ⟨t,s1,e1,e2,rfl⟩:=a76 e
  exact ⟨st,ps,S,as,R,t,s1,e1,fun v H' S' as' R'=>⟨s1,ps,S',as',t,R',st',e2,fun σ' H'' S'' as'' R''=>q σ' H'' S'' as'' R''⟩⟩
theorem Ul {is:List Nat} {env:List Slot} {j:Nat} {t:T} {f:Bool} (h:(lend is env)[j]? = some (some (t,f))):f=false∧∃ g,env[j]? = some (some (t,g))∧(g=true→j∈is):=by
  unfold lend at h
  rw [List.getElem?_mapIdx] at h
  obtain ⟨x,e1,e2⟩:=Option.map_eq_some_iff.mp h
  cases x with
  | none=>cases e2
  | some p =>
    obtain ⟨t',g⟩:=p
    dsimp only at e2
    cases g with
    | false=>simp at e2; obtain ⟨rfl,rfl⟩:=e2; exact ⟨rfl,false,e1,fun z=>by cases z⟩
    | true =>
      by_cases hj:j∈is
      · simp [hj] at e2; obtain ⟨rfl,rfl⟩:=e2; exact ⟨rfl,true,e1,fun _=>hj⟩
      · simp [hj] at e2
end
noncomputable def Gd (P:Program) (w:World) (K:PySem.W.Frag) (mg:Str→Option Value) (base:Heap) (x:Str) (k:Nat) (ps:List Str) (F:Fn):Prop :=
  ∃ f fd,yh P w K mg base CX0 k f fd ps (a9c K ps.length F)∧Binds K fd ps []∧PySem.W.keepIn K (.ref f)=true∧mg x=some (.ref f)
theorem Gd.mono {P:Program} {w:World} {K:PySem.W.Frag} {mg:Str→Option Value} {base:Heap} {x:Str} {j k:Nat} {ps:List Str} {F:Fn} (d:Gd P w K mg base x j ps F) (h:j≤k):Gd P w K mg base x k ps F:=by
  obtain ⟨f,fd,h1,h2⟩:=d
  exact ⟨f,fd,h1.mono h,h2⟩
noncomputable section
variable {X:Cx} {B:Bas} {a b c e:Expr} {m m1 m2:M T} {pos p:Pos} {es:List Expr} {ms:M (List T)} {n:Nat} {pn:List Str} {F:Fn} {x:Str}
theorem W2 (D:Gd X.prog X.w X.K X.mg X.base x n pn F) (hr:K3 n X.A) (hg:Gl X x)
    (ha:PA X (e::es) (aOf X.K B ms)) (hl:∀ st ts st',ms st=some (ts,st')→ts.length=pn.length) (hdb:(x==("__debug__" : Str))=false:=by decide)
    (he:starEach (e::es) X.env=(false,eval e X.env)::starEach es X.env:=by rfl) (hpl:(backTo pos (starEach es X.env)).any (·.1)=false:=by rfl) :
    PE X (.Call (.Name x p) (e::es) [] pos) (fOf X.K B (dw F ms)):=by
  obtain ⟨f,fd,G,hb,hk,hm⟩:=D
  refine (Yu G hr hg hm hk hb .nil a93 ha hdb he hpl).imp fun σ H Q z0=>?_
  obtain ⟨st,ps,S,as,R,t,st',e,q⟩:=z0
  obtain ⟨ts,s1,sto,e1,e2,rfl⟩:=Qp e
  refine ⟨st,ps,S,as,R,ts,s1,e1,fun vs H1 S1 as1 R1 rs=>?_⟩
  show a9c X.K pn.length F (vs++[]) H1 Q E0
  rw [List.append_nil]
  exact ⟨S1,as1,s1.sto,ts,t,sto,R1.sub,R1.sto,rs,hl _ _ _ e1,e2,fun p H2 S2 as2 g sub so o=>by
    obtain ⟨b1,b2,b3,b4⟩:=R1.fresh o.new
    exact q p H2 S2 as2 (R1.call g sub so) ⟨o.own,o.out,o.nas,b1⟩ b4⟩
end
noncomputable section
variable {P:Program} {w:World} {K:PySem.W.Frag} {mg:Str→Option Value} {base:Heap}
theorem Vm {x qual:Str} {st:Stmt} {f:Addr} {fd:FuncData} {N ps:List Str} {k:Nat} {b:S} (F:Fun K x qual st f fd) (Sc:jg N ps (gw st)) (hN:ps.length≤N.length) (he:a1m b)
    (hb:∀ (cdv:Value) (A:Around) (outer:List Env) (s:Shared) (H:Hp) (E:XK) (B:Bas),K3 k (A.deeper (envOfC qual (gw st) s.heap.objs.size f cdv)) →
      PSs (a4k CX0 P w K mg base N qual (gw st) f cdv A outer s H E).nox (Bg st) (aa9 K B b)):yh P w K mg base CX0 (k+1) f fd ps (a9c K ps.length (jo N.length b)):=by
  refine F.ok Sc (fun vs H Q E h=>?_) fun cdv A outer s H vs Q E hr h=>?_
  · obtain ⟨S,as,sto,ts,t,sto',h1,h2,h3,h4,_⟩:=h
    rw [h3.length,h4]
  · obtain ⟨S,as,sto,ts,t,sto',h1,h2,h3,h4,h5,q⟩:=h
    refine ⟨_,hb cdv A outer s H E ⟨S,as,H⟩ hr,?_⟩
    have lv:vs.length=ps.length:=by rw [h3.length,h4]
    have R:Rel K ⟨S,as,H⟩ ⟨ts.map (fun t=>some (t,false))++List.replicate (N.length - ts.length) none,sto⟩ (L2.start N vs) H [] S as:=Qu h1 h2 h3 (by rw [h4]; exact hN)
    unfold jo at h5
    split at h5
    · rename_i t' s' e
      cases h5
      exact ⟨_,[],S,as,R,t,s',e,fun p σ' H' S' as' R' o=>q p H' S' as' R'.grow R'.sub R'.sto o⟩
    · rename_i s' e
      exact absurd e (he _ _)
    · cases h5
end
end C
end
noncomputable section
set_option linter.all false
set_option maxRecDepth 100000
set_option maxHeartbeats 4000002
set_option autoImplicit false
namespace C
open PySem PySem.Spec PyProof.Rows L2
noncomputable section
variable {X:Cx} {B:Bas} {a b c e:Expr} {m m1 m2:M T} {pos p p2 pos2:Pos}
theorem Ext.junk {S H:Hp} (h:Same S H) {p:Addr} (n:H p=none) (o:HO):Ext S H S (upd H p o) :=
  ⟨Same.refl _,Same.upd n o,fun b u q=>(Same.upd n o) _ _ (h _ _ q),fun _ q=>.inl q⟩
noncomputable def aeo (ta:TA):TE:=fun σ H Q=>ta σ H fun vs H1=>∃ j:Int,vs=[.int j]∧∀ r,H1 r=none→Q (.ref r) (upd H1 r (.rng 0 j))
theorem aa2 {ta:TA} (hg:Gl X "range") (hm:X.mg "range" = none) (ha:PA X [a] ta) (hs:starEach [a] X.env=[(false,eval a X.env)]:=by rfl):PE X (.Call (.Name "range" p) [a] [] pos) (aeo ta):=by
  intro pins s σ H Q I h
  refine Call_ (Ml I hg hm boot_range (PyProof.Rows.callWith_type1 (thn (ha pos pins s σ H _ I h) fun us s1 z0=>?_) hs rfl))
  obtain ⟨vs,H1,I1,r1,q1⟩:=z0
  obtain ⟨j,e,q⟩:=q1
  subst e
  cases r1 with
  | cons r rr =>
    cases rr
    obtain ⟨t,rfl⟩:=r
    refine call_range_1 ⟨.ref s1.heap.objs.size,upd H1 s1.heap.objs.size (.rng 0 j),I1.laid (fun b u e=>Heap.get?_push_of_some _ e) (Nat.le_refl _) ⟨_,_,_,Heap.get?_push_size _ rfl⟩,rfl,q _ (I1.hok.fresh (Nat.le_refl _))⟩
noncomputable def rLR (xs:List V) (H:Hp) (Q:VK):Prop:=∃ r j,xs=[.ref r]∧H r=some (.rng 0 j)∧(-1000000<j∧j<1000000)∧∀ l,H l=none→Q (.ref l) (upd H l (.lst ((List.range j.toNat).map fun (k:Nat)=>V.int (k:Int))))
theorem Wo (hc:X.calm=true):Fo X (.type "list") rLR:=by
  intro pins s σ H xs us Q I rs z8
  obtain ⟨r,j,ex,hr,hj,q⟩:=z8
  subst ex
  obtain ⟨u,rfl,ru⟩:=rs.one
  cases ru
  obtain ⟨t,u,v,er⟩:∃ t u v,s.heap.get? r=some { cls:=.type "range",data:=.fields #[.int 0 t,.int j u,.int 1 v] }:=(Rd.ok (.inl hr) I.hok)
  have hn:Builtin.Range.rangeSize 0 j 1=(j.toNat:Int):=by rw [rangeSize_one]; split <;> (clear er rs q hj hr I hc; omega)
  refine call_list_range (n:=j.toNat) (I.ok.hd hc) er (small_one (by (clear hn er rs q hj hr I hc; omega)) (by (clear hn er rs q hj hr I hc; omega)) (by (clear hn er rs q hr I hc; omega)) (by (clear hn er rs q hr I hc; omega))) hn (by (clear hn er rs q hr I hc; omega)) fun h' tk acc c' hk hS hacc=>?_
  have hl:((List.range j.toNat).map fun (k:Nat)=>V.int (k:Int)).length≤sizeLine:=by
    rw [List.length_map,List.length_range,sizeLine_eq]; (clear hacc hS hk hn er rs q hr I hc; omega)
  have hv:Vals ((List.range j.toNat).map fun (k:Nat)=>V.int (k:Int)) acc.toList:=by
    obtain ⟨n1,n2⟩:=hacc
    have gen:∀ (us:List Value) (k:Nat),(∀ (i:Nat) (v:Value),us[i]? = some v→∃ t,v=Value.int ((k+i:Nat):Int) t)→Vals ((List.range' k us.length).map fun (k:Nat)=>V.int (k:Int)) us:=by
      intro us
      induction us with
      | nil=>intro k _; exact .nil
      | cons x us ih =>
        intro k h
        rw [List.length_cons,List.range'_succ,List.map_cons]
        refine .cons ?_ (ih (k+1) fun i v e=>?_)
        · exact h 0 x rfl
        · have:=h (i+1) v (by simpa using e)
          rw [show k+1+i=k+(i+1) by (clear this e h ih n2 n1 hl hS hk hn er rs q hj hr I hc; omega)]; exact this
    have:=gen acc.toList 0 (fun i v e=>by
      obtain ⟨t,e'⟩:=n2 i v (by rw [← Array.getElem?_toList]; exact e)
      exact ⟨t,by rw [e']; congr 1; (clear e' e gen n2 n1 hl hS hk hn er rs q hj hr I hc; omega)⟩)
    rw [Array.length_toList,n1,← List.range_eq_range'] at this
    exact this
  exact ⟨.ref s.heap.objs.size,_,I.laid (a:=s.heap.objs.size) (o:=.lst ((List.range j.toNat).map fun (k:Nat)=>V.int (k:Int))) (h':=h') (t':=tk) hk (Nat.le_refl _) ⟨hl,acc.toList,c',hv,hS⟩,rfl,q _ (I.hok.fresh (Nat.le_refl _))⟩
theorem Qy {K:PySem.W.Frag} {S:Hp} {as:List Addr}:∀ l:List Nat,uc K S as (l.map fun (k:Nat)=>V.int (k:Int)) (l.map fun (k:Nat)=>T.int (k:Int))
  | []=>.nil
  | x::l=>.cons (.int x) (Qy l)
theorem a0r (hc:X.calm=true) (hg:Gl X "list") (hm:X.mg "list" = none) (hg2:Gl X "range") (hm2:X.mg "range" = none) (ha:PE X a (tOf X.K B m)) (hs:starEach [a] X.env=[(false,eval a X.env)]:=by rfl)
    (he:starEach [.Call (.Name "range" p2) [a] [] pos2] X.env=(false,eval (.Call (.Name "range" p2) [a] [] pos2) X.env)::starEach [] X.env:=by rfl) (hpl:(backTo pos (starEach [] X.env)).any (·.1)=false:=by rfl) :
    PE X (.Call (.Name "list" p) [.Call (.Name "range" p2) [a] [] pos2] [] pos) (tOf X.K B (iz N8 (ak m dh))):=by
  refine (v7 (Wo hc) hg hm PyProof.Rows.boot_list (qz (aa2 hg2 hm2 (qz ha wu hs) hs) wu he) (by decide) (by decide) he hpl).imp fun σ H Q z0=>?_
  obtain ⟨st,ps,S,as,R,t,st',e,q⟩:=z0
  obtain ⟨ts,e1,e2⟩:=Bl e
  obtain ⟨t1,s1,us,ea,en,rfl⟩:=yc e1
  cases en
  cases t1 <;> first | exact jh e2 | skip
  rename_i n
  obtain ⟨hn',e2⟩:=yd e2
  have hn:-1000000<n∧n<1000000:=by have:n.natAbs<1000000:=hn'; (clear e2 hn' ea e1 q e R hpl he hs ha hm2 hg2 hm hg hc; omega)
  cases e2
  refine ⟨st,ps,S,as,R,_,_,ea,fun v H1 S1 as1 R1=>?_⟩
  cases R1.top
  refine ⟨n,rfl,fun r hr=>⟨r,n,rfl,jf,hn,fun l hl=>?_⟩⟩
  have x1:=Ext.junk R1.sub hr (.rng 0 n)
  have x2:=Ext.laid x1.sub hl (.lst ((List.range n.toNat).map fun (k:Nat)=>V.int (k:Int)))
  exact q _ _ _ _ (((R1.drop.ext x1).ext x2).push (.lst (SqL.of jf) (Qy _)))
noncomputable def Xp:List Nat→TGs
  | []=>adl
  | i::is=>a8y (Ox i) (Xp is)
theorem W9 {K:PySem.W.Frag} {H S:Hp} {as:List Addr} {ps:List (V × T)}:∀ (is:List Nat) {vs:List V} {xs:List T} {st:Sta} {σ:L2.St} {Q:L2.St→Hp→Prop},Rel K B st σ H ps S as→uc K S as vs xs→xs.length=is.length →
    (∀ σ',Rel K B ((is.zip xs).foldl (fun s p=>j8 p.1 p.2 false s) st) σ' H ps S as→Q σ' H)→Xp is vs σ H Q
  | [],_,_,_,_,_,R,.nil,_,q=>⟨rfl,q _ R⟩
  | i::is,_,_,_,_,_,R,.cons r rs,hl,q=>⟨_,_,rfl,W9 is (R.put (i:=i) r) rs (by simpa using hl) q⟩
  | [],_,_,_,_,_,_,.cons _ _,hl,_=>by simp at hl
  | _::_,_,_,_,_,_,_,.nil,hl,_=>by simp at hl
theorem yp {is:List Nat} {tg:Expr} (h:PG X tg (ady X.K is.length (Xp is))):PG X tg (gOf X.K B (wz is)):=fun pins s σ H x u Q I r z9=>h pins s σ H x u Q I r (by
  obtain ⟨st,ps,S,as,t,R,st',e,q⟩:=z9
  have top:=R.top
  cases t with
  | tup xs =>
    cases top with
    | @tup a vs _ g1 g2 =>
      obtain ⟨hl,e⟩:=yd e
      cases e
      exact ⟨a,vs,rfl,n8 R.sub g1,by rw [g2.length]; exact hl,W9 is R.drop g2 hl fun σ' R'=>q σ' H S as R'⟩
  | _=>exact jh e)
end
end C
namespace C
open PySem PySem.Spec PyProof.Rows L2
end C
end
noncomputable section
set_option linter.all false
set_option maxRecDepth 100000
set_option maxHeartbeats 4000002
set_option autoImplicit false
namespace C
open PySem PySem.Spec PyProof.Rows L2
noncomputable section
variable {X:Cx} {B:Bas} {a b c e lo hi:Expr} {m m1 m2 ml mh:M T} {pos p p2:Pos}
theorem uc.take {K:PySem.W.Frag} {S:Hp} {as:List Addr}:∀ (n:Nat) {vs:List V} {ts:List T},uc K S as vs ts→uc K S as (vs.take n) (ts.take n)
  | 0,_,_,_=>.nil
  | _+1,_,_,.nil=>.nil
  | n+1,_,_,.cons h r=>.cons h (uc.take n r)
end
end C
end
noncomputable section
set_option linter.all false
set_option maxRecDepth 100000
set_option maxHeartbeats 4000002
set_option autoImplicit false
namespace C
open PySem PySem.Spec PyProof.Rows L2
theorem uc.set {K:PySem.W.Frag} {S:Hp} {as:List Addr} {v:V} {t:T} (h:Rep K S as v t):∀ {vs:List V} {ts:List T} (j:Nat),uc K S as vs ts→uc K S as (vs.set j v) (ts.set j t)
  | _,_,_,.nil=>.nil
  | _,_,0,.cons _ r=>.cons h r
  | _,_,j+1,.cons q r=>.cons q (uc.set h j r)
noncomputable section
variable {X:Cx} {B:Bas} {a b c e o k:Expr} {m mo mk mv:M T} {pos p:Pos}
end
end C
end
noncomputable section
set_option linter.all false
set_option maxRecDepth 100000
set_option maxHeartbeats 4000002
set_option autoImplicit false
namespace C
open PySem PySem.Spec PyProof.Rows L2
noncomputable section
variable {X:Cx} {B:Bas} {pins:List (Addr × Obj)} {σ:L2.St} {H S:Hp} {s:Shared} {as:List Addr} {Q:VK}
theorem gather {R:List Value→Shared→Prop} {A:Around} {E:Value→Shared→Prop} {T:String} {r d:Addr} {n:Nat} {P:Nat→Value→Prop} {OK:Heap→Prop} (KS:PySem.W.KdlSrc X.prog X.w T r d n P OK) (nh:A.handled=none) (ok0:OK s.heap) (sz:n≤sizeLine)
    (k:∀ (h1:Heap) (tk:Nat) (got:Array Value),s.heap.objs.size<h1.objs.size→(∀ b o,s.heap.get? b=some o→h1.get? b=some o)→ItemsOf P got n→R got.toList { s with heap:=h1,toks:=tk }) :
    wpAny (model X.prog X.w) A (collect (.ref r)) R E s:=by
  have lt0:=KS.there _ ok0
  unfold collect
  refine wpAny_bind (wpAny_runValue
    (codeAny_builtin entry_proto_collect' ?_))
  rw [Around.under_plainId
    PySem.F.plain_proto_collect _]
  show wpAny _ A.in1 (newList [] >>= fun z=>again (.builtin "list.__iadd__" ⟨[z,.ref r],[]⟩)) _ _ s
  refine wpAny_bind (wpAny_newObj_type (wpAny_pure ⟨plainId_quiet PySem.F.plain_list_iadd _,codeAny_builtin entry_list_iadd' ?_⟩))
  rw [Around.under_plainId
    PySem.F.plain_list_iadd _]
  change wpAny _ A.in1 (Builtin.List.listExtendWith (.ref s.heap.objs.size) (.ref r) (.ref s.heap.objs.size)) _ _ _
  have new0:(s.heap.push { cls:=.type "list",data:=.seq ([]:List Value).toArray }).get? s.heap.objs.size=some { cls:=.type "list",data:=.seq #[] }:=Heap.get?_push_size _ rfl
  have walk:=PySem.W.kdl_extend (A:=A) (s:={ s with heap:=s.heap.push { cls:=.type "list",data:=.seq ([]:List Value).toArray } })
    (R:=fun (f:Result) (s1:Shared)=>∃ (h1:Heap) (tk:Nat) (got:Array Value) (c1:Nat),f=.ok (.ret (.ref s.heap.objs.size))∧s1 = { s with heap:=h1,toks:=tk }∧(∀ b o,s.heap.get? b=some o→h1.get? b=some o) ∧
      h1.get? s.heap.objs.size=some { cls:=.type "list",dict:=none,data:=.seq got c1,slots:=#[] }∧ItemsOf P got n)
    KS nh (KS.keep _ _ ok0 fun b _ o e=>Heap.get?_push_of_some _ e) s.heap.objs.size (Nat.ne_of_gt lt0.1) (Nat.ne_of_gt lt0.2) (.ref s.heap.objs.size) 0 new0
    (fun h1 tk got c1 old at1 its=>⟨h1,tk,got,c1,rfl,rfl,fun b o e=>old b o (Nat.ne_of_lt (Heap.lt_size e)) (Heap.get?_push_of_some _ e),at1,its⟩) sz
  have last:∀ (h1:Heap) (tk:Nat) (got:Array Value) (c1:Nat),(∀ b o,s.heap.get? b=some o→h1.get? b=some o)→h1.get? s.heap.objs.size=some { cls:=.type "list",dict:=none,data:=.seq got c1,slots:=#[] }→ItemsOf P got n →
      wpAny (model X.prog X.w) A (load s.heap.objs.size >>= fun o=>match o.data with | .seq xs _=>pure xs.toList | _=>unsupported "internal:collect") R E { s with heap:=h1,toks:=tk } :=
    fun h1 tk got c1 old at1 its=>wpAny_bind (wpAny_load at1 (wpAny_pure (k h1 tk got (Heap.lt_size at1) old its)))
  refine wpAny_mono walk (fun fin s1 x=>?_) fun e s1 x=>?_
  · cases fin with
    | done f =>
      obtain ⟨h1,tk,got,c1,ef,rfl,old,at1,its⟩:=x
      cases ef
      exact last h1 tk got c1 old at1 its
    | again c =>
      refine ⟨x.1,codeAny_mono x.2 fun f s2 y=>?_⟩
      obtain ⟨h1,tk,got,c1,rfl,rfl,old,at1,its⟩:=y
      exact last h1 tk got c1 old at1 its
  · obtain ⟨_,_,_,_,ef,_⟩:=x
    cases ef
theorem Za {T:String} {r d:Addr} {n:Nat} {P:Nat→Value→Prop} {OK:Heap→Prop} {l:List Str} (KS:PySem.W.KdlSrc X.prog X.w T r d n P OK) (hc:X.calm=true) (I:L2.Inv X pins σ H s) (sub:Same S H) (hok:OK s.heap) (h64:n<64)
    (hi:∀ vs:List Value,vs.length=n→(∀ (j:Nat) (v:Value),vs[j]? = some v→P j v)→∃ l',StrsAre vs l'∧l'.Perm l)
    (q:∀ v H' S',Ext S H S' H'→Rep X.K S' as v (.lst ((Ci l).map .str))→Q v H'):wpAny (model X.prog X.w) X.A (call (.builtin "sorted") [.ref r]) (EP X pins σ Q) X.xe s:=by
  have hn:n≤sizeLine:=Nat.le_trans (Nat.le_of_lt h64) (by rw [sizeLine_eq]; decide)
  refine Calls.call_function_entry kind_sorted plain_sorted
    entry_sorted (args_sorted1 _) ?_
  unfold Builtin.«sorted»
  refine wpAny_bind (m:=checkCount "sorted" 1 1 _) (wpAny_pure (wpAny_bind ?_))
  refine (gather (A:=X.A.in1) KS (show X.A.in1.handled=none from I.ok.hd hc) hok hn fun h' tk acc hlt hk hacc=>?_)
  have hl:acc.toList.length=n:=Array.length_toList.trans hacc.1
  obtain ⟨l',hS,hp⟩:=hi acc.toList hl fun j v e=>hacc.2 j v (by rw [← Array.getElem?_toList]; exact e)
  refine wpAny_bind (wpAny_newList ?_ (hl ▸ hn))
  have hoL:(h'.push (seqObj "list" acc.toList.toArray 0)).get? h'.objs.size=some (seqObj "list" acc.toList.toArray 0):=Heap.get?_push_size _ rfl
  refine wpAny_bind (wpAny_holding (wpAny_call_entry slot_list_sort ⟨_,hoL,rfl⟩ entry_list_sort (list_sort_treeK strKind_oneLt hoL hS.keysOf (fun v₁ v₂ rest e=>keyKind_strs (by rw [← e]; exact hS)) (by rw [hl]; exact h64) fun st' a1 a2=>⟨_,rfl,?_⟩) (args_list_sort _)))
  refine wpAny_pure ⟨_,rfl,(?_:EP X pins σ Q _ _)⟩
  obtain ⟨ss',b1,b2,b3⟩:=sorted_out_str hS a1 a2
  have es:=V7 b3 (b2.trans hp)
  subst es
  have hle:=Nat.le_of_lt hlt
  obtain ⟨e,he⟩:=sortedHeap_at (out:=(arrOf st').map (·.2)) hoL
  have hsz:(List.map V.str (Ci l)).length≤sizeLine:=by
    rw [List.length_map,(Hf l).length_eq,← hp.length_eq,← hS.length,hl]
    exact hn
  have hnn:H h'.objs.size=none:=I.hok.fresh hle
  have x:=Ext.laid sub hnn (.lst ((Ci l).map V.str))
  refine ⟨.ref h'.objs.size,_,I.laid (a:=h'.objs.size) (o:=.lst ((Ci l).map V.str)) (t':=tk) (fun b u eb=>?_) hle ⟨hsz,_,e,Om b1,he⟩,rfl,q _ _ _ x (.lst (SqL.of jf) (Js _))⟩
  have hb:=Heap.lt_size (hk _ _ eb)
  rw [sortedHeap_old (Nat.ne_of_lt hb) (by rw [Heap.size_push]; exact Nat.lt_succ_of_lt hb)]
  exact Heap.get?_push_of_some _ (hk _ _ eb)
theorem Oq:∀ {kvs:List (L2.Key × V)} {ts:List (L2.Key × T)} {l:List Str},kvs.map (·.1)=ts.map (·.1)→J3 (ts.map fun p=>X8 p.1)=some l→kvs.map (·.1)=l.map Sum.inr
  | [],[],l,_,h=>by simp only [List.map_nil,J3] at h; cases h; rfl
  | (k,v)::kvs,(k2,t)::ts,l,e,h=>by
    simp only [List.map_cons,List.cons.injEq] at e
    obtain ⟨e1,e2⟩:=e
    subst e1
    cases k with
    | inl i=>simp only [List.map_cons,X8,J3,reduceCtorEq] at h
    | inr x =>
      simp only [List.map_cons,X8,J3] at h
      obtain ⟨l',h1,h2⟩:=Option.map_eq_some_iff.mp h
      subst h2
      rw [List.map_cons,List.map_cons,Oq e2 h1]
theorem Bs.keys {K:PySem.W.Frag} {S:Hp} {as:List Addr}:∀ {kvs:List (L2.Key × V)} {ts:List (L2.Key × T)},Bs K S as kvs ts→kvs.map (·.1)=ts.map (·.1)
  | _,_,.nil=>rfl
  | _,_,.cons h q=>by rw [List.map_cons,List.map_cons,Bs.keys q]
theorem Ig {prog:Program} {w:World}:∀ {vs:List (L2.Key × Value)} {us:List Value} {l:List Str},vs.map (·.1)=l.map Sum.inr→us.length=vs.length→(∀ (j:Nat) (v:Value),us[j]? = some v→∃ k x,vs[j]? = some (k,x)∧(nj prog w).is k v=true)→StrsAre us l
  | [],us,l,e,hl,h=>by
    cases us with
    | cons _ _=>simp at hl
    | nil=>cases l with
      | nil=>exact .nil
      | cons _ _=>simp at e
  | (k,x)::vs,us,l,e,hl,h=>by
    cases us with
    | nil=>simp at hl
    | cons u us =>
      cases l with
      | nil=>simp at e
      | cons y l =>
        simp only [List.map_cons,List.cons.injEq] at e
        obtain ⟨e1,e2⟩:=e
        subst e1
        obtain ⟨k',x',h1,h2⟩:=h 0 u rfl
        simp only [List.getElem?_cons_zero,Option.some.injEq,Prod.mk.injEq] at h1
        obtain ⟨rfl,rfl⟩:=h1
        rw [Wd] at h2
        have hu:∃ t,u=.str y t:=by
          rcases u5 h2 with ⟨i,t,e',_⟩ | ⟨z,t,e',hz⟩
          · cases e'
          · cases e'; exact ⟨t,hz⟩
        obtain ⟨t,rfl⟩:=hu
        exact .cons y t (Ig e2 (by simpa using hl) fun j v ev=>by simpa using h (j+1) v (by simpa using ev))
theorem Qg (hc:X.calm=true):R7 X (.builtin "sorted") Tj:=by
  intro pins s σ H xs us Q I rs z8
  obtain ⟨S,as,ts,w,sub,hr,hf,q⟩:=z8
  cases hr with
  | nil=>exact jh hf
  | @cons x t xs' ts' h1 h2 =>
    cases h2 with
    | cons h3 h4=>cases h1 <;> exact jh hf
    | nil =>
      cases h1 with
      | @lst a vs ts g1 g2 =>
        obtain ⟨h64,hf⟩:=yd hf
        obtain ⟨l,e1,e2⟩:=Option.map_eq_some_iff.mp hf
        subst e2
        exact Np pins s σ H _ us Q I rs ⟨S,as,ts,l,sub,.cons (.lst g1 g2) .nil,h64,e1,q⟩
      | @dic a kvs ts g1 g2 =>
        obtain ⟨h64,hf⟩:=yd hf
        obtain ⟨l,e1,e2⟩:=Option.map_eq_some_iff.mp hf
        subst e2
        obtain ⟨u,rfl,ru⟩:=rs.one
        cases ru
        obtain ⟨z,hd,vs,rel,dd⟩:=Ia I.hok (vd sub g1)
        obtain ⟨ep,hat⟩:=dd.dictAt
        have hlen:vs.length=ts.length:=by rw [← rel.length]; exact g2.length
        have hk:=Oq g2.keys e1
        rw [KV.keys rel] at hk
        exact Za (PySem.W.kdl_dict (knd:=nj X.prog X.w) (kvs:=vs) (ep:=ep) hd) hc I sub hat (by rw [hlen]; exact h64) (fun us hl hp=>⟨l,Ig hk hl hp,.refl _⟩) q
      | _=>exact jh hf
end
end C
end
noncomputable section
set_option linter.all false
set_option maxRecDepth 100000
set_option maxHeartbeats 4000002
set_option autoImplicit false
namespace C
open PySem PySem.Spec PyProof.Rows L2
noncomputable section
variable {prog:Program} {w:World} {A:Around} {E:Value→Shared→Prop} {s:Shared}
theorem Lw:typeLookup (.type "list") "keys" = pure none:=am_miss_of_fast (by decide +kernel)
theorem Yv {l:Addr} {xs:Array Value} {k:Nat} {sl:Array (Option Value)} {Q:Option Value→Shared→Prop} (hx:s.heap.get? l=some { cls:=.type "list",dict:=none,data:=.seq xs k,slots:=sl }) (nh:A.handled=none)
    (h:∀ h' tk e,Heap.NewExcOf s.heap h' e "AttributeError" → Q none { s with heap:=h',toks:=tk }):wpAny (model prog w) A (getAttr? (.ref l) "keys") Q E s:=by
  obtain ⟨h0,g0,d0,tk,os⟩:=s
  have hT:∀ tk',(⟨h0,g0,d0,tk',os⟩:Shared).TypeIs (.ref l) "list" := fun _=>⟨_,hx,rfl⟩
  have g1:=sub_AttributeError
  have g3:=F.slot_list_getattribute.lookup
  have g4:=F.slot_list_getattribute.bind (.ref l)
  have g5:=am_list_getattr_none
  unfold getAttr?
  unfold getAttrBy?
  unfold getAttrBy
  repeat (any_goals (first | assumption | exact hT _ | ((with_reducible show wpAny _ _ (call (Value.builtin "list.__getattribute__") _ _) _ _ _); refine call_meets F.slot_list_getattribute (hT _) am_entry_list_getattribute (F.args_list_getattribute_2 _ _) (meets_getattribute_miss_list l xs k sl "keys" _ Lw (by decide +kernel)) ⟨hx,nh,fun h' tk' e y=>?_⟩) | wp_step))
  obtain ⟨t',u',he⟩:=y.there
  change wpAny _ _ (getattributeRaised _ _ _ _ _ _ _) _ _ _
  unfold getattributeRaised
  repeat (any_goals first | assumption | wp_step)
  exact h _ _ _ y.of
theorem K9:typeLookup (.type "tuple") "keys" = pure none:=am_miss_of_fast (by decide +kernel)
theorem Wy {l:Addr} {xs:Array Value} {k:Nat} {sl:Array (Option Value)} {Q:Option Value→Shared→Prop} (hx:s.heap.get? l=some { cls:=.type "tuple",dict:=none,data:=.seq xs k,slots:=sl }) (nh:A.handled=none)
    (h:∀ h' tk e,Heap.NewExcOf s.heap h' e "AttributeError" → Q none { s with heap:=h',toks:=tk }):wpAny (model prog w) A (getAttr? (.ref l) "keys") Q E s:=by
  obtain ⟨h0,g0,d0,tk,os⟩:=s
  have hT:∀ tk',(⟨h0,g0,d0,tk',os⟩:Shared).TypeIs (.ref l) "tuple" := fun _=>⟨_,hx,rfl⟩
  have g1:=sub_AttributeError
  have g3:=F.slot_tuple_getattribute.lookup
  have g4:=F.slot_tuple_getattribute.bind (.ref l)
  have g5:=am_tuple_getattr_none
  unfold getAttr?
  unfold getAttrBy?
  unfold getAttrBy
  repeat (any_goals (first | assumption | exact hT _ | ((with_reducible show wpAny _ _ (call (Value.builtin "tuple.__getattribute__") _ _) _ _ _); refine call_meets F.slot_tuple_getattribute (hT _) am_entry_tuple_getattribute (F.args_tuple_getattribute_2 _ _) (meets_getattribute_miss_tuple l xs k sl "keys" _ K9 (by decide +kernel)) ⟨hx,nh,fun h' tk' e y=>?_⟩) | wp_step))
  obtain ⟨t',u',he⟩:=y.there
  change wpAny _ _ (getattributeRaised _ _ _ _ _ _ _) _ _ _
  unfold getattributeRaised
  repeat (any_goals first | assumption | wp_step)
  exact h _ _ _ y.of
end
end C
end
noncomputable section
set_option linter.all false
set_option maxRecDepth 100000
set_option maxHeartbeats 4000002
set_option autoImplicit false
namespace C
open PySem PySem.Spec PyProof.Rows L2
theorem Ud {prog:Program} {w:World} {A:Around} {E:Value→Shared→Prop} {s:Shared} {t:Addr} {o:Obj} {xs:Array Value} {m:Nat} {Q:Option (Array Value)→Shared→Prop} (h:s.heap.get? t=some o) (hd:o.data=.seq xs m) (q:Q (some xs) s):wpAny (model prog w) A (seqItems? (.ref t)) Q E s:=by
  show wpAny _ A (load t >>= fun o=>match o.data with | .seq xs _=>pure (some xs) | _=>pure none) _ _ s
  refine wpAny_bind (wpAny_load h ?_)
  rw [hd]
  exact wpAny_pure q
theorem Bw:entryFor table "dict.update.loop" = some Builtin.«dict.update.loop»:=entryFor_of_tree (by kernel_rfl)
theorem ug:plainId "dict.update.loop" = true:=by decide +kernel
noncomputable section
variable {prog:Program} {w:World} {A:Around} {R:Result→Shared→Prop} {I:Addr} {fp wr:List Addr} {G:Array GenState→Array GenState→Prop} {n:Nat} {P:Nat→Value→Prop} {St:Nat→Shared→Prop} {κ:Type} [DecidableEq κ] {knd:PySem.KeyKind prog w κ}
theorem Vr (W:WalksS prog w A.in1 I fp wr G n P St) (D:Addr) (hDf:D∉fp) (result:Value) (h0:Heap) (kvs:Nat→List (κ × Value)) (key:Nat→κ) (val:Nat→Value) (hs:∀ i,kvs (i+1)=stored (kvs i) (key i) (val i)) (hz:∀ i,i≤n→(kvs i).length≤sizeLine)
    (hit:∀ i v,P i v→∃ t kx o m,v=.ref t∧t≠D∧t∉wr∧h0.get? t=some o∧o.cls=.type "tuple" ∧ o.data=.seq #[kx,val i] m∧knd.is (key i) kx=true) :
    ∀ (j i:Nat) (c:Nat) (s:Shared),n - i=j→i≤n→St i s→(∀ b o,b≠D→b∉wr→h0.get? b=some o→s.heap.get? b=some o)→s.heap.DictOf knd D (kvs i) →
      (∀ s',Moved (D::wr) G s s'→s'.heap.DictOf knd D (kvs n)→R (.ok (.ret result)) s')→codeAny (model prog w) A (.builtin "dict.update.loop" ⟨[.ref D,.ref I,rawInt (c:Int),result],[]⟩) R s:=by
  have hDw:D∉wr:=fun z=>hDf (W.sub _ z)
  have more:∀ b∈wr,b∈D::wr:=fun b hb=>List.mem_cons_of_mem _ hb
  intro j
  induction j with
  | zero =>
    intro i c s hk hi hst keep hD hR
    have e:i=n:=by (clear hR hD keep hst more hDw hit hz hs hDf W; omega)
    subst e
    refine codeAny_builtin Bw ?_
    rw [Around.under_plainId ug _]
    change wpAny _ A.in1 (pyNext (.ref I) >>= _) _ _ s
    refine wpAny_bind (W.done s _ _ hst (fun s' hm=>?_))
    show wpAny _ A.in1 (Builtin.Dict.addKeywords D [] >>= fun _=>ret result) _ _ s'
    refine wpAny_bind (wpAny_pure (wpAny_pure (hR s' (hm.mono more) ?_)))
    obtain ⟨o,es,ep,ho,rest⟩:=hD
    exact ⟨o,es,ep,hm.heap D _ hDw ho,rest⟩
  | succ j ih =>
    intro i c s hk hi hst keep hD hR
    have hlt:i<n:=by (clear hR hD keep hst hi ih more hDw hit hz hs hDf W; omega)
    refine codeAny_builtin Bw ?_
    rw [Around.under_plainId ug _]
    change wpAny _ A.in1 (pyNext (.ref I) >>= _) _ _ s
    refine wpAny_bind (W.item i s _ _ hlt hst (fun v s' hP hst' hm=>?_))
    obtain ⟨t,kx,o,m,rfl,htD,htw,ht,hc,hd,hkey⟩:=hit i v hP
    have ht':s'.heap.get? t=some o:=hm.heap t o htw (keep t o htD htw ht)
    have hD':s'.heap.DictOf knd D (kvs i):=by
      obtain ⟨o,es,ep,ho,rest⟩:=hD
      exact ⟨o,es,ep,hm.heap D _ hDw ho,rest⟩
    have hT:s'.TypeIs (.ref t) "tuple" := ⟨o,ht',hc⟩
    dsimp only
    refine wpAny_bind (wpAny_holding (wpAny_bind (wpAny_tryCatch ?_)))
    unfold Builtin.Dict.pairItems
    refine wpAny_bind (wpAny_typeOf (T := "tuple") hT ?_)
    rw [if_pos (by decide)]
    refine wpAny_bind (Ud ht' hd ?_)
    refine wpAny_pure ?_
    show wpAny _ A.in1 (holding [kx,val i] (dictSet D kx (val i))) _ _ s'
    refine wpAny_holding (wpAny_dictSet_pairs hkey hD' (fun h2 hD2 same=>?_) (hz i hi))
    rw [← hs i] at hD2
    refine wpAny_pure ⟨plainId_quiet ug _,?_⟩
    have ec:((c:Int)+1)=((c+1:Nat):Int):=by (clear same hD2 hT hD' ht' hkey hd hc ht htw htD hP hm hst' hlt hR hD keep hst hi hk ih more hDw hit hz hs hDf W; omega)
    rw [ec]
    refine ih (i+1) (c+1) _ (by (clear ec same hD2 hT hD' ht' hkey hd hc ht htw htD hP hm hst' hlt hR hD keep hst hi ih more hDw hit hz hs hDf W; omega)) hlt (W.frame _ s' _ _ hst' (Nat.le_succ _) fun b hb o e=>?_) (fun b o hb hw e=>?_) hD2 fun s2 hm2 hD3=>?_
    · rw [same.2 b (fun h:b=D=>hDf (by rw [← h]; exact hb))]; exact e
    · show h2.get? b=some o
      rw [same.2 b hb]; exact hm.heap b o hw (keep b o hb hw e)
    · refine hR s2 (Moved.trans W.gtrans ((hm.mono more).then_heap (Nat.le_succ _) fun b o hb e=>?_) hm2) hD3
      rw [same.2 b (fun h:b=D=>hb (by rw [h]; exact List.mem_cons_self))]; exact e
end
end C
end
noncomputable section
set_option linter.all false
set_option maxRecDepth 100000
set_option maxHeartbeats 4000002
set_option autoImplicit false
namespace C
open PySem PySem.Spec PyProof.Rows L2
noncomputable section
variable {prog:Program} {w:World} {A:Around} {E:Value→Shared→Prop} {s:Shared} {κ:Type} [DecidableEq κ] {knd:PySem.KeyKind prog w κ}
noncomputable def told (key:Nat→κ) (val:Nat→Value):Nat→List (κ × Value)
  | 0=>[]
  | i+1=>stored (told key val i) (key i) (val i)
theorem Wx (l:List (κ × Value)) (k:κ) (v:Value):(stored l k v).length≤l.length+1:=by
  unfold stored
  split
  · rw [List.length_map]; omega
  · rw [List.length_append,List.length_singleton]; exact Nat.le_refl _
theorem Gg (key:Nat→κ) (val:Nat→Value):∀ i,(told key val i).length≤i
  | 0=>Nat.le_refl _
  | i+1=>Nat.le_trans (Wx _ _ _) (Nat.succ_le_succ (Gg key val i))
theorem Qv {l:Addr} {its:Array Value} {m:Nat} {sl:Array (Option Value)} {key:Nat→κ} {val:Nat→Value} {Q:Value→Shared→Prop} (nh:A.handled=none) (hl:s.heap.get? l=some { cls:=.type "list",dict:=none,data:=.seq its m,slots:=sl }) (hz:its.size≤sizeLine)
    (hit:∀ i v,its[i]? = some v→∃ t kx o n,v=.ref t∧s.heap.get? t=some o∧o.cls=.type "tuple" ∧ o.data=.seq #[kx,val i] n∧knd.is (key i) kx=true)
    (q:∀ h' tk,h'.DictOf knd s.heap.objs.size (told key val its.size)→(∀ b o,s.heap.get? b=some o→h'.get? b=some o)→Q (.ref s.heap.objs.size) { s with heap:=h',toks:=tk }) :
    wpAny (model prog w) A (call (.type "dict") [.ref l]) Q E s:=by
  refine callType_codes (Q₁:=fun ob z=>ob=.ref s.heap.objs.size∧z = { s with heap:=s.heap.push { cls:=.type "dict",data:=.dict #[] } }) F.kt_called_dict (F.kt_typeCall_dict_1 _) F.entry_dict_init (kt_code_dict_new _ ⟨rfl,rfl⟩) ?_
  rintro obj s₁ ⟨rfl,rfl⟩
  have new0:(s.heap.push { cls:=.type "dict",data:=.dict #[] }).DictOf knd s.heap.objs.size []:=Heap.DictOf.new s.heap
  have hl1:(s.heap.push { cls:=.type "dict",data:=.dict #[] }).get? l=some { cls:=.type "list",dict:=none,data:=.seq its m,slots:=sl }:=Heap.get?_push_of_some _ hl
  have hll:l<s.heap.objs.size:=Heap.lt_size hl
  refine ⟨new0.typeIs,F.args_dict_init_2 _ _,?_⟩
  unfold Builtin.«dict.__init__» Builtin.Dict.selfAndRest
  refine wpAny_bind (wpAny_bind (wpAny_notOrdered_dict new0.typeIs ?_))
  show wpAny _ _ (pure (s.heap.objs.size,[Value.ref l])) _ _ _
  refine wpAny_pure ?_
  show wpAny _ _ (Builtin.Dict.updateFrom "dict.__init__" s.heap.objs.size (.ref l) [] .none) _ _ _
  unfold Builtin.Dict.updateFrom; refine wpAny_bind (wpAny_typeOf (T := "list") ⟨_,hl1,rfl⟩ ?_)
  rw [if_pos (by decide)]
  refine wpAny_bind (Yv hl1 nh fun h2 tk e ne=>?_)
  rw [if_pos (show (none:Option Value).isNone=true from rfl)]
  have old2:∀ b o,(s.heap.push { cls:=.type "dict",data:=.dict #[] }).get? b=some o→h2.get? b=some o:=fun b o hb=>ne.keeps b o hb
  have hl2:h2.IsList l its:=⟨_,old2 _ _ hl1,rfl,m,rfl⟩
  have hD2:s.heap.objs.size<h2.objs.size:=by
    obtain ⟨o,es,ep,ho,rest⟩:=new0
    exact Heap.lt_size (old2 _ _ ho)
  refine wpAny_bind (wpAny_rule (wpAny_bind (wpAny_pyIter_list hl2 ?_)))
  refine wpAny_pure ⟨plainId_quiet ug _,?_⟩
  have nl:l≠h2.objs.size:=Nat.ne_of_lt (Nat.lt_trans hll hD2)
  have nD:s.heap.objs.size∉[h2.objs.size,l]:=by
    simp only [List.mem_cons,List.mem_singleton,List.not_mem_nil,or_false,not_or]
    exact ⟨Nat.ne_of_lt hD2,Nat.ne_of_gt hll⟩
  have hD3:(h2.push { cls:=.type "list_iterator",data:=.fields #[.ref l,.int 0 0] }).DictOf knd s.heap.objs.size (told key val 0):=by
    obtain ⟨o,es,ep,ho,rest⟩:=new0
    exact ⟨o,es,ep,Heap.get?_push_of_some _ (old2 _ _ ho),rest⟩
  refine Vr (knd:=knd) ((Walks.list (A:=A.in1.in1) (show A.in1.in1.handled=none from nh) h2.objs.size l nl its).toS) s.heap.objs.size nD .none s.heap (told key val) key val (fun _=>rfl) (fun i hi=>Nat.le_trans (Gg key val i) (Nat.le_trans hi hz))
    (fun i v hv=>?_) (its.size - 0) 0 0 _ rfl (Nat.zero_le _) ⟨⟨_,Heap.get?_push_size _ rfl,rfl,rfl⟩,hl2.push _⟩ (fun b o _ _ hb=>Heap.get?_push_of_some _ (old2 _ _ (Heap.get?_push_of_some _ hb))) hD3 fun s3 hm hD4=>?_
  · obtain ⟨t,kx,o,n,rfl,ht,hc,hd,hk⟩:=hit i v hv
    have tl:=Heap.lt_size ht
    refine ⟨t,kx,o,n,rfl,Nat.ne_of_lt tl,?_,ht,hc,hd,hk⟩
    simp only [List.mem_singleton]
    exact Nat.ne_of_lt (Nat.lt_trans tl hD2)
  · obtain ⟨h3,g3,d3,t3,o3⟩:=s3
    have eg:g3=s.gens:=hm.gens
    have ed:d3=s.drawn:=hm.drawn
    have eo:o3=s.os:=hm.os
    subst eg; subst ed; subst eo
    refine ⟨rfl,q h3 t3 hD4 fun b o hb=>?_⟩
    have bl:=Heap.lt_size hb
    refine hm.heap b o ?_ (Heap.get?_push_of_some _ (old2 _ _ (Heap.get?_push_of_some _ hb)))
    simp only [List.mem_cons,List.mem_singleton,List.not_mem_nil,or_false,not_or]
    exact ⟨Nat.ne_of_lt bl,Nat.ne_of_lt (Nat.lt_trans bl hD2)⟩
theorem Nx {l:Addr} {its:Array Value} {m:Nat} {sl:Array (Option Value)} {key:Nat→κ} {val:Nat→Value} {Q:Value→Shared→Prop} (nh:A.handled=none) (hl:s.heap.get? l=some { cls:=.type "tuple",dict:=none,data:=.seq its m,slots:=sl }) (hz:its.size≤sizeLine)
    (hit:∀ i v,its[i]? = some v→∃ t kx o n,v=.ref t∧s.heap.get? t=some o∧o.cls=.type "tuple" ∧ o.data=.seq #[kx,val i] n∧knd.is (key i) kx=true)
    (q:∀ h' tk,h'.DictOf knd s.heap.objs.size (told key val its.size)→(∀ b o,s.heap.get? b=some o→h'.get? b=some o)→Q (.ref s.heap.objs.size) { s with heap:=h',toks:=tk }) :
    wpAny (model prog w) A (call (.type "dict") [.ref l]) Q E s:=by
  refine callType_codes (Q₁:=fun ob z=>ob=.ref s.heap.objs.size∧z = { s with heap:=s.heap.push { cls:=.type "dict",data:=.dict #[] } }) F.kt_called_dict (F.kt_typeCall_dict_1 _) F.entry_dict_init (kt_code_dict_new _ ⟨rfl,rfl⟩) ?_
  rintro obj s₁ ⟨rfl,rfl⟩
  have new0:(s.heap.push { cls:=.type "dict",data:=.dict #[] }).DictOf knd s.heap.objs.size []:=Heap.DictOf.new s.heap
  have hl1:(s.heap.push { cls:=.type "dict",data:=.dict #[] }).get? l=some { cls:=.type "tuple",dict:=none,data:=.seq its m,slots:=sl }:=Heap.get?_push_of_some _ hl
  have hll:l<s.heap.objs.size:=Heap.lt_size hl
  refine ⟨new0.typeIs,F.args_dict_init_2 _ _,?_⟩
  unfold Builtin.«dict.__init__» Builtin.Dict.selfAndRest
  refine wpAny_bind (wpAny_bind (wpAny_notOrdered_dict new0.typeIs ?_))
  show wpAny _ _ (pure (s.heap.objs.size,[Value.ref l])) _ _ _
  refine wpAny_pure ?_
  show wpAny _ _ (Builtin.Dict.updateFrom "dict.__init__" s.heap.objs.size (.ref l) [] .none) _ _ _
  unfold Builtin.Dict.updateFrom; refine wpAny_bind (wpAny_typeOf (T := "tuple") ⟨_,hl1,rfl⟩ ?_)
  rw [if_pos (by decide)]
  refine wpAny_bind (Wy hl1 nh fun h2 tk e ne=>?_)
  rw [if_pos (show (none:Option Value).isNone=true from rfl)]
  have old2:∀ b o,(s.heap.push { cls:=.type "dict",data:=.dict #[] }).get? b=some o→h2.get? b=some o:=fun b o hb=>ne.keeps b o hb
  have hl2:h2.IsTuple l its:=⟨_,old2 _ _ hl1,rfl,m,rfl⟩
  have hD2:s.heap.objs.size<h2.objs.size:=by
    obtain ⟨o,es,ep,ho,rest⟩:=new0
    exact Heap.lt_size (old2 _ _ ho)
  refine wpAny_bind (wpAny_rule (wpAny_bind (wpAny_pyIter_tuple hl2 ?_)))
  refine wpAny_pure ⟨plainId_quiet ug _,?_⟩
  have nl:l≠h2.objs.size:=Nat.ne_of_lt (Nat.lt_trans hll hD2)
  have nD:s.heap.objs.size∉[h2.objs.size,l]:=by
    simp only [List.mem_cons,List.mem_singleton,List.not_mem_nil,or_false,not_or]
    exact ⟨Nat.ne_of_lt hD2,Nat.ne_of_gt hll⟩
  have hD3:(h2.push { cls:=.type "tuple_iterator",data:=.fields #[.ref l,.int 0 0] }).DictOf knd s.heap.objs.size (told key val 0):=by
    obtain ⟨o,es,ep,ho,rest⟩:=new0
    exact ⟨o,es,ep,Heap.get?_push_of_some _ (old2 _ _ ho),rest⟩
  refine Vr (knd:=knd) ((Walks.tuple (A:=A.in1.in1) (show A.in1.in1.handled=none from nh) h2.objs.size l nl its).toS) s.heap.objs.size nD .none s.heap (told key val) key val (fun _=>rfl) (fun i hi=>Nat.le_trans (Gg key val i) (Nat.le_trans hi hz))
    (fun i v hv=>?_) (its.size - 0) 0 0 _ rfl (Nat.zero_le _) ⟨⟨_,Heap.get?_push_size _ rfl,rfl,rfl⟩,hl2.push _⟩ (fun b o _ _ hb=>Heap.get?_push_of_some _ (old2 _ _ (Heap.get?_push_of_some _ hb))) hD3 fun s3 hm hD4=>?_
  · obtain ⟨t,kx,o,n,rfl,ht,hc,hd,hk⟩:=hit i v hv
    have tl:=Heap.lt_size ht
    refine ⟨t,kx,o,n,rfl,Nat.ne_of_lt tl,?_,ht,hc,hd,hk⟩
    simp only [List.mem_singleton]
    exact Nat.ne_of_lt (Nat.lt_trans tl hD2)
  · obtain ⟨h3,g3,d3,t3,o3⟩:=s3
    have eg:g3=s.gens:=hm.gens
    have ed:d3=s.drawn:=hm.drawn
    have eo:o3=s.os:=hm.os
    subst eg; subst ed; subst eo
    refine ⟨rfl,q h3 t3 hD4 fun b o hb=>?_⟩
    have bl:=Heap.lt_size hb
    refine hm.heap b o ?_ (Heap.get?_push_of_some _ (old2 _ _ (Heap.get?_push_of_some _ hb)))
    simp only [List.mem_cons,List.mem_singleton,List.not_mem_nil,or_false,not_or]
    exact ⟨Nat.ne_of_lt bl,Nat.ne_of_lt (Nat.lt_trans bl hD2)⟩
end
end C
end
noncomputable section
set_option linter.all false
set_option maxRecDepth 100000
set_option maxHeartbeats 4000002
set_option autoImplicit false
namespace C
open PySem PySem.Spec PyProof.Rows L2
theorem Rz {x:T} {xs:List T} {l:List (Key × T)} (h:Aa (x::xs)=some l):∃ k v q l',x=.tup [k,v]∧keyOf k=some q∧Aa xs=some l'∧l=(q,v)::l':=by
  match x,h with
  | .tup [k,v],h =>
    change (match keyOf k,Aa xs with | some q,some l=>some ((q,v)::l) | _,_=>none)=some l at h
    cases e1:keyOf k with
    | none=>rw [e1] at h; exact jh h
    | some q =>
      cases e2:Aa xs with
      | none=>rw [e1,e2] at h; exact jh h
      | some l'=>rw [e1,e2] at h; cases h; exact ⟨k,v,q,l',rfl,e1,rfl,rfl⟩
noncomputable section
variable {X:Cx} {pins:List (Addr × Obj)} {σ:L2.St} {H S:Hp} {s:Shared} {as:List Addr}
inductive El (h:Heap) (prog:Program) (w:World):List Value→List L2.Key→List Value→Prop where
  | nil:El h prog w [] [] []
  | cons {t:Addr} {kx wv:Value} {o:Obj} {n:Nat} {q:L2.Key} {us:List Value} {qs:List L2.Key} {ws:List Value}:h.get? t=some o→o.cls=.type "tuple" → o.data=.seq #[kx,wv] n→(nj prog w).is q kx=true →
      El h prog w us qs ws→El h prog w (.ref t::us) (q::qs) (wv::ws)
theorem El.get {h:Heap} {prog:Program} {w:World}:∀ {us:List Value} {qs:List L2.Key} {ws:List Value},El h prog w us qs ws→∀ (i:Nat) (v:Value),us[i]? = some v→∃ t kx o n,v=.ref t∧h.get? t=some o∧o.cls=.type "tuple" ∧ o.data=.seq #[kx,ws.getD i .none] n∧(nj prog w).is (qs.getD i (.inl 0)) kx=true
  := by
  intro us qs ws h
  induction h with
  | nil=>intro i v e; simp at e -- here
  | cons h1 h2 h3 h4 r ih =>
    intro i v e
    cases i with
    | zero=>simp at e; subst e; exact ⟨_,_,_,_,rfl,h1,h2,h3,h4⟩
    | succ i=>simpa using ih i v (by simpa using e) -- here
theorem El.len {h:Heap} {prog:Program} {w:World}:∀ {us:List Value} {qs:List L2.Key} {ws:List Value},El h prog w us qs ws→us.length=qs.length∧us.length=ws.length:=by
  intro us qs ws h
  induction h with
  | nil=>exact ⟨rfl,rfl⟩
  | cons _ _ _ _ _ ih=>exact ⟨congrArg (· + 1) ih.1,congrArg (· + 1) ih.2⟩
theorem pairs_at (I:L2.Inv X pins σ H s) (sub:Same S H):∀ {vs:List V} {xs:List T} {us:List Value} {l:List (L2.Key × T)},uc X.K S as vs xs→Vals vs us→Aa xs=some l →
    ∃ ys ws,El s.heap X.prog X.w us (l.map (·.1)) ws∧Vals ys ws∧uc X.K S as ys (l.map (·.2))
  | _,[],_,_,h0,r,e=>by cases h0; cases e; cases r; exact ⟨[],[],.nil,.nil,.nil⟩
  | _,_::_,_,_,h0,r,e=>by
    cases h0 with | cons h q=>?_
    obtain ⟨k,v,qk,l',rfl,e1,e2,rfl⟩:=Rz e
    cases r with
    | cons r1 r2 =>
      obtain ⟨ys,ws,p1,p2,p3⟩:=pairs_at I sub q r2 e2
      cases h with
      | tup g1 g2 =>
        cases g2 with
        | cons a1 g2 =>
          cases g2 with
          | cons a2 g2 =>
            cases g2
            cases r1
            obtain ⟨its,rv,⟨o,o1,o2,n,o3⟩,_⟩:=I.tuple (n8 sub g1)
            cases rv with
            | cons b1 rv =>
              cases rv with
              | cons b2 rv =>
                cases rv
                have ek:=Oz a1 e1
                subst ek
                exact ⟨_::ys,_::ws,.cons o1 o2 o3 (Rb b1) p1,.cons b2 p2,.cons a2 p3⟩
theorem O5 (l:List (L2.Key × T)) {ys:List V} {ws:List Value} (hv:Vals ys ws) (hr:uc X.K S as ys (l.map (·.2))):∀ i,i≤l.length →
    ∃ kv,KV kv (told (fun i=>(l.map (·.1)).getD i (.inl 0)) (fun i=>ws.getD i .none) i)∧Bs X.K S as kv ((l.take i).foldl (fun d p=>Du p.1 p.2 d) [])
  | 0,_=>⟨[],.nil,.nil⟩
  | i+1,hi=>by
    obtain ⟨kv,k1,k2⟩:=O5 l hv hr i (by (clear hr hv; omega))
    have hlt:i<l.length:=Nat.lt_of_succ_le hi
    have e1:(l.map (·.2))[i]? = some l[i].2:=by rw [List.getElem?_map,List.getElem?_eq_getElem hlt]; rfl
    obtain ⟨y,h1,h2⟩:=hr.get e1
    obtain ⟨u,h3,h4⟩:=hv.get h1
    have e2:(l.map (·.1)).getD i (.inl 0)=l[i].1:=by rw [List.getD_eq_getElem?_getD,List.getElem?_map,List.getElem?_eq_getElem hlt]; rfl
    have e3:ws.getD i .none=u:=by rw [List.getD_eq_getElem?_getD,h3]; rfl
    refine ⟨putK kv l[i].1 y,?_,?_⟩
    · have:=k1.put l[i].1 h4
      show KV (putK kv l[i].1 y) (stored (told (fun i=>(l.map (·.1)).getD i (.inl 0)) (fun i=>ws.getD i .none) i) ((l.map (·.1)).getD i (.inl 0)) (ws.getD i .none))
      rw [e2,e3]
      exact this
    · rw [List.take_succ_eq_append_getElem hlt,List.foldl_append]
      exact k2.put h2
theorem Iv {Q:VK} {a:Addr} {vs:List V} {xs:List T} {l:List (L2.Key × T)} (hc:X.calm=true) (I:L2.Inv X pins σ H s) (sub:Same S H) (g1:SqL X.K S a vs) (g2:uc X.K S as vs xs) (e:Aa xs=some l) (hz:xs.length≤sizeLine)
    (q:∀ p kv,H p=none→kv.length≤sizeLine→Bs X.K S as kv (l.foldl (fun d p=>Du p.1 p.2 d) [])→Q (.ref p) (upd H p (.dK kv))):wpAny (model X.prog X.w) X.A (call (.type "dict") [.ref a]) (EP X pins σ Q) X.xe s:=by
  obtain ⟨its,r,p,_⟩:=I.list (kj sub g1)
  obtain ⟨⟨cls,dd,data,sl⟩,n,ho,hcl,hd0,hd⟩:=id p
  simp only at hcl hd0 hd
  subst hcl hd0 hd
  obtain ⟨ys,ws,p1,p2,p3⟩:=pairs_at I sub g2 r e
  have hlen:its.length=l.length:=by rw [p1.len.1,List.length_map]
  have hlx:vs.length=its.length:=r.length
  obtain ⟨kv,k1,k2⟩:=O5 l p2 p3 l.length (Nat.le_refl _)
  rw [List.take_length] at k2
  refine Qv (knd:=nj X.prog X.w) (key:=fun i=>(l.map (·.1)).getD i (.inl 0)) (val:=fun i=>ws.getD i .none) (I.ok.hd hc) ho (by rw [List.size_toArray,← hlx,g2.length]; exact hz)
    (fun i v hv=>p1.get i v (by rw [List.getElem?_toArray] at hv; exact hv)) fun h' tk hD old=>?_
  rw [show its.toArray.size=l.length by rw [List.size_toArray,hlen]] at hD
  have kl:kv.length≤sizeLine:=by
    rw [k1.length]
    exact Nat.le_trans (Gg _ _ _) (by rw [← hlen,← hlx,g2.length]; exact hz)
  have hp:H s.heap.objs.size=none:=I.hok.fresh (Nat.le_refl _)
  exact ⟨.ref s.heap.objs.size,_,I.laid (a:=s.heap.objs.size) (o:=.dK kv) (h':=h') (t':=tk) old (Nat.le_refl _) (Uu kl (beq_eq_false_iff_ne.mpr (Ne.symm (Nat.ne_of_lt I.big))) k1 hD),rfl,q _ kv hp kl k2⟩
theorem Gv {Q:VK} {a:Addr} {vs:List V} {xs:List T} {l:List (L2.Key × T)} (hc:X.calm=true) (I:L2.Inv X pins σ H s) (sub:Same S H) (g1:SqT X.K S a vs) (g2:uc X.K S as vs xs) (e:Aa xs=some l) (hz:xs.length≤sizeLine)
    (q:∀ p kv,H p=none→kv.length≤sizeLine→Bs X.K S as kv (l.foldl (fun d p=>Du p.1 p.2 d) [])→Q (.ref p) (upd H p (.dK kv))):wpAny (model X.prog X.w) X.A (call (.type "dict") [.ref a]) (EP X pins σ Q) X.xe s:=by
  obtain ⟨its,r,p,_⟩:=I.a98 (n8 sub g1)
  obtain ⟨⟨cls,dd,data,sl⟩,ho,hcl,hd0,n,hd⟩:=id p
  simp only at hcl hd0 hd
  subst hcl hd0 hd
  obtain ⟨ys,ws,p1,p2,p3⟩:=pairs_at I sub g2 r e
  have hlen:its.length=l.length:=by rw [p1.len.1,List.length_map]
  have hlx:vs.length=its.length:=r.length
  obtain ⟨kv,k1,k2⟩:=O5 l p2 p3 l.length (Nat.le_refl _)
  rw [List.take_length] at k2
  refine Nx (knd:=nj X.prog X.w) (key:=fun i=>(l.map (·.1)).getD i (.inl 0)) (val:=fun i=>ws.getD i .none) (I.ok.hd hc) ho (by rw [List.size_toArray,← hlx,g2.length]; exact hz)
    (fun i v hv=>p1.get i v (by rw [List.getElem?_toArray] at hv; exact hv)) fun h' tk hD old=>?_
  rw [show its.toArray.size=l.length by rw [List.size_toArray,hlen]] at hD
  have kl:kv.length≤sizeLine:=by
    rw [k1.length]
    exact Nat.le_trans (Gg _ _ _) (by rw [← hlen,← hlx,g2.length]; exact hz)
  have hp:H s.heap.objs.size=none:=I.hok.fresh (Nat.le_refl _)
  exact ⟨.ref s.heap.objs.size,_,I.laid (a:=s.heap.objs.size) (o:=.dK kv) (h':=h') (t':=tk) old (Nat.le_refl _) (Uu kl (beq_eq_false_iff_ne.mpr (Ne.symm (Nat.ne_of_lt I.big))) k1 hD),rfl,q _ kv hp kl k2⟩
end
noncomputable section
variable {X:Cx} {B:Bas} {a:Expr} {m:M T} {pos p:Pos}
theorem Wz (hc:X.calm=true):R7 X (.type "dict") Nb:=by
  intro pins s σ H xs us Q I rs z8
  obtain ⟨S,as,ts,w,sub,hr,hf,q⟩:=z8
  cases hr with
  | nil=>exact jh hf
  | @cons x t xs' ts' h1 h2 =>
    cases h2 with
    | cons h3 h4=>cases h1 <;> exact jh hf
    | nil =>
      obtain ⟨u,rfl,ru⟩:=rs.one
      cases h1 with
      | @lst a vs ts g1 g2 =>
        cases ru
        obtain ⟨hl,hf⟩:=yd hf
        obtain ⟨l,e1,e2⟩:=Option.map_eq_some_iff.mp hf
        subst e2
        refine Iv hc I sub g1 g2 e1 (Nat.le_trans (Nat.le_of_lt hl) qt) fun p kv hp _ k2=>?_
        have x:=Ext.laid sub hp (.dK kv)
        exact q _ _ _ x (.dic (.inl jf) (k2.mono x.s nol))
      | @tup a vs ts g1 g2 =>
        cases ru
        obtain ⟨hl,hf⟩:=yd hf
        obtain ⟨l,e1,e2⟩:=Option.map_eq_some_iff.mp hf
        subst e2
        refine Gv hc I sub g1 g2 e1 (Nat.le_trans (Nat.le_of_lt hl) qt) fun p kv hp _ k2=>?_
        have x:=Ext.laid sub hp (.dK kv)
        exact q _ _ _ x (.dic (.inl jf) (k2.mono x.s nol))
      | @dic a kvs ts g1 g2 =>
        cases ru
        cases hf
        refine W4 I (vd sub g1) fun p s' hp I'=>⟨.ref p,_,I',rfl,?_⟩
        have x:=Ext.laid sub hp (.dK kvs)
        exact q _ _ _ x (.dic (.inl jf) (g2.mono x.s nol))
      | _=>exact jh hf
end
end C
end
noncomputable section
set_option linter.all false
set_option autoImplicit false
namespace C
open PySem PySem.Spec PyProof.Rows L2
theorem dz.zero {P:Program} {w:World} {K:PySem.W.Frag} {mg:Str→Option Value} {base:Heap} {x qual:Str} {st:Stmt} {f:Addr} {fd:FuncData} {ps:List Str} {k:Nat} (F:Fun K x qual st f fd) (h:mg x=some (.ref f)) (b:Binds K fd ps []):dz P w K mg base x k ps (fun _ _=>none):=by
  have no:∀ vs H Q E,¬ spF K ps.length (fun _ _=>none) vs H Q E:=fun vs H Q E z=>by
    obtain ⟨S,as,sto,ts,t,sto',_,_,_,_,e,_⟩:=z
    cases e
  exact ⟨f,fd,⟨fun vs H Q E z=>absurd z (no vs H Q E),fun A outer s H args us vs Q E _ _ _ _ z=>absurd z (no vs H Q E)⟩,b,F.kp,h⟩
end C
end
noncomputable section
set_option autoImplicit false
namespace C
open PySem
noncomputable def abz:List T→Option T
  | [.int i]=>some (.int i)
  | [.bl k]=>some (.int (if k then 1 else 0))
  | _=>none
end C
end
noncomputable section
set_option linter.all false
set_option maxRecDepth 100000
set_option maxHeartbeats 4000002
set_option autoImplicit false
namespace C
open PySem PySem.Spec PyProof.Rows L2
noncomputable section
variable {X:Cx} {B:Bas} {c e:Expr} {m:M T} {pos p:Pos} {u:S} {body:List Stmt}
theorem Pk:R7 X (.type "int") abz:=by
  intro pins s σ H xs us Q I rs z8
  obtain ⟨S,as,ts,w,sub,hr,hf,q⟩:=z8
  cases hr with
  | nil=>exact jh hf
  | @cons x t xs' ts' h1 h2 =>
    cases h2 with
    | cons h3 h4=>cases h1 <;> exact jh hf
    | nil =>
      cases h1 <;> first | exact jh hf | skip
      · cases hf
        exact Qf pins s σ H _ us Q I rs (.inr ⟨_,rfl,q _ H S (Ext.refl sub) (.int _)⟩)
      · cases hf
        exact Qf pins s σ H _ us Q I rs (.inl ⟨_,rfl,q _ H S (Ext.refl sub) (.int _)⟩)
end
end C
end
noncomputable section
set_option linter.all false
set_option maxRecDepth 100000
set_option maxHeartbeats 4000002
set_option autoImplicit false
namespace C
open PySem PySem.Spec PyProof.Rows L2
noncomputable section
variable {X:Cx} {B:Bas} {e st:Expr} {te:TE} {m:M T} {pos p2 p3 p4:Pos} {j:Nat}
end
end C
end
noncomputable section
set_option linter.all false
set_option maxRecDepth 100000
set_option maxHeartbeats 4000002
set_option autoImplicit false
namespace C
open PySem PySem.Spec PyProof.Rows L2
noncomputable section
variable {X:Cx} {B:Bas} {a:Expr} {m:M T} {pos p:Pos}
noncomputable def a7z (K:PySem.W.Frag):List V→Hp→VK→Prop:=fun xs H Q=>∃ S as t u,Same S H∧uc K S as xs [t]∧Nb [t]=some (.dic u)∧∀ p kv,H p=none→Bs K S as kv u→Q (.ref p) (upd H p (.dK kv))
theorem Wi (hc:X.calm=true):Fo X (.type "dict") (a7z X.K):=by
  intro pins s σ H xs us Q I rs z8
  obtain ⟨S,as,t,u,sub,hr,hf,q⟩:=z8
  cases hr with
  | cons h1 h2 =>
    cases h2
    obtain ⟨v,rfl,ru⟩:=rs.one
    cases h1 with
    | @lst a vs ts g1 g2 =>
      cases ru
      obtain ⟨hl,hf⟩:=yd hf
      obtain ⟨l,e1,e2⟩:=Option.map_eq_some_iff.mp hf
      cases e2
      exact Iv hc I sub g1 g2 e1 (Nat.le_trans (Nat.le_of_lt hl) qt) fun p kv hp _ k2=>q p kv hp k2
    | @tup a vs ts g1 g2 =>
      cases ru
      obtain ⟨hl,hf⟩:=yd hf
      obtain ⟨l,e1,e2⟩:=Option.map_eq_some_iff.mp hf
      cases e2
      exact Gv hc I sub g1 g2 e1 (Nat.le_trans (Nat.le_of_lt hl) qt) fun p kv hp _ k2=>q p kv hp k2
    | @dic a kvs ts g1 g2 =>
      cases ru
      cases hf
      exact W4 I (vd sub g1) fun p s' hp I'=>⟨.ref p,_,I',rfl,q p kvs hp g2⟩
    | _=>exact jh hf
theorem a07 {t w:T} (h:Nb [t]=some w):∃ u,w=.dic u:=by
  cases t <;> first | exact jh h | skip
  · obtain ⟨l,_,e⟩:=Option.map_eq_some_iff.mp (yd h).2; exact ⟨_,e.symm⟩
  · obtain ⟨l,_,e⟩:=Option.map_eq_some_iff.mp (yd h).2; exact ⟨_,e.symm⟩
  · cases h; exact ⟨_,rfl⟩
theorem a70 (hc:X.calm=true) (hg:Gl X "dict") (hm:X.mg "dict" = none) (ha:PE X a (tOf X.K B m)) (he:starEach [a] X.env=(false,eval a X.env)::starEach [] X.env:=by rfl) (hpl:(backTo pos (starEach [] X.env)).any (·.1)=false:=by rfl) :
    PE X (.Call (.Name "dict" p) [a] [] pos) (fOf X.K B (iz Nb (ak m dh))):=by
  refine (v7 (Wi hc) hg hm PyProof.Rows.boot_dict (qz ha wu he) (by decide) (by decide) he hpl).imp fun σ H Q z0=>?_
  obtain ⟨st,ps,S,as,R,t,st',e,q⟩:=z0
  obtain ⟨ts,e1,e2⟩:=Bl e
  obtain ⟨t1,s1,us,ea,en,rfl⟩:=yc e1
  cases en
  obtain ⟨u,rfl⟩:=a07 e2
  refine ⟨st,ps,S,as,R,t1,_,ea,fun v H1 S1 as1 R1=>⟨S1,as1,t1,u,R1.sub,.cons R1.top .nil,e2,fun p kv hp k2=>?_⟩⟩
  obtain ⟨bD,sD,nD,no⟩:=R1.fresh hp
  exact q p _ S1 as1 (R1.drop.aa3 bD sD nD (fun j w e1 e2=>no j w e1 e2)) ⟨⟨kv,jf,k2⟩,sD,nD,bD⟩ (fun j w e1 e2=>no j w e1 e2)
end
end C
end
noncomputable section
set_option autoImplicit false
namespace C
open PySem
noncomputable def sIx (n d:Nat):Option Int→Nat
  | none=>d
  | some v=>if v<0 then (v+(n:Int)).toNat else min v.toNat n
noncomputable def a7n (xs:List T) (lo hi:Option Int):List T:=(xs.drop (sIx xs.length 0 lo)).take (sIx xs.length xs.length hi - sIx xs.length 0 lo)
noncomputable def a7d (lo hi:Option Int):T→Option T
  | .lst xs=>some (.lst (a7n xs lo hi))
  | .tup xs=>if sIx xs.length 0 lo=0∧sIx xs.length xs.length hi=xs.length then none else some (.tup (a7n xs lo hi))
  | _=>none
noncomputable def Xz:M (Option Int):=fun s=>some (none,s)
noncomputable def Xh (e:M T):M (Option Int):=fun s=>match e s with
  | some (.int i,s1)=>some (some i,s1)
  | _=>none
noncomputable def K4 (m:M T) (lo hi:M (Option Int)):M T:=fun s=>match m s with
  | some (t,s1)=>match lo s1 with
    | some (l,s2)=>match hi s2 with
      | some (h,s3)=>match a7d l h t with
        | some u=>some (u,s3)
        | none=>none
      | none=>none
    | none=>none
  | none=>none
end C
end
noncomputable section
set_option linter.all false
set_option autoImplicit false
namespace C
open PySem PySem.Sem
noncomputable def a89:Bool→Heap→Addr→Addr→Nat→Prop
  | true,h,it,a,i=>h.IsListIter it a i
  | false,h,it,a,i=>h.IsTupleIter it a i
noncomputable def a6c:Bool→Heap→Addr→Array Value→Prop
  | true,h,a,xs=>h.IsList a xs
  | false,h,a,xs=>h.IsTuple a xs
theorem a89.to {k:Bool} {h h':Heap} {it a:Addr} {i:Nat} (x:a89 k h it a i) (e:∀ o,h.get? it=some o→h'.get? it=some o):a89 k h' it a i:=by
  cases k <;> obtain ⟨o,ho,r⟩:=x <;> exact ⟨o,e o ho,r⟩
theorem a89.obj {k:Bool} {h:Heap} {it a:Addr} {i:Nat} (x:a89 k h it a i):∃ o,h.get? it=some o∧∀ v,o.data≠.cell v:=by
  cases k <;> obtain ⟨o,ho,_,d⟩:=x <;> exact ⟨o,ho,fun v z=>by rw [d] at z; cases z⟩
theorem a6c.to {k:Bool} {h h':Heap} {a:Addr} {xs:Array Value} (x:a6c k h a xs) (e:∀ o,h.get? a=some o→h'.get? a=some o):a6c k h' a xs:=by
  cases k <;> obtain ⟨o,ho,r⟩:=x <;> exact ⟨o,e o ho,r⟩
noncomputable section
variable {prog:Program} {w:World} {A:Around} {E:Value→Shared→Prop} {s:Shared}
end
structure ae6 (h:Heap) (z ti to' i1 i2:Addr) (f:Value):Prop where
  zip:IsZip h z ti to' f
  its:IsPair h ti (.ref i1) (.ref i2)
  kept:∃ a b,IsPair h to' a b
structure Far (z ti to' i1 i2:Addr):Prop where
  nd:[z,ti,to',i1,i2].Nodup
theorem Far.all {z ti to' i1 i2:Addr} (f:Far z ti to' i1 i2):ti≠z∧to'≠z∧i1≠z∧i2≠z∧ti≠to'∧ti≠i1∧ti≠i2∧to'≠i1∧to'≠i2∧i1≠i2:=by
  have:=f.nd
  simp only [List.nodup_cons,List.mem_cons,List.not_mem_nil,or_false,not_or] at this
  obtain ⟨⟨a,b,c,d⟩,⟨e,f,g⟩,⟨h,i⟩,j,_⟩:=this
  exact ⟨Ne.symm a,Ne.symm b,Ne.symm c,Ne.symm d,e,f,g,h,i,j⟩
noncomputable section
variable {prog:Program} {w:World} {A:Around} {E:Value→Shared→Prop} {s:Shared}
end
noncomputable section
variable {prog:Program} {w:World} {A:Around} {E:Value→Shared→Prop} {s:Shared}
end
end C
end
noncomputable section
set_option linter.all false
set_option maxRecDepth 100000
set_option maxHeartbeats 4000002
set_option autoImplicit false
namespace C
open PySem PySem.Spec PyProof.Rows L2
noncomputable def Sq:Bool→PySem.W.Frag→Hp→Addr→List V→Prop
  | true,K,H,a,xs=>SqL K H a xs
  | false,K,H,a,xs=>SqT K H a xs
noncomputable section
variable {X:Cx} {pins:List (Addr × Obj)} {σ:L2.St} {H:Hp} {s:Shared} {a:Addr} {xs ys:List V} {k:Bool}
end
noncomputable section
variable {X:Cx} {B:Bas} {a b:Expr} {m m1 m2:M T} {pos p:Pos} {elts:List Expr} {x1:Nat} {tpos:Pos}
theorem Sq.mono {k:Bool} {K:PySem.W.Frag} {S H:Hp} {a:Addr} {vs:List V} (e:Same S H) (h:Sq k K S a vs):Sq k K H a vs:=by
  cases k with
  | true=>exact kj e h
  | false=>exact n8 e h
end
end C
end
noncomputable section
set_option linter.all false
set_option maxRecDepth 100000
set_option maxHeartbeats 4000002
set_option autoImplicit false
namespace C
open PySem PySem.Spec PyProof.Rows L2
noncomputable section
variable {X:Cx}
variable {B:Bas} {o e:Expr} {m1 m2:M T} {apos cpos:Pos}
end
end C
end
noncomputable section
set_option linter.all false
set_option maxRecDepth 100000
set_option maxHeartbeats 4000002
set_option autoImplicit false
namespace C
open PySem PySem.Spec PyProof.Rows L2
theorem Uk (n d:Nat) (o:Option Int):sIx n d o=HT.sIx n d o:=by cases o <;> rfl
inductive oOf (K:PySem.W.Frag) (B:Bas) (m:M (Option Int)) (σ:L2.St) (H:Hp) (Q:Option Int→Hp→Prop):Prop
  | mk (st:Sta) (ps:List (V × T)) (S:Hp) (as:List Addr) (R:Rel K B st σ H ps S as) (o:Option Int) (st':Sta) (e:m st=some (o,st')) (q:∀ H' S' as',Rel K B st' σ H' ps S' as'→Q o H')
noncomputable section
variable {X:Cx} {B:Bas} {a e:Expr} {m:M T} {ml mh:M (Option Int)} {lo hi:Option Expr} {pos p2:Pos}
theorem a6k:PO X none (oOf X.K B Xz):=fun pins s σ H Q I ⟨st,ps,S,as,R,o,st',e,q⟩=>a5z pins s σ H Q I (by cases e; exact q H S as R)
theorem a5f (h:PE X e (tOf X.K B m)):PO X (some e) (oOf X.K B (Xh m)):=fun pins s σ H Q I z9=>a6e h pins s σ H Q I (by
  obtain ⟨st,ps,S,as,R,o,st',eo,q⟩:=z9
  unfold Xh at eo
  split at eo
  · rename_i i s1 e1
    cases eo
    refine ⟨st,ps,S,as,R,.int i,_,e1,fun v H1 S1 as1 R1=>?_⟩
    cases R1.top
    exact ⟨i,rfl,q H1 S1 as1 R1.drop⟩
  · cases eo)
theorem Xd {s s':Sta} {v:T} (h:K4 m ml mh s=some (v,s')):∃ t s1 l s2 u,m s=some (t,s1)∧ml s1=some (l,s2)∧mh s2=some (u,s')∧a7d l u t=some v:=by
  unfold K4 at h
  split at h
  · rename_i t s1 e1
    split at h
    · rename_i l s2 e2
      split at h
      · rename_i u s3 e3
        split at h
        · rename_i w e4; cases h; exact ⟨t,s1,l,s2,u,e1,e2,e3,e4⟩
        · cases h
      · cases h
    · cases h
  · cases h
theorem uc.takes {K:PySem.W.Frag} {S:Hp} {as:List Addr}:∀ (n:Nat) {vs:List V} {ts:List T},uc K S as vs ts→uc K S as (vs.take n) (ts.take n)
  | 0,_,_,_=>.nil
  | _+1,_,_,.nil=>.nil
  | n+1,_,_,.cons h r=>.cons h (uc.takes n r)
theorem V8 {K:PySem.W.Frag} {S:Hp} {as:List Addr} {vs:List V} {ts:List T} (r:uc K S as vs ts) (lo hi:Option Int):uc K S as (a1e vs lo hi) (a7n ts lo hi):=by
  unfold a1e a7n
  rw [Uk,Uk,r.length]
  exact uc.takes _ (r.drop _)
theorem a1y (ha:PE X a (tOf X.K B m)) (hl:PO X lo (oOf X.K B ml)) (hh:PO X hi (oOf X.K B mh)):PE X (.Subscript a (.Slice lo hi none p2) pos) (tOf X.K B (K4 m ml mh)) :=
  (a2u (a5p.or a8i) ha hl hh).imp fun σ H Q z9=>by
    obtain ⟨st,ps,S,as,R,t,st',e,q⟩:=z9
    obtain ⟨t1,s1,l,s2,u,e1,e2,e3,e4⟩:=Xd e
    refine ⟨st,ps,S,as,R,t1,s1,e1,fun v H1 S1 as1 R1=>⟨s1,_,S1,as1,R1,l,s2,e2,fun H2 S2 as2 R2=>⟨s2,_,S2,as2,R2,u,st',e3,fun H3 S3 as3 R3=>?_⟩⟩⟩
    have top:=R3.top
    cases top with
    | @lst b vs ts g1 g2 =>
      simp only [a7d] at e4; cases e4
      refine .inl ⟨b,vs,rfl,kj R3.sub g1,fun p hp=>?_⟩
      have x:=Ext.laid R3.sub hp (.lst (a1e vs l u))
      exact q _ _ _ _ ((R3.drop.ext x).push (.lst (SqL.of jf) ((V8 g2 l u).mono x.s nol)))
    | @tup b vs ts g1 g2 =>
      simp only [a7d] at e4
      split at e4
      · cases e4
      · rename_i hw
        cases e4
        refine .inr ⟨b,vs,rfl,n8 R3.sub g1,?_,fun p hp=>?_⟩
        · rw [Uk,Uk,← g2.length] at hw; exact hw
        · have x:=Ext.laid R3.sub hp (.tup (a1e vs l u))
          exact q _ _ _ _ ((R3.drop.ext x).push (.tup (SqT.of jf) ((V8 g2 l u).mono x.s nol)))
    | _=>exact jh e4
end
noncomputable section
variable {prog:Program} {w:World} {A:Around} {E:Value→Shared→Prop} {s:Shared}
end
noncomputable section
variable {X:Cx} {B:Bas} {e:Expr} {te:TE} {m m1 m2:M T} {pos p p2 p3 p4:Pos} {j:Nat}
end
end C
end
noncomputable section
end
noncomputable section
set_option linter.all false
set_option autoImplicit false
namespace C
open PySem PySem.Spec L2
noncomputable def Held (K:PySem.W.Frag) (u:Value) (t:T):Prop:=∃ v,RelV v u∧∀ S as,Rep K S as v t
noncomputable def Fp (K:PySem.W.Frag) (us:List Value) (ts:List T):Prop:=∃ vs,Vals vs us∧∀ S as,uc K S as vs ts
noncomputable section
variable {K:PySem.W.Frag}
theorem Held.int {i:Int} {tk:Tok}:Held K (.int i tk) (.int i):=⟨.int i,⟨tk,rfl⟩,fun _ _=>.int i⟩
theorem Held.str {x:Str} {tk:Tok}:Held K (.str x tk) (.str x):=⟨.str x,⟨tk,rfl⟩,fun _ _=>.str x⟩
theorem Held.bl {b:Bool}:Held K (.bool b) (.bl b):=⟨.bl b,rfl,fun _ _=>.bl b⟩
theorem Held.non:Held K .none .non:=⟨.non,rfl,fun _ _=>.non⟩
theorem Fp.nil:Fp K [] []:=⟨[],.nil,fun _ _=>.nil⟩
theorem Fp.cons {u:Value} {t:T} {us:List Value} {ts:List T} (h:Held K u t) (hs:Fp K us ts):Fp K (u::us) (t::ts):=by
  obtain ⟨v,r,e⟩:=h
  obtain ⟨vs,rs,es⟩:=hs
  exact ⟨v::vs,.cons r rs,fun S as=>.cons (e S as) (es S as)⟩
theorem Held.tup {a:Addr} {us:List Value} {n:Nat} {sl:Array (Option Value)} {ts:List T} (h:K.lookup a=some ⟨.type "tuple",none,.seq us.toArray n,sl⟩) (hz:us.length≤1000) (hs:Fp K us ts):Held K (.ref a) (.tup ts):=by
  obtain ⟨vs,rs,es⟩:=hs
  refine ⟨.ref a,rfl,fun S as=>.tup (.inr ⟨_,us.toArray,n,h,rfl,rfl,rfl,?_,?_⟩) (es S as)⟩
  · rw [List.size_toArray,sizeLine_eq]; omega
  · exact rs
theorem Held.lst {a:Addr} {us:List Value} {n:Nat} {sl:Array (Option Value)} {ts:List T} (h:K.lookup a=some ⟨.type "list",none,.seq us.toArray n,sl⟩) (hz:us.length≤1000) (hs:Fp K us ts):Held K (.ref a) (.lst ts):=by
  obtain ⟨vs,rs,es⟩:=hs
  refine ⟨.ref a,rfl,fun S as=>.lst (.inr ⟨_,us.toArray,n,h,rfl,rfl,rfl,?_,?_⟩) (es S as)⟩
  · rw [List.size_toArray,sizeLine_eq]; omega
  · exact rs
end
noncomputable section
variable {X:Cx} {B:Bas} {pos:Pos}
theorem Vx {x:Str} {t:T} (hg:Gl X x) (h:∃ u,X.mg x=some u∧Held X.K u t) (hd:(x==("__debug__" : Str))=false:=by decide):PE X (.Name x pos) (tOf X.K B (au t)):=by
  obtain ⟨u,h,v,r,e⟩:=h
  exact Ja (v:=v) (a05 hg h r hd) e
end
end C
end
noncomputable section
set_option linter.all false
set_option maxRecDepth 100000
set_option autoImplicit false
namespace C
open PySem PySem.Spec PyProof.Rows
noncomputable section
variable {prog:Program} {w:World} {A:Around} {E:Value→Shared→Prop} {s:Shared}
theorem a4q {a:Addr} {o:Obj} {es es':Array (Int × Value)} {ep:Nat} {t t':SetTable} (ho:s.heap.get? a=some o) (hd:o.data=.set es ep t) :
    (s.heap.update a (Obj.putSet es' t')).get? a=some { o with data:=.set es' (ep+1) t' }:=by
  have g:=Heap.get?_update_self (Obj.putSet es' t') ho (by rw [putSet_of es' t' hd]; rfl)
  rwa [putSet_of es' t' hd] at g
end
end C
end
noncomputable section
set_option linter.all false
set_option maxRecDepth 100000
set_option maxHeartbeats 4000002
set_option autoImplicit false
namespace C
open PySem PySem.Spec PyProof.Rows
noncomputable section
variable {prog:Program} {w:World} {A:Around} {R:Result→Shared→Prop} {I:Addr} {fp wr:List Addr} {G:Array GenState→Array GenState→Prop} {n:Nat} {P:Nat→Value→Prop} {St:Nat→Shared→Prop} -- here
end
noncomputable section
variable {prog:Program} {w:World} {A:Around} {E:Value→Shared→Prop} {s:Shared}
end
end C
end
noncomputable section
set_option linter.all false
set_option maxRecDepth 100000
set_option maxHeartbeats 4000002
set_option autoImplicit false
namespace C
open PySem PySem.Spec PyProof.Rows
noncomputable section
variable {prog:Program} {w:World} {A:Around} {E:Value→Shared→Prop} {s:Shared}
end
end C
end
noncomputable section
set_option linter.all false
set_option maxRecDepth 100000
set_option maxHeartbeats 4000002
set_option autoImplicit false
namespace C
open PySem PySem.Spec PyProof.Rows
noncomputable section
variable {prog:Program} {w:World} {A:Around} {E:Value→Shared→Prop} {s:Shared}
end
end C
end
noncomputable section
set_option linter.all false
set_option maxRecDepth 100000
set_option maxHeartbeats 4000002
set_option autoImplicit false
namespace C
open PySem PySem.Spec PyProof.Rows
noncomputable section
variable {prog:Program} {w:World} {A:Around} {E:Value→Shared→Prop} {s:Shared} {I a:Addr} {i n ep:Nat} {o:Obj} {es:Array (Int × Value)} {t:SetTable} {Q:Option Value→Shared→Prop}
end
end C
end
noncomputable section
set_option linter.all false
set_option maxRecDepth 100000
set_option maxHeartbeats 4000002
set_option autoImplicit false
namespace C
open PySem PySem.Spec PyProof.Rows
noncomputable section
variable {prog:Program} {w:World} {A:Around} {E:Value→Shared→Prop} {s:Shared} {I a q:Addr} {i n ep:Nat} {o:Obj} {es:Array (Int × Value)} {t:SetTable} {Q:Option Value→Shared→Prop} {ps:List Nat}
end
end C
end
noncomputable section
set_option linter.all false
set_option maxRecDepth 100000
set_option maxHeartbeats 4000002
set_option autoImplicit false
namespace C
open PySem PySem.Spec PyProof.Rows
noncomputable section
variable {prog:Program} {w:World} {A:Around} {E:Value→Shared→Prop} {s:Shared} {I a q:Addr} {n ep:Nat} {o:Obj} {es:Array (Int × Value)} {t:SetTable} {ps:List Nat}
end
end C
end
noncomputable section
set_option linter.all false
set_option maxRecDepth 100000
set_option maxHeartbeats 4000002
set_option autoImplicit false
namespace C
open PySem PySem.Spec PyProof.Rows
noncomputable section
variable {prog:Program} {w:World} {A:Around} {E:Value→Shared→Prop} {s:Shared} {a:Addr} {o:Obj} {l:List Str}
end
end C
end
noncomputable section
set_option linter.all false
set_option maxRecDepth 100000
set_option maxHeartbeats 4000002
set_option autoImplicit false
namespace C
open PySem PySem.Spec PyProof.Rows
noncomputable section
variable {prog:Program} {w:World} {A:Around} {E:Value→Shared→Prop} {s:Shared} {a:Addr} {o:Obj} {l:List Str}
end
end C
end
noncomputable section
set_option linter.all false
set_option maxRecDepth 100000
set_option maxHeartbeats 4000002
set_option autoImplicit false
namespace C
open PySem PySem.Spec PyProof.Rows L2
noncomputable section
variable {X:Cx} {B:Bas} {e:Expr} {m1:M T} {p1 p2 p3 p4:Pos}
end
end C
end
noncomputable section
set_option linter.all false
set_option maxRecDepth 100000
set_option maxHeartbeats 4000002
set_option autoImplicit false
namespace C
open PySem PySem.Spec PyProof.Rows L2
open AutoSeq1 (wpAny_loadPart') -- here
open MeetsSeq MeetsSeq2 MeetsSeq3 -- here
noncomputable section
variable {prog:Program} {w:World} -- here
end
noncomputable section
variable {X:Cx} {pins:List (Addr × Obj)} {σ:L2.St} {H S:Hp} {s:Shared} {as:List Addr}
end
end C
end
noncomputable section
set_option linter.all false
set_option maxRecDepth 100000
set_option maxHeartbeats 4000002
set_option autoImplicit false
namespace C
open PySem PySem.Spec PyProof.Rows L2
theorem a71 {K:PySem.W.Frag} {F:Fn} {H:Hp} {a:Addr} {ns:List Int} (hS:SqL K H a (ns.map V.int)) (hE:∃ st,F [.lst (ns.map T.int)] []=some (.bl true,st)):spF K 1 F [.ref a] H (fun v _=>v=.bl true) fun _ _ _=>False:=by
  obtain ⟨st,hF⟩:=hE
  have reps:∀ (S:Hp) (l:List Int),uc K S [] (l.map V.int) (l.map T.int):=fun S l=>by
    induction l with
    | nil=>exact .nil
    | cons x l ih=>exact .cons (.int x) ih
  let S:Hp:=fun p=>if p=a then H p else none
  have sa:S a=H a:=if_pos rfl
  have sub:Same S H:=fun p u h=>by
    by_cases e:p=a
    · subst e; rw [← sa]; exact h
    · have:S p=none:=if_neg e
      rw [this] at h; cases h
  have sq:SqL K S a (ns.map V.int):=by
    rcases hS with h | h
    · refine .inl ?_
      unfold Rd at h ⊢
      rw [sa]; exact h
    · exact .inr h
  refine ⟨S,[],[],[.lst (ns.map T.int)],.bl true,st,sub,⟨rfl,.nil,fun n so e=>by simp at e⟩,.cons (.lst sq (reps S ns)) .nil,rfl,hF,fun v H' S' as' _ _ _ r=>?_⟩
  cases r
  rfl
end C
end
noncomputable section
set_option linter.all false
set_option autoImplicit false
namespace C
open PySem
end C
end
noncomputable section
set_option linter.all false
set_option autoImplicit false
namespace C
open PySem
noncomputable def ad7 (tbl:List (Str × Str)):T→Option T
  | .str x=>(tbl.lookup x).map .str
  | _=>none
noncomputable def Ft (lo:Int) (n:Nat):List T:=(List.range n).map fun (k:Nat)=>.int (lo+(k:Int))
noncomputable def Dq (a b:M T):M (List T):=fun s=>match a s with
  | some (.int lo,s1)=>match b s1 with
    | some (.int hi,s2)=>if lo.natAbs<lim∧hi.natAbs<lim then some (Ft lo (hi - lo).toNat,s2) else none
    | _=>none
  | _=>none
end C
end
noncomputable section
set_option linter.all false
set_option maxRecDepth 100000
set_option autoImplicit false
namespace C
open PySem PySem.Spec L2
inductive a7c (w:World):List DictEntry→List (Str × Str)→Prop
  | nil:a7c w [] []
  | cons {k v:Str} {t u:Tok} {h:Int} {es:List DictEntry} {tbl:List (Str × Str)}:h=hashStr w k→a7c w es tbl→a7c w ({ hash:=h,key:=.str k t,val:=.str v u } :: es) ((k,v)::tbl)
noncomputable def Z6 (K:PySem.W.Frag) (w:World) (a:Addr) (tbl:List (Str × Str)):Prop :=
  ∃ es ep,K.lookup a=some ⟨.type "dict",none,.dict es ep,#[]⟩∧a7c w es.toList tbl∧(tbl.map (·.1)).Nodup
theorem a7c.of {P:Program} {w:World} {es:List DictEntry} {tbl:List (Str × Str)} (h:a7c w es tbl) :
    ∃ vs:List (Key × Value),Pairs (nj P w) es vs∧vs.map (·.1)=tbl.map (fun p=>(Sum.inr p.1:Key))∧(∀ e∈es,∃ k,(nj P w).is k e.key=true∧e.hash=(nj P w).hash k) ∧
      ∀ x v,tbl.lookup x=some v→∃ tk,valueAt vs (Sum.inr x)=some (.str v tk):=by
  induction h with
  | nil=>exact ⟨[],.nil,rfl,fun e he=>(nomatch he),fun x v e=>(nomatch e)⟩
  | @cons k v t u h es tbl hh _ ih =>
    obtain ⟨vs,p,e1,e2,e3⟩:=ih
    refine ⟨(.inr k,.str v u)::vs,.cons (Ke k t) rfl p,by simp [e1],fun e he=>?_,fun x y e=>?_⟩
    · rcases List.mem_cons.mp he with rfl | he -- here
      · exact ⟨.inr k,Ke k t,hh⟩
      · exact e2 e he
    · rw [List.lookup_cons] at e
      unfold valueAt
      rw [List.find?_cons]
      by_cases hx:x=k
      · subst hx
        simp at e
        subst e
        exact ⟨u,by simp⟩
      · have h1:(x==k)=false:=beq_eq_false_iff_ne.mpr hx
        rw [h1] at e
        have h2:decide ((Sum.inr k:Key)=Sum.inr x)=false:=decide_eq_false fun z=>hx (Sum.inr.inj z).symm
        simp only [h2]
        exact e3 x y e
noncomputable section
variable {X:Cx} {B:Bas} {e:Expr} {m:M T} {pos p:Pos}
theorem a97 {x:Str} {tbl:List (Str × Str)} (hg:Gl X x) (h:∃ a,X.mg x=some (.ref a)∧Z6 X.K X.w a tbl) (he:PE X e (tOf X.K B m)) (hs:a7j e) (hd:(x==("__debug__" : Str))=false:=by decide) :
    PE X (.Subscript (.Name x p) e pos) (tOf X.K B (mUn (ad7 tbl) m)):=by
  obtain ⟨a,hm,es,ep,hk,tb,nd⟩:=h
  obtain ⟨vs,hp,e1,e2,e3⟩:=tb.of (P:=X.prog)
  intro pins s σ H Q I hw
  obtain ⟨st,ps,S,as,R,t,st',em,q⟩:=hw
  obtain ⟨k,em1,em2⟩:=Zf em
  refine Uc PySem.F.slot_dict_getitem.lookup hs (thn ((a05 (v:=.ref a) hg hm rfl hd) pins s σ H (fun v H'=>v=.ref a∧H'=H) I ⟨rfl,rfl⟩) fun u s1 z1=>?_)
  obtain ⟨v1,H1,I1,r1,rfl,rfl⟩:=z1
  obtain rfl:u=Value.ref a:=r1
  refine thn (he pins s1 σ H1 (fun v H2=>∃ y w',v=.str y∧tbl.lookup y=some w'∧Q (.str w') H2) I1 ⟨st,ps,S,as,R,k,st',em1,fun v H2 S2 as2 R2=>?_⟩) fun iv s2 z2=>?_
  · unfold ad7 at em2
    split at em2
    · rename_i y
      cases hl:tbl.lookup y with
      | none=>rw [hl] at em2; cases em2
      | some w' =>
        rw [hl] at em2
        cases em2
        have top:=R2.top
        cases top
        exact ⟨y,w',rfl,hl,q _ H2 S2 as2 (R2.drop.push (.str w'))⟩
    · cases em2
  · obtain ⟨v2,H2,I2,r2,y,w',rfl,hl,hq⟩:=z2
    have dd:s2.heap.DictOf (nj X.prog X.w) a vs:=⟨_,es,ep,I2.kIn a _ hk,⟨rfl,rfl,rfl⟩,rfl,fun e he=>e2 e (Array.mem_toList_iff.mpr he),hp,by
      rw [e1]
      have:(tbl.map fun p=>(Sum.inr p.1:Key))=(tbl.map (·.1)).map Sum.inr:=by rw [List.map_map]; rfl
      rw [this]
      exact List.Pairwise.map _ (fun a b hab z=>hab (Sum.inr.inj z)) nd⟩
    obtain ⟨tk,hv⟩:=e3 y w' hl
    exact ⟨dd.typeIs,wpAny_getItem_of (Rb (k:=.inr y) r2) dd.mapOf hv ⟨.str w',H2,I2.tok _,⟨tk,rfl⟩,hq⟩⟩
end
end C
end
noncomputable section
set_option linter.all false
set_option autoImplicit false
namespace C
open PySem
end C
end
noncomputable section
set_option linter.all false
set_option autoImplicit false
namespace C
open PySem
noncomputable def keysOf:List T→Option (List Key)
  | []=>some []
  | t::r=>match keyOf t,keysOf r with
    | some k,some q=>some (k::q)
    | _,_=>none
noncomputable def Ef (k:List Key):List (List Key × T)→Option T
  | []=>none
  | (q,t)::r=>if q=k then some t else Ef k r
noncomputable def V2 (k:List Key) (t:T) (kvs:List (List Key × T)):List (List Key × T) :=
  if kvs.any fun p=>decide (p.1=k) then kvs.map fun p=>if p.1=k then (p.1,t) else p else kvs++[(k,t)]
noncomputable def U8:M T:=fun s=>some (.obj s.sto.length,{ s with sto:=s.sto++[.dit []] })
noncomputable def jt (o k:M T):M T:=fun s=>match o s with
  | some (.obj n,s1)=>match k s1 with
    | some (.tup ts,s2)=>match s2.sto[n]?,keysOf ts with
      | some (.dit kvs),some q=>match Ef q kvs with
        | some t=>some (t,s2)
        | none=>none
      | _,_=>none
    | _=>none
  | _=>none
noncomputable def Fq (o:M T) (ks:M (List T)) (v:M T):S:=fun s=>match v s with
  | some (t,s1)=>match o s1 with
    | some (.obj n,s2)=>match ks s2 with
      | some (ts,s3)=>match s3.sto[n]?,keysOf ts with
        | some (.dit kvs),some q=>if kvs.length<lim then some (.next,{ s3 with sto:=s3.sto.set n (.dit (V2 q t kvs)) }) else none
        | _,_=>none
      | none=>none
    | _=>none
  | none=>none
end C
end
noncomputable section
set_option linter.all false
set_option maxRecDepth 100000
set_option maxHeartbeats 4000002
set_option autoImplicit false
namespace C
open PySem PySem.Spec PyProof.Rows L2
theorem Ow {o k:M T} {s s':Sta} {t:T} (h:jt o k s=some (t,s')):∃ n s1 ts kvs q,o s=some (.obj n,s1)∧k s1=some (.tup ts,s')∧s'.sto[n]? = some (.dit kvs)∧keysOf ts=some q∧Ef q kvs=some t:=by
  unfold jt at h
  split at h
  · rename_i n s1 e1
    split at h
    · rename_i ts s2 e2
      split at h
      · rename_i kvs q e3 e4
        split at h
        · rename_i t' e5
          cases h
          exact ⟨n,s1,ts,kvs,q,e1,e2,e3,e4,e5⟩
        · cases h
      · cases h
    · cases h
  · cases h
theorem Ub {o:M T} {ks:M (List T)} {v:M T} {s s':Sta} {fl:Flow} (h:Fq o ks v s=some (fl,s')) :
    ∃ t s1 n s2 ts s3 kvs q,v s=some (t,s1)∧o s1=some (.obj n,s2)∧ks s2=some (ts,s3)∧s3.sto[n]? = some (.dit kvs)∧keysOf ts=some q∧kvs.length<lim∧fl=.next∧s' = { s3 with sto:=s3.sto.set n (.dit (V2 q t kvs)) }:=by
  unfold Fq at h
  split at h
  · rename_i t s1 e1
    split at h
    · rename_i n s2 e2
      split at h
      · rename_i ts s3 e3
        split at h
        · rename_i kvs q e4 e5
          split at h
          · rename_i hl
            cases h
            exact ⟨t,s1,n,s2,ts,s3,kvs,q,e1,e2,e3,e4,e5,hl,rfl,rfl⟩
          · cases h
        · cases h
      · cases h
    · cases h
  · cases h
noncomputable section
variable {K:PySem.W.Frag} {S:Hp} {as:List Addr}
theorem Yw:∀ {ts:List T} {vs:List V} {q:List L2.Key},uc K S as vs ts→keysOf ts=some q→vs=q.map kV
  | [],_,_,h0,h=>by cases h0; cases h; rfl
  | t::r,_,q,h0,h=>by
    cases h0 with | cons a b=>?_
    simp only [keysOf] at h
    cases e1:keyOf t with
    | none=>rw [e1] at h; cases h
    | some k =>
      cases e2:keysOf r with
      | none=>rw [e1,e2] at h; cases h
      | some qs =>
        rw [e1,e2] at h
        cases h
        rw [Oz a e1,Yw b e2,List.map_cons]
theorem Km.get (k:List L2.Key):∀ {vs:List (List L2.Key × V)} {ts:List (List L2.Key × T)} {t:T},Km K S as vs ts→Ef k ts=some t→∃ z,Ln vs k=some z∧Rep K S as z t
  | _,[],_,h0,h=>by cases h
  | _,(q,_)::_,t,h0,h=>by
    cases h0 with | cons a b=>?_
    unfold Ef at h
    by_cases e:q=k
    · rw [if_pos e] at h; cases h
      exact ⟨_,Gm e,a⟩
    · rw [if_neg e] at h
      obtain ⟨z,h1,h2⟩:=Km.get k b h
      exact ⟨z,by rw [Gf e]; exact h1,h2⟩
theorem Km.put {k:List L2.Key} {v:V} {t:T} (r:Rep K S as v t) {vs:List (List L2.Key × V)} {ts:List (List L2.Key × T)} (h:Km K S as vs ts):Km K S as (putK vs k v) (V2 k t ts):=by
  have any:∀ {vs:List (List L2.Key × V)} {ts:List (List L2.Key × T)},Km K S as vs ts→(vs.any fun kv=>decide (kv.1=k))=(ts.any fun p=>decide (p.1=k)):=by
    intro vs ts h
    induction vs generalizing ts with
    | nil=>cases h; rfl
    | cons p r ih=>cases h with | cons h1 h2=>rw [List.any_cons,List.any_cons,ih h2]
  have mp:∀ {vs:List (List L2.Key × V)} {ts:List (List L2.Key × T)},Km K S as vs ts→Km K S as (vs.map fun kv=>if kv.1=k then (kv.1,v) else kv) (ts.map fun p=>if p.1=k then (p.1,t) else p):=by
    intro vs ts h
    induction vs generalizing ts with
    | nil=>cases h; exact .nil
    | cons p rr ih =>
      cases h with
      | @cons q v0 t0 _ _ h1 h2 =>
        rw [List.map_cons,List.map_cons]
        by_cases e:q=k
        · rw [if_pos e,if_pos e]; exact .cons r (ih h2)
        · rw [if_neg e,if_neg e]; exact .cons h1 (ih h2)
  have ap:∀ {vs:List (List L2.Key × V)} {ts:List (List L2.Key × T)},Km K S as vs ts→Km K S as (vs++[(k,v)]) (ts++[(k,t)]):=by
    intro vs ts h
    induction vs generalizing ts with
    | nil=>cases h; exact .cons r .nil
    | cons p rr ih=>cases h with | cons h1 h2=>exact .cons h1 (ih h2)
  unfold putK V2
  rw [any h]
  split
  · exact mp h
  · exact ap h
end
noncomputable section
variable {X:Cx} {pins:List (Addr × Obj)} {σ:L2.St} {H:Hp} {s:Shared} {a b:Addr} {u:Value} {v:V} {A:Around} {E:Value→Shared→Prop}
theorem aa1 {ks:List L2.Key} (I:Inv X pins σ H s) (e:SqT X.K H b (ks.map kV)):(tupleKind (nj X.prog X.w)).is s.heap ks b:=by
  obtain ⟨its,r,⟨o,h1,h2,n,h3⟩,_⟩:=I.tuple e
  exact ⟨o,its.toArray,n,h1,h2,h3,by simpa using Jq r⟩
theorem Xj {Q:Value→Shared→Prop} {kvs:List (List L2.Key × V)} {k:List L2.Key} (hu:A.units+1<cLine) (I:Inv X pins σ H s) (e:Rd H a (.dT kvs)) (eb:SqT X.K H b (k.map kV)) (l:Ln kvs k=some v) (h:∀ w' s',Inv X pins σ H s'→RelV v w'→Q w' s') :
    wpAny (model X.prog X.w) A (getItem (.ref a) (.ref b)) Q E s:=by
  obtain ⟨z,hd,xs,rel,dd⟩:=O7 I.hok e
  obtain ⟨w',hw,rw'⟩:=Og.some_of (v:=v) (o:=(atKey xs k).map (·.2)) (by rw [← l]; exact rel.val k)
  obtain ⟨p,hp,hp2⟩:=Option.map_eq_some_iff.mp hw
  refine wpAny_getItem_heap (tupleKind_room_in1 hu) (aa1 I eb) dd hp ?_
  rw [hp2]
  exact h w' _ (I.tok _) rw'
end
noncomputable section
variable {X:Cx} {B:Bas} {o k e:Expr} {es:List Expr} {mo mk mv:M T} {ms:M (List T)} {td ty:TE} {i:Expr} {pos pos' p2:Pos} {j:Nat}
theorem a3r (hu:X.A.units+1<cLine) (ho:PE X o td) (hi:PE X i ty) (hs:a7j i) :
    PE X (.Subscript o i pos) (fun σ H Q=>td σ H fun x H1=>ty σ H1 fun y H2=>∃ a b v kvs q,x=.ref a∧y=.ref b∧Rd H2 a (.dT kvs)∧SqT X.K H2 b (q.map kV)∧Ln kvs q=some v∧Q v H2):=by
  intro pins s σ H Q I h
  refine Uc PySem.F.slot_dict_getitem.lookup hs (thn (ho pins s σ H _ I h) fun u s1 z1=>?_)
  obtain ⟨x,H1,I1,rx,q1⟩:=z1
  refine thn (hi pins s1 σ H1 _ I1 q1) fun iv s2 z2=>?_
  obtain ⟨y,H2,I2,ry,a,b,v,kvs,q,ex,ey,g1,g2,g3,q2⟩:=z2
  subst ex
  subst ey
  obtain rfl:u=Value.ref a:=rx
  obtain rfl:iv=Value.ref b:=ry
  refine ⟨?_,Xj hu I2 g1 g2 g3 fun w' s3 I3 rw'=>⟨v,H2,I3,rw',q2⟩⟩
  obtain ⟨_,_,xs,_,dd⟩:=O7 I2.hok g1
  exact dd.typeIs
theorem a08:PE X (.Dict [] [] pos) (tOf X.K B U8):=a3t.imp fun σ H Q z9=>by
  obtain ⟨st,ps,S,as,R,t,st',e,q⟩:=z9
  cases e
  intro p hp
  exact q _ _ _ _ (R.newObj hp ⟨[],jf,.nil⟩)
theorem yt (hu:X.A.units+1<cLine) (ho:PE X o (tOf X.K B mo)) (hk:PE X k (tOf X.K B mk)) (hs:a7j k):PE X (.Subscript o k pos) (tOf X.K B (jt mo mk)):=(a3r hu ho hk hs).imp fun σ H Q z9=>by
  obtain ⟨st,ps,S,as,R,t,st',e,q⟩:=z9
  obtain ⟨n,s1,ts,kvs,qk,e1,e2,e3,e4,e5⟩:=Ow e
  refine ⟨st,ps,S,as,R,_,s1,e1,fun v H1 S1 as1 R1=>⟨s1,_,S1,as1,R1,_,st',e2,fun u H2 S2 as2 R2=>?_⟩⟩
  have t2:=R2.top2
  have t1:=R2.top
  cases t2 with
  | @obj _ a ha =>
    obtain ⟨a',h1,h2,vs,h3,h4⟩:=R2.sto.at' n _ e3
    rw [ha] at h1; cases h1
    cases t1 with
    | @tup b us _ g1 g2 =>
      have ey:=Yw g2 e4
      subst ey
      obtain ⟨z,z1,z2⟩:=h4.get qk e5
      exact ⟨a,b,z,vs,qk,rfl,rfl,.inl h3,n8 R2.sub g1,z1,q z H2 S2 as2 (R2.drop.drop.push z2)⟩
theorem a1a (hu:X.A.units+1<cLine) (ho:PE X o (tOf X.K B mo)) (hk:PA X es (aOf X.K B ms)) (hm:∀ st ts st',ms st=some (ts,st')→ts.length≤1000) (hv:PE X e (tOf X.K B mv)) (hs:swapsWith e (some (.Subscript o (.Tuple es j p2) pos')) pos.line X.env=pure false) :
    PS X (.Assign [.Subscript o (.Tuple es j p2) pos'] e pos) (sOf X.K B (Fq mo ms mv)):=(Yj hu ho (a4a hk) hv hs).imp fun D σ H z9=>by
  obtain ⟨st,ps,S,as,R,fl,st',e,q⟩:=z9
  obtain ⟨t,s1,n,s2,ts,s3,kvs,qk,e1,e2,e3,e4,e5,hl,rfl,rfl⟩:=Ub e
  refine ⟨st,ps,S,as,R,t,s1,e1,fun v H1 S1 as1 R1=>⟨s1,_,S1,as1,R1,_,s2,e2,fun x H2 S2 as2 R2=>⟨s2,_,S2,as2,R2,ts,s3,e3,fun us H3 S3 as3 R3 rs=>⟨?_,fun p hp=>?_⟩⟩⟩⟩
  · rw [rs.length]; exact Nat.le_of_lt (Gp (hm _ _ _ e3))
  · have x:=Ext.laid R3.sub hp (.tup us)
    have R4:=R3.ext x
    have t2:=R4.top
    have tv:Rep X.K _ as3 v t:=R4.pend _ (List.mem_cons_of_mem _ List.mem_cons_self)
    cases t2 with
    | @obj _ a ha =>
      obtain ⟨a',h1,h2,vs,h3,h4⟩:=R4.sto.at' n _ e4
      rw [ha] at h1; cases h1
      have ey:=Yw rs e5
      subst ey
      refine ⟨a,_,rfl,a5e.t h3 jf (by rw [h4.length]; exact Nat.lt_of_lt_of_le hl qt),q _ _ _ as3 (R4.drop.drop.a7w e4 ha ⟨_,jf,h4.put tv⟩)⟩
end
end C
end
noncomputable section
set_option linter.all false
set_option autoImplicit false
namespace C
open PySem PySem.W PyProof.Rows
end C
end
noncomputable section
set_option linter.all false
set_option maxRecDepth 100000
set_option maxHeartbeats 4000002
set_option autoImplicit false
namespace C
open PySem PySem.Spec PyProof.Rows L2
noncomputable section
variable {X:Cx} {B:Bas} {a b c e:Expr} {m:M T} {pos p:Pos} {u v:S}
end
end C
end
noncomputable section
set_option linter.all false
set_option maxRecDepth 100000
set_option maxHeartbeats 4000002
namespace HT
open PySem PyProof.Rows
noncomputable section
variable {prog:Program} {w:World} {A:Around} {E:Value→Shared→Prop} {s:Shared}
end
end HT
namespace C
open PySem PySem.Spec PyProof.Rows L2
noncomputable section
variable {X:Cx} {B:Bas} {a:Expr} {m:M T} {ml mh:M (Option Int)} {lo hi:Option Expr} {pos p2:Pos}
end
end C
end
noncomputable section
set_option linter.all false
set_option maxRecDepth 100000
set_option maxHeartbeats 4000002
set_option autoImplicit false
namespace C
open PySem PySem.W PySem.Spec PyProof.Rows L2
inductive a4d (h:Heap):List Value→List Str→Prop where
  | nil:a4d h [] []
  | cons {a:Addr} {o:Obj} {xs:List Value} {n:Nat} {x:Str} {t:Tok} {vs:List Value} {l:List Str}:h.get? a=some o→o.cls=.type "tuple" → o.data=.seq (Value.str x t::xs).toArray n→a4d h vs l→a4d h (.ref a::vs) (x::l)
theorem a4d.mono {h h':Heap} (k:∀ b o,h.get? b=some o→h'.get? b=some o):∀ {vs:List Value} {l:List Str},a4d h vs l→a4d h' vs l:=by
  intro vs l z
  induction z with
  | nil=>exact .nil
  | cons a b c _ ih=>exact .cons (k _ _ a) b c ih
theorem a4d.length {h:Heap}:∀ {vs:List Value} {l:List Str},a4d h vs l→vs.length=l.length
  | _,_,.nil=>rfl
  | _,_,.cons _ _ _ r=>congrArg (· + 1) r.length
noncomputable section
variable {prog:Program} {w:World} {A:Around} {E:Value→Shared→Prop} {s:Shared}
end
noncomputable section
variable {X:Cx} {pins:List (Addr × Obj)} {σ:L2.St} {H S:Hp} {s:Shared} {as:List Addr}
end
end C
end
noncomputable section
set_option linter.all false
set_option maxRecDepth 100000
set_option autoImplicit false
namespace C
open PySem L2
theorem Ka {a b:M T} {ts:List T} {s s':Sta} (h:Dq a b s=some (ts,s')):∃ (lo hi:Int) (s1:Sta),a s=some (.int lo,s1)∧b s1=some (.int hi,s')∧(-1000000<lo∧lo<1000000∧-1000000<hi∧hi<1000000)∧ts=Ft lo (hi - lo).toNat:=by
  unfold Dq at h
  split at h
  · rename_i lo s1 e1
    split at h
    · rename_i hi s2 e2
      split at h
      · rename_i hl; cases h; exact ⟨lo,hi,s1,e1,e2,by have:lo.natAbs<1000000∧hi.natAbs<1000000:=hl; (clear e2 hl e1; omega),rfl⟩
      · cases h
    · cases h
  · cases h
theorem U6 {lo:Int} {n i:Nat} {t:T} (h:(Ft lo n)[i]? = some t):i<n∧t=.int (lo+(i:Int)):=by
  unfold Ft at h
  rw [List.getElem?_map] at h
  cases z:(List.range n)[i]? with
  | none=>rw [z] at h; cases h
  | some k =>
    rw [z] at h; cases h
    obtain ⟨hi,e⟩:=List.getElem?_eq_some_iff.mp z
    rw [List.getElem_range] at e; subst e
    rw [List.length_range] at hi
    exact ⟨hi,rfl⟩
theorem a0j {m1 m2:M T}:∀ st ts st',Dq m1 m2 st=some (ts,st')→ts.length≤sizeLine:=fun st ts st' e=>by
  obtain ⟨lo,hi,s1,_,_,hl,rfl⟩:=Ka e
  unfold Ft
  rw [List.length_map,List.length_range,sizeLine_eq]
  omega
noncomputable section
variable {X:Cx} {B:Bas} {a b tg:Expr} {m1 m2:M T} {pos p:Pos}
theorem a00 (hg:Gl X "range") (hm:X.mg "range" = none) (h1:PE X a (tOf X.K B m1)) (h2:PE X b (tOf X.K B m2)) (hs:starEach [a,b] X.env=[(false,eval a X.env),(false,eval b X.env)]:=by rfl) (hs2:starEach [b] X.env=[(false,eval b X.env)]:=by rfl) :
    PI X tg (.Call (.Name "range" p) [a,b] [] pos) (iOf X.K B (Dq m1 m2)):=by
  intro pins s σ H R I hw
  refine Z1 (ta:=Wn (tOf X.K B m1) (Wn (tOf X.K B m2) a8g)) hg hm (qz h1 (qz h2 wu hs2) (by rw [hs,hs2])) hs hs2 pins s σ H R I ?_
  obtain ⟨st,ps,S,as,Rl,ts,st',e,hz,q⟩:=hw
  obtain ⟨lo,hi,s1,e1,e2,hl,rfl⟩:=Ka e
  refine ⟨st,ps,S,as,Rl,_,_,e1,fun v H1 S1 as1 R1=>⟨s1,_,S1,as1,R1,_,_,e2,fun u H2 S2 as2 R2=>?_⟩⟩
  have t2:=R2.top
  have t1:=R2.top2
  cases t2
  cases t1
  refine ⟨lo,hi,rfl,by (clear R2 R1 q hz e e2 e1 Rl I hs2 hs h2 h1 hm hg; omega),q _ H2 S2 as2 [] R2.drop.drop fun S3 as3 H3 _ hh=>⟨fun i t e=>?_,fun i hj=>?_⟩⟩
  · obtain ⟨hi,rfl⟩:=U6 e
    refine ⟨hi,fun x H' y=>⟨S3,by rw [y.1]; exact Ext.refl hh,?_⟩⟩
    have:=y.2; subst this
    exact .int _
  · show (hi - lo).toNat≤i
    unfold Ft at hj
    rwa [List.length_map,List.length_range] at hj
end
end C
end
noncomputable section
set_option linter.all false
set_option maxRecDepth 100000
set_option maxHeartbeats 4000002
set_option autoImplicit false
namespace C
open PySem PySem.Spec PyProof.Rows L2
noncomputable section
variable {K:PySem.W.Frag} {S:Hp} {as:List Addr}
end
noncomputable section
variable {X:Cx} {B:Bas} {a b e:Expr} {m m2:M T} {pos p1:Pos} {es:List Expr} {ms:M (List T)}
theorem Rel.base {K:PySem.W.Frag} {B:Bas} {st:Sta} {σ:L2.St} {H S:Hp} {ps:List (V × T)} {as:List Addr} (r:Rel K B st σ H ps S as):Rel K ⟨S,as,B.H⟩ st σ H ps S as :=
  ⟨r.sub,⟨Same.refl _,nol,fun p o h1 h2 h3=>by
    change S p=none at h2
    have b2:B.S p=none:=by
      cases q:B.S p with
      | none=>rfl
      | some u=>have:=r.grow.same _ _ q; rw [h2] at this; cases this
    have b3:p∉B.as:=fun q=>by obtain ⟨l,e⟩:=r.grow.more; exact h3 (by show p∈as; rw [e]; exact List.mem_append_left _ q)
    exact ⟨(r.grow.keep p o h1 b2 b3).1,h2,h3⟩⟩,fun i t f e=>by
      obtain ⟨v,h1,h2,h3⟩:=r.slots i t f e
      exact ⟨v,h1,h2,fun q=>by obtain ⟨p,ep,o⟩:=h3 q; exact ⟨p,ep,o.own,o.out,o.nas,o.new⟩⟩,r.apart,r.sto,r.pend,r.len⟩
end
end C
end
noncomputable section
set_option linter.all false
set_option maxRecDepth 100000
set_option maxHeartbeats 4000002
set_option autoImplicit false
namespace C
open PySem PySem.Spec
noncomputable section
variable {prog:Program} {w:World} {A:Around} {E:Value→Shared→Prop} {s:Shared} {it l:Addr} {xs:Array Value}
end
end C
end
noncomputable section
set_option linter.all false
set_option maxRecDepth 100000
set_option maxHeartbeats 4000002
set_option autoImplicit false
namespace C
open PySem PySem.Spec PyProof.Rows L2
noncomputable section
variable {X:Cx} {B:Bas} {a b e e1 e2:Expr} {m m1 m2:M T} {pos p1 p2 p3 p4:Pos} {lo hi:Option Expr} {ml mh:M (Option Int)}
end
end C
end
noncomputable section
set_option linter.all false
set_option maxRecDepth 100000
set_option maxHeartbeats 4000002
set_option autoImplicit false
namespace C
open PySem PySem.Spec PyProof.Rows L2
noncomputable section
variable {X:Cx} {B:Bas} {e1:Expr} {m1:M T} {pos p1:Pos}
end
end C
end
noncomputable section
namespace C
open PySem
mutual
noncomputable def flat:T→Bool
  | .tup xs=>flats xs
  | .lst _=>false
  | .dic _=>false
  | _=>true
noncomputable def flats:List T→Bool
  | []=>true
  | x::r=>flat x&&flats r
end
noncomputable def Ux:SO→Bool
  | .dic kvs=>flats (kvs.map (·.2))
  | .lst xs=>flats xs
  | .dit kvs=>flats (kvs.map (·.2))
noncomputable def M8 (is:List Nat) (m:M Bool):M Bool:=fun s=>match m ⟨lend is s.env,s.sto⟩ with
  | some (b,s1)=>if s1.sto.all Ux then some (b,⟨s.env,s1.sto⟩) else none
  | none=>none
end C
end
noncomputable section
set_option linter.all false
set_option autoImplicit false
namespace C
open PySem L2
noncomputable section
variable {K:PySem.W.Frag} {S S':Hp} {as:List Addr}
theorem Tn {a:Addr} {xs:List V} (e:∀ p u,S p=some u→S' p=some u∨(∃ vs,u=.lst vs)∨∃ vs,u=.dK vs) (h:SqT K S a xs):SqT K S' a xs:=by
  rcases h with h | h
  · rcases h with h | ⟨o,h⟩
    · rcases e _ _ h with z | ⟨_,z⟩ | ⟨_,z⟩
      · exact .inl (.inl z)
      · cases z
      · cases z
    · rcases e _ _ h with z | ⟨_,z⟩ | ⟨_,z⟩
      · exact .inl (.inr ⟨o,z⟩)
      · cases z
      · cases z
  · exact .inr h
theorem Rep.out (e:∀ p u,S p=some u→S' p=some u∨(∃ vs,u=.lst vs)∨∃ vs,u=.dK vs) {v:V} {t:T} (h:Rep K S as v t):flat t=true→Rep K S' as v t :=
  Rep.rec (motive_1:=fun v t _=>flat t=true→Rep K S' as v t) (motive_2:=fun v t _=>flats t=true→uc K S' as v t) (motive_3:=fun v t _=>flats (t.map (·.2))=true→Bs K S' as v t) (fun _=>.non) (fun b _=>.bl b) (fun i _=>.int i) (fun y _=>.str y) (fun h _ i f=>.tup (Tn e h) (i (by simpa only [flat] using f))) (fun _ _ _ f=>by simp [flat] at f) (fun _ _ _ f=>by simp [flat] at f) (fun h _=>.obj h) (fun _=>.nil) (fun _ _ a b f=>by simp only [flats,Bool.and_eq_true] at f; exact .cons (a f.1) (b f.2)) (fun _=>.nil) (fun _ _ a b f=>by simp only [List.map_cons,flats,Bool.and_eq_true] at f; exact .cons (a f.1) (b f.2)) h
theorem uc.out (e:∀ p u,S p=some u→S' p=some u∨(∃ vs,u=.lst vs)∨∃ vs,u=.dK vs) {v:List V} {t:List T} (h:uc K S as v t):flats t=true→uc K S' as v t :=
  uc.rec (motive_1:=fun v t _=>flat t=true→Rep K S' as v t) (motive_2:=fun v t _=>flats t=true→uc K S' as v t) (motive_3:=fun v t _=>flats (t.map (·.2))=true→Bs K S' as v t) (fun _=>.non) (fun b _=>.bl b) (fun i _=>.int i) (fun y _=>.str y) (fun h _ i f=>.tup (Tn e h) (i (by simpa only [flat] using f))) (fun _ _ _ f=>by simp [flat] at f) (fun _ _ _ f=>by simp [flat] at f) (fun h _=>.obj h) (fun _=>.nil) (fun _ _ a b f=>by simp only [flats,Bool.and_eq_true] at f; exact .cons (a f.1) (b f.2)) (fun _=>.nil) (fun _ _ a b f=>by simp only [List.map_cons,flats,Bool.and_eq_true] at f; exact .cons (a f.1) (b f.2)) h
theorem Bs.out (e:∀ p u,S p=some u→S' p=some u∨(∃ vs,u=.lst vs)∨∃ vs,u=.dK vs) {v:List (L2.Key × V)} {t:List (L2.Key × T)} (h:Bs K S as v t):flats (t.map (·.2))=true→Bs K S' as v t :=
  Bs.rec (motive_1:=fun v t _=>flat t=true→Rep K S' as v t) (motive_2:=fun v t _=>flats t=true→uc K S' as v t) (motive_3:=fun v t _=>flats (t.map (·.2))=true→Bs K S' as v t) (fun _=>.non) (fun b _=>.bl b) (fun i _=>.int i) (fun y _=>.str y) (fun h _ i f=>.tup (Tn e h) (i (by simpa only [flat] using f))) (fun _ _ _ f=>by simp [flat] at f) (fun _ _ _ f=>by simp [flat] at f) (fun h _=>.obj h) (fun _=>.nil) (fun _ _ a b f=>by simp only [flats,Bool.and_eq_true] at f; exact .cons (a f.1) (b f.2)) (fun _=>.nil) (fun _ _ a b f=>by simp only [List.map_cons,flats,Bool.and_eq_true] at f; exact .cons (a f.1) (b f.2)) h
theorem Km.out (e:∀ p u,S p=some u→S' p=some u∨(∃ vs,u=.lst vs)∨∃ vs,u=.dK vs) {v:List (List L2.Key × V)} {t:List (List L2.Key × T)} (h:Km K S as v t):flats (t.map (·.2))=true→Km K S' as v t:=by
  induction h with
  | nil=>intro _; exact .nil
  | cons h _ ih=>intro f; simp only [List.map_cons,flats,Bool.and_eq_true] at f; exact .cons (h.out e f.1) (ih f.2)
theorem Zn.out {H:Hp} {a:Addr} {so:SO} (e:∀ p u,S p=some u→S' p=some u∨(∃ vs,u=.lst vs)∨∃ vs,u=.dK vs) (h:Zn K S as H a so) (f:Ux so=true):Zn K S' as H a so:=by
  cases so with
  | dic ts=>obtain ⟨vs,h,r⟩:=h; exact ⟨vs,h,r.out e f⟩
  | lst ts=>obtain ⟨vs,h,r⟩:=h; exact ⟨vs,h,r.out e f⟩
  | dit ts=>obtain ⟨vs,h,r⟩:=h; exact ⟨vs,h,r.out e f⟩
end
noncomputable section
variable {X:Cx} {B:Bas} {e:Expr}
open Classical in
theorem a1t (is:List Nat) {mb:M Bool} (h:∀ B,PT X e (cOf X.K B mb)):PT X e (cOf X.K B (M8 is mb)):=by
  intro pins s σ H Q I z8
  obtain ⟨st,ps,S,as,R,b,st',em,q⟩:=z8
  unfold M8 at em
  split at em
  · rename_i b1 s1 e1
    split at em
    · rename_i hs1
      cases em
      let P:Addr→Prop:=fun p=>∃ i t,i∈is∧st.env[i]? = some (some (t,true))∧σ[i]? = some (some (.ref p))
      have own:∀ p,P p→S p=none∧p∉as∧B.H p=none∧((∃ vs,H p=some (.lst vs))∨∃ vs,H p=some (.dK vs)):=fun p z9=>by
        obtain ⟨i,t,_,ei,eσ⟩:=z9
        obtain ⟨v,h1,_,h3⟩:=R.slots i t true ei
        obtain ⟨p',rfl,o⟩:=h3 rfl
        rw [eσ] at h1; cases h1
        refine ⟨o.out,o.nas,o.new,?_⟩
        have ow:=o.own
        cases t with
        | lst ts=>obtain ⟨vs,hH,r⟩:=ow; exact .inl ⟨vs,hH⟩
        | dic ts=>obtain ⟨vs,hH,r⟩:=ow; exact .inr ⟨vs,hH⟩
        | _=>exact ow.elim
      let S1:Hp:=fun p=>if P p then H p else S p
      have s1pos:∀ p,P p→S1 p=H p:=fun p hp=>if_pos hp
      have s1neg:∀ p,¬ P p→S1 p=S p:=fun p hp=>if_neg hp
      have sub1:Same S1 H:=fun p u hu=>by
        by_cases hp:P p
        · rw [s1pos p hp] at hu; exact hu
        · rw [s1neg p hp] at hu; exact R.sub _ _ hu
      have sS:Same S S1:=fun p u hu=>by
        by_cases hp:P p
        · rw [s1pos p hp]; exact R.sub _ _ hu
        · rw [s1neg p hp]; exact hu
      have R1:Rel X.K ⟨S1,as,H⟩ ⟨lend is st.env,st.sto⟩ σ H [] S1 as:=by
        refine ⟨sub1,⟨Same.refl _,nol,fun p o a b c=>⟨a,b,c⟩⟩,fun i t f ei=>?_,fun i j t u p ei ej=>?_,⟨R.sto.len,R.sto.nd,fun n so en=>?_⟩,fun p hp=>(by cases hp),?_⟩
        · obtain ⟨rfl,g,eg,hg⟩:=Ul ei
          obtain ⟨v,h1,h2,h3⟩:=R.slots i t g eg
          refine ⟨v,h1,fun _=>?_,fun z=>by cases z⟩
          cases g with
          | false=>exact (h2 rfl).mono sS nol
          | true =>
            obtain ⟨p,rfl,o⟩:=h3 rfl
            have hp:P p:=⟨i,t,hg rfl,eg,h1⟩
            have ow:=o.own
            cases t with
            | lst ts=>obtain ⟨vs,hH,r⟩:=ow; exact .lst (SqL.of (by rw [s1pos p hp]; exact hH)) (r.mono sS nol)
            | dic ts=>obtain ⟨vs,hH,r⟩:=ow; exact .dic (.inl (by rw [s1pos p hp]; exact hH)) (r.mono sS nol)
            | _=>exact ow.elim
        · obtain ⟨z,_⟩:=Ul ei; cases z
        · obtain ⟨a,h1,h2,h3⟩:=R.sto.at' n so en
          refine ⟨a,h1,?_,h3.mono sS rfl⟩
          rw [s1neg a (fun hp=>(own a hp).2.1 (List.mem_of_getElem? h1))]; exact h2
        · show σ.length=(lend is st.env).length
          unfold lend
          rw [List.length_mapIdx]; exact R.len
      refine h ⟨S1,as,H⟩ pins s σ H Q I ⟨⟨lend is st.env,st.sto⟩,[],S1,as,R1,_,s1,e1,fun H' S' as' R'=>?_⟩
      let S2:Hp:=fun p=>if P p then none else S' p
      have s2pos:∀ p,P p→S2 p=none:=fun p hp=>if_pos hp
      have s2neg:∀ p,¬ P p→S2 p=S' p:=fun p hp=>if_neg hp
      have lent:∀ p,P p→S' p=H p∧H' p=H p:=fun p hp=>by
        rcases (own p hp).2.2.2 with ⟨vs,hv⟩ | ⟨vs,hv⟩
        · have a:=R'.grow.same p _ ((s1pos p hp).trans hv)
          exact ⟨a.trans hv.symm,(R'.sub _ _ a).trans hv.symm⟩
        · have a:=R'.grow.same p _ ((s1pos p hp).trans hv)
          exact ⟨a.trans hv.symm,(R'.sub _ _ a).trans hv.symm⟩
      have nas':∀ p,P p→p∉as':=fun p hp hm=>by
        obtain ⟨n,hn⟩:=List.mem_iff_getElem?.mp hm
        have ln:=(List.getElem?_eq_some_iff.mp hn).1
        rw [R'.sto.len] at ln
        obtain ⟨a,h1,h2,_⟩:=R'.sto.at' n _ (List.getElem?_eq_getElem ln)
        rw [hn] at h1; cases h1
        have:=(lent p hp).1
        rw [h2] at this
        rcases (own p hp).2.2.2 with ⟨vs,hv⟩ | ⟨vs,hv⟩ <;> (rw [hv] at this; cases this)
      have s12:Same S S2:=fun p u hu=>by
        by_cases hp:P p
        · rw [(own p hp).1] at hu; cases hu
        · rw [s2neg p hp]; exact R'.grow.same _ _ (sS _ _ hu)
      have sub2:Same S2 H':=fun p u hu=>by
        by_cases hp:P p
        · rw [s2pos p hp] at hu; cases hu
        · rw [s2neg p hp] at hu; exact R'.sub _ _ hu
      have out2:∀ p u,S' p=some u→S2 p=some u∨(∃ vs,u=.lst vs)∨∃ vs,u=.dK vs:=fun p u hu=>by
        by_cases hp:P p
        · have:=(lent p hp).1
          rw [hu] at this
          rcases (own p hp).2.2.2 with ⟨vs,hv⟩ | ⟨vs,hv⟩
          · rw [hv] at this; cases this; exact .inr (.inl ⟨_,rfl⟩)
          · rw [hv] at this; cases this; exact .inr (.inr ⟨_,rfl⟩)
        · exact .inl ((s2neg p hp).trans hu)
      have more:∃ l,as'=as++l:=R'.grow.more
      have keep:∀ p o,H p=some o→S p=none→p∉as→H' p=some o∧S2 p=none∧p∉as':=fun p o a b c=>by
        by_cases hp:P p
        · exact ⟨(lent p hp).2.trans a,s2pos p hp,nas' p hp⟩
        · obtain ⟨x,y,z⟩:=R'.grow.keep p o a ((s1neg p hp).trans b) c
          exact ⟨x,(s2neg p hp).trans y,z⟩
      refine q H' S2 as' ⟨sub2,⟨R.grow.same.trans s12,?_,fun p o a b c=>?_⟩,fun i t f ei=>?_,R.apart,⟨R'.sto.len,R'.sto.nd,fun n so en=>?_⟩,fun p hp=>(R.pend p hp).mono s12 more,R.len⟩
      · obtain ⟨l,e⟩:=R.grow.more
        obtain ⟨l',e'⟩:=more
        exact ⟨l++l',by rw [e',e,List.append_assoc]⟩
      · obtain ⟨x,y,z⟩:=R.grow.keep p o a b c
        exact keep p o x y z
      · obtain ⟨v,h1,h2,h3⟩:=R.slots i t f ei
        refine ⟨v,h1,fun z=>(h2 z).mono s12 more,fun z=>?_⟩
        obtain ⟨p,rfl,o⟩:=h3 z
        obtain ⟨ob,ho⟩:=o.own.there
        obtain ⟨x,y,z⟩:=keep p ob ho o.out o.nas
        refine ⟨p,rfl,?_,y,z,o.new⟩
        have ow:=o.own
        cases t with
        | lst ts=>obtain ⟨vs,hH,r⟩:=ow; exact ⟨vs,by rw [ho] at hH; cases hH; exact x,r.mono s12 more⟩
        | dic ts=>obtain ⟨vs,hH,r⟩:=ow; exact ⟨vs,by rw [ho] at hH; cases hH; exact x,r.mono s12 more⟩
        | _=>exact ow.elim
      · obtain ⟨a,h1,h2,h3⟩:=R'.sto.at' n so en
        refine ⟨a,h1,?_,h3.out out2 (List.all_eq_true.mp hs1 so (List.mem_of_getElem? en))⟩
        by_cases hp:P a
        · exact s2pos a hp
        · exact (s2neg a hp).trans h2
    · cases em
  · cases em
end
end C
end
noncomputable section
set_option linter.all false
namespace K
open C PySem
noncomputable def vm:Fn:=jo 6
  (jd (sNew 2 (au (.dic [])))
  (jd (yj (wz [3,4]) (qu (bw 1))
  (qm 2 (bw 3) (mOp uh (Hg 2 (bw 3) (au (.int 0))) (bw 4))))
  (jd (m6 5 (p7 1 [2] (hName 0) (qu (iz Tj (ak (bw 2) dh))) (gj (mOp neO (mOp cu (bw 1) (bw 0)) (au (.int 0)))) (iz (fun l=>some (.tup l)) (ak (bw 0) (ak (mOp cu (bw 1) (bw 0)) dh)))))
  (pq (iz (fun l=>some (.tup l)) (ak (bw 0) (ak (iz Aw (ak (bw 5) dh)) dh)))))))
noncomputable def Kp:Fn:=jo 2
  (pq (dw vm (ak (mOp uh (mOp cu (bw 0) (au (.int 0))) (mOp cu (bw 1) (au (.int 0)))) (ak (mOp uh (mOp cu (bw 0) (au (.int 1))) (mOp cu (bw 1) (au (.int 1)))) dh))))
noncomputable def Z9:Fn:=jo 2
  (pq (dw vm (ak (mOp Ji (mOp cu (bw 0) (au (.int 0))) (bw 1)) (ak (p7 2 [1] (wz [0,1]) (qu (mOp cu (bw 0) (au (.int 1)))) ql (iz (fun l=>some (.tup l)) (ak (bw 0) (ak (mOp Ji (bw 1) (bw 2)) dh)))) dh))))
noncomputable def ud:Fn:=jo 2
  (pq (dw Kp (ak (bw 0) (ak (dw Z9 (ak (bw 1) (ak (mUn Ho (au (.int 1))) dh))) dh))))
noncomputable def Eb:Fn:=jo 2
  (pq (mOp uh (mOp cu (bw 0) (au (.int 0))) (iz aad (ak (p7 2 [1] (wz [0,1]) (qu (mOp cu (bw 0) (au (.int 1)))) ql (mOp Ji (bw 1) (mOp cu (bw 2) (bw 0)))) dh))))
noncomputable def Qj:Fn:=jo 7
  (jd (m6 2 (mOp cu (bw 0) (au (.int 0))))
  (jd (sNew 3 (iz (fun l=>some (.lst l)) dh))
  (jd (yj (wz [4,5]) (qu (mOp cu (bw 0) (au (.int 1))))
  (jd (m6 6 (iz aag (ak (bw 1) (ak (bw 4) (ak (iz (fun l=>some (.tup l)) (ak (au (.int 0)) (ak (iz (fun l=>some (.tup l)) (ak (iz (fun l=>some (.tup l)) (ak (bw 4) (ak (au (.int 1)) dh))) dh)) dh))) dh)))))
  (jd (m6 2 (mOp uh (bw 2) (mOp Ji (bw 5) (mOp cu (bw 6) (au (.int 0))))))
  (jx 3 (mOp cu (dw Z9 (ak (bw 6) (ak (bw 5) dh))) (au (.int 1)))))))
  (pq (dw vm (ak (bw 2) (ak (bw 3) dh)))))))
mutual
noncomputable def uf:Nat→Fn
  | 0=>fun _ _=>none
  | n+1=>jo 4
      (jd (m6 3 (mOp cu (bw 0) (au (.int 0))))
      (jd (sIf (gj (mOp eqO (bw 3) (au (.str "most"))))
      (pq (mOp leT (dw Eb (ak (mOp cu (bw 0) (au (.int 1))) (ak (bw 1) dh))) (au (.int 0))))
      vo)
      (jd (sIf (gj (mOp eqO (bw 3) (au (.str "rest"))))
      (pq (mOp eqO (mOp ux (dw Eb (ak (mOp cu (bw 0) (au (.int 1))) (ak (bw 1) dh))) (mOp cu (bw 0) (au (.int 2)))) (au (.int 0))))
      vo)
      (jd (sIf (gj (mOp eqO (bw 3) (au (.str "at"))))
      (pq (mOp eqO (mOp cu (bw 2) (mOp cu (bw 0) (au (.int 1)))) (mOp cu (bw 0) (au (.int 2)))))
      vo)
      (jd (sIf (gj (mOp eqO (bw 3) (au (.str "not"))))
      (pq (rm (Dj (gj (dw (uf n) (ak (mOp cu (bw 0) (au (.int 1))) (ak (bw 1) (ak (bw 2) dh))))))))
      vo)
      (jd (sIf (gj (mOp eqO (bw 3) (au (.str "and"))))
      (pq (rm (Dj (gj (dw (zj n) (ak (au (.bl false)) (ak (mOp cu (bw 0) (au (.int 1))) (ak (bw 1) (ak (bw 2) dh)))))))))
      vo)
      (pq (dw (zj n) (ak (au (.bl true)) (ak (mOp cu (bw 0) (au (.int 1))) (ak (bw 1) (ak (bw 2) dh))))))))))))
noncomputable def zj:Nat→Fn
  | 0=>fun _ _=>none
  | n+1=>jo 5
      (jd (yj (hName 4) (qu (bw 1))
      (sIf (gj (mOp eqO (dw (uf n) (ak (bw 4) (ak (bw 2) (ak (bw 3) dh)))) (bw 0)))
      (pq (au (.bl true)))
      vo))
      (pq (au (.bl false))))
end
noncomputable def uq:Fn:=jo 3
  (jd (sIf (gj (mOp neO (mOp cu (bw 0) (au (.int 1))) (bw 1)))
  (pq (bw 0))
  vo)
  (pq (mIf (gj (mOp eqO (mOp cu (bw 0) (au (.int 2))) (bw 2))) (au (.tup [(.str "and"),(.tup [])])) (au (.tup [(.str "or"),(.tup [])])))))
mutual
noncomputable def jc:Nat→Fn
  | 0=>fun _ _=>none
  | n+1=>jo 5
      (jd (m6 4 (mOp cu (bw 0) (au (.int 0))))
      (jd (sIf (gj (mOp eqO (bw 4) (au (.str "most"))))
      (pq (iz (fun l=>some (.tup l)) (ak (au (.str "most")) (ak (dw Qj (ak (mOp cu (bw 0) (au (.int 1))) (ak (bw 2) dh))) dh))))
      vo)
      (jd (sIf (gj (mOp eqO (bw 4) (au (.str "rest"))))
      (pq (iz (fun l=>some (.tup l)) (ak (au (.str "rest")) (ak (dw Qj (ak (mOp cu (bw 0) (au (.int 1))) (ak (bw 2) dh))) (ak (mOp cu (bw 0) (au (.int 2))) dh)))))
      vo)
      (jd (sIf (gj (mOp eqO (bw 4) (au (.str "at"))))
      (pq (dw uq (ak (bw 0) (ak (bw 1) (ak (bw 3) dh)))))
      vo)
      (jd (sIf (gj (mOp eqO (bw 4) (au (.str "not"))))
      (pq (iz (fun l=>some (.tup l)) (ak (au (.str "not")) (ak (dw (jc n) (ak (mOp cu (bw 0) (au (.int 1))) (ak (bw 1) (ak (bw 2) (ak (bw 3) dh))))) dh))))
      vo)
      (pq (iz (fun l=>some (.tup l)) (ak (bw 4) (ak (iz Aw (ak (p7 1 [1,2,3] (hName 0) (qu (mOp cu (bw 0) (au (.int 1)))) ql (dw (jc n) (ak (bw 0) (ak (bw 1) (ak (bw 2) (ak (bw 3) dh)))))) dh)) dh)))))))))
end
noncomputable def Aj:Fn:=jo 4
  (pq (dw (jc 40) (ak (bw 0) (ak (bw 1) (ak (iz Nb (ak (bw 2) dh)) (ak (bw 3) dh))))))
noncomputable def m5:Fn:=jo 2
  (pq (dw (uf 40) (ak (bw 0) (ak (bw 1) (ak (au (.dic [])) dh)))))
noncomputable def ni:Fn:=jo 1
  (pq (mOp uh (au (.str "@")) (bw 0)))
noncomputable def nu:Fn:=jo 2
  (pq (iz (fun l=>some (.tup l)) (ak (au (.str "and")) (ak (iz (fun l=>some (.tup l)) (ak (iz (fun l=>some (.tup l)) (ak (au (.str "most")) (ak (iz (fun l=>some (.tup l)) (ak (mUn Ho (bw 1)) (ak (iz (fun l=>some (.tup l)) (ak (iz (fun l=>some (.tup l)) (ak (bw 0) (ak (au (.int 1)) dh))) dh)) dh))) dh))) (ak (iz (fun l=>some (.tup l)) (ak (au (.str "most")) (ak (iz (fun l=>some (.tup l)) (ak (bw 1) (ak (iz (fun l=>some (.tup l)) (ak (iz (fun l=>some (.tup l)) (ak (bw 0) (ak (mUn Ho (au (.int 1))) dh))) dh)) dh))) dh))) dh))) dh))))
noncomputable def tu:Fn:=jo 2
  (pq (iz (fun l=>some (.tup l)) (ak (au (.str "or")) (ak (iz (fun l=>some (.tup l)) (ak (iz (fun l=>some (.tup l)) (ak (au (.str "most")) (ak (iz (fun l=>some (.tup l)) (ak (mOp Hu (au (.int 1)) (bw 1)) (ak (iz (fun l=>some (.tup l)) (ak (iz (fun l=>some (.tup l)) (ak (bw 0) (ak (au (.int 1)) dh))) dh)) dh))) dh))) (ak (iz (fun l=>some (.tup l)) (ak (au (.str "most")) (ak (iz (fun l=>some (.tup l)) (ak (mOp uh (bw 1) (au (.int 1))) (ak (iz (fun l=>some (.tup l)) (ak (iz (fun l=>some (.tup l)) (ak (bw 0) (ak (mUn Ho (au (.int 1))) dh))) dh)) dh))) dh))) dh))) dh))))
mutual
noncomputable def iy:Nat→Fn
  | 0=>fun _ _=>none
  | n+1=>jo 2
      (jd (m6 1 (mOp cu (bw 0) (au (.int 0))))
      (jd (sIf (gj (mOp eqO (bw 1) (au (.str "at"))))
      (pq (dw nu (ak (dw ni (ak (mOp cu (bw 0) (au (.int 1))) dh)) (ak (mOp cu (bw 0) (au (.int 2))) dh))))
      vo)
      (jd (sIf (gj (mOp eqO (bw 1) (au (.str "not"))))
      (pq (dw (gb n) (ak (mOp cu (bw 0) (au (.int 1))) dh)))
      vo)
      (jd (sIf (gj (mOp inT (bw 1) (iz (fun l=>some (.tup l)) (ak (au (.str "and")) (ak (au (.str "or")) dh)))))
      (pq (iz (fun l=>some (.tup l)) (ak (bw 1) (ak (iz Aw (ak (p7 1 [] (hName 0) (qu (mOp cu (bw 0) (au (.int 1)))) ql (dw (iy n) (ak (bw 0) dh))) dh)) dh))))
      vo)
      (pq (bw 0))))))
noncomputable def gb:Nat→Fn
  | 0=>fun _ _=>none
  | n+1=>jo 2
      (jd (m6 1 (mOp cu (bw 0) (au (.int 0))))
      (jd (sIf (gj (mOp eqO (bw 1) (au (.str "most"))))
      (pq (iz (fun l=>some (.tup l)) (ak (au (.str "most")) (ak (dw ud (ak (iz (fun l=>some (.tup l)) (ak (au (.int 1)) (ak (iz (fun l=>some (.tup l)) dh) dh))) (ak (mOp cu (bw 0) (au (.int 1))) dh))) dh))))
      vo)
      (jd (sIf (gj (mOp eqO (bw 1) (au (.str "rest"))))
      (pq (iz (fun l=>some (.tup l)) (ak (au (.str "or")) (ak (iz Aw (ak (p7 1 [0] (hName 0) (Dq (au (.int 1)) (mOp cu (bw 0) (au (.int 2)))) ql (iz (fun l=>some (.tup l)) (ak (au (.str "rest")) (ak (dw ud (ak (mOp cu (bw 1) (au (.int 1))) (ak (iz (fun l=>some (.tup l)) (ak (bw 0) (ak (iz (fun l=>some (.tup l)) dh) dh))) dh))) (ak (mOp cu (bw 1) (au (.int 2))) dh))))) dh)) dh))))
      vo)
      (jd (sIf (gj (mOp eqO (bw 1) (au (.str "at"))))
      (pq (dw tu (ak (dw ni (ak (mOp cu (bw 0) (au (.int 1))) dh)) (ak (mOp cu (bw 0) (au (.int 2))) dh))))
      vo)
      (jd (sIf (gj (mOp eqO (bw 1) (au (.str "not"))))
      (pq (dw (iy n) (ak (mOp cu (bw 0) (au (.int 1))) dh)))
      vo)
      (pq (iz (fun l=>some (.tup l)) (ak (mUn (ad7 [("and","or"),("or","and")]) (bw 1)) (ak (iz Aw (ak (p7 1 [] (hName 0) (qu (mOp cu (bw 0) (au (.int 1)))) ql (dw (gb n) (ak (bw 0) dh))) dh)) dh)))))))))
end
noncomputable def wg:Fn:=jo 5
  (jd (sNew 2 (iz (fun l=>some (.lst l)) dh))
  (jd (yj (wz [3,4]) (qu (mOp cu (bw 0) (au (.int 1))))
  (sIf (gj (mOp neO (bw 3) (mOp cu (mOp cu (mOp cu (bw 0) (au (.int 2))) (bw 1)) (au (.int 0)))))
  (jx 2 (p7 1 [1,3] (hName 0) (p8 (bw 4)) ql (iz (fun l=>some (.tup l)) (ak (au (.str "other")) (ak (bw 1) (ak (bw 2) (ak (bw 0) dh)))))))
  vo))
  (pq (bw 2))))
noncomputable def vf:Fn:=jo 4
  (jd (m6 1 (iz N8 (ak (iz Ax (ak (mOp cu (bw 0) (au (.int 2))) dh)) dh)))
  (jd (sNew 2 (p7 2 [] (wz [0,1]) (qu (mOp cu (bw 0) (au (.int 1)))) ql (iz (fun l=>some (.tup l)) (ak (au (.str "start")) (ak (bw 0) dh)))))
  (jd (jx 2 (p7 1 [] (hName 0) (qu (bw 1)) ql (iz (fun l=>some (.tup l)) (ak (au (.str "own")) (ak (bw 0) dh)))))
  (jd (yj (hName 3) (qu (bw 1))
  (jx 2 (dw wg (ak (bw 0) (ak (bw 3) dh)))))
  (pq (bw 2))))))
noncomputable def su:Fn:=jo 3
  (pq (iz (fun l=>some (.tup l)) (ak (au (.str "and")) (ak (iz (fun l=>some (.tup l)) (ak (iz (fun l=>some (.tup l)) (ak (au (.str "most")) (ak (dw ud (ak (bw 1) (ak (bw 0) dh))) dh))) (ak (iz (fun l=>some (.tup l)) (ak (au (.str "most")) (ak (dw ud (ak (bw 0) (ak (bw 2) dh))) dh))) dh))) dh))))
noncomputable def u6:Fn:=jo 8
  (jd (sNew 2 (au (.dic [])))
  (jd (yj (wz [3,4,5,6,7]) (qu (mOp cu (bw 0) (au (.int 0))))
  (qm 2 (bw 3) (iz (fun l=>some (.tup l)) (ak (iz (fun l=>some (.tup l)) (ak (bw 5) (ak (iz (fun l=>some (.tup l)) dh) dh))) (ak (iz (fun l=>some (.tup l)) (ak (bw 6) (ak (iz (fun l=>some (.tup l)) dh) dh))) dh)))))
  (pq (p7 2 [2] (wz [0,1]) (qu (bw 1)) ql (dw su (ak (bw 1) (ak (mOp cu (mOp cu (bw 2) (bw 0)) (au (.int 0))) (ak (mOp cu (mOp cu (bw 2) (bw 0)) (au (.int 1))) dh))))))))
noncomputable def qe:Fn:=jo 6
  (jd (sNx (m6 4 (mOp uh (iz (fun l=>some (.lst l)) (ak (iz (fun l=>some (.tup l)) (ak (mOp cu (bw 2) (au (.int 0))) (ak (mOp cu (bw 2) (au (.int 1))) dh))) dh)) (bw 3))))
  (jd (sNx (sNew 5 (p7 2 [] (wz [0,1]) (qu (bw 4)) ql (dw (iy 40) (ak (iz (fun l=>some (.tup l)) (ak (au (.str "at")) (ak (bw 0) (ak (bw 1) dh)))) dh)))))
  (jd (sNx (jx 5 (p7 1 [1] (hName 0) (qu (bw 4)) ql (dw (iy 40) (ak (jt (bw 1) (bw 0)) dh)))))
  (jd (sNx (jz 5 (dw (iy 40) (ak (mOp cu (bw 2) (au (.int 2))) dh))))
  (jd (sNx (jx 5 (dw u6 (ak (bw 0) (ak (mOp cu (bw 2) (au (.int 3))) dh)))))
  (qy 5))))))
noncomputable def n6:Fn:=jo 6
  (jd (sNew 5 (dw qe (ak (bw 0) (ak (bw 1) (ak (bw 2) (ak (bw 3) dh))))))
  (jd (jz 5 (dw (gb 40) (ak (dw Aj (ak (bw 4) (ak (mOp cu (bw 2) (au (.int 0))) (ak (mOp cu (bw 2) (au (.int 3))) (ak (mOp cu (bw 2) (au (.int 4))) dh))))) dh)))
  (pq (bw 5))))
noncomputable def yg:Fn:=jo 4
  (jd (sNew 3 (p7 1 [] (hName 0) (qu (mOp cu (bw 0) (au (.int 0)))) ql (dw nu (ak (mOp cu (bw 0) (au (.int 0))) (ak (mOp cu (bw 0) (au (.int 4))) dh)))))
  (jd (jx 3 (p7 2 [] (wz [0,1]) (qu (mOp cu (bw 0) (au (.int 1)))) ql (dw nu (ak (dw ni (ak (bw 0) dh)) (ak (au (.int 0)) dh)))))
  (jd (jz 3 (dw (gb 40) (ak (jt (bw 1) (iz (fun l=>some (.tup l)) (ak (bw 2) (ak (au (.int 0)) dh)))) dh)))
  (pq (bw 3)))))
noncomputable def kh:Fn:=jo 6
  (jd (sIf (gj (mOp eqO (mOp cu (bw 2) (au (.int 0))) (au (.str "start"))))
  (pq (dw yg (ak (bw 0) (ak (bw 1) (ak (mOp cu (bw 2) (au (.int 1))) dh)))))
  vo)
  (jd (m6 3 (mOp cu (mOp cu (bw 0) (au (.int 2))) (mOp cu (bw 2) (au (.int 1)))))
  (jd (sIf (gj (mOp eqO (mOp cu (bw 2) (au (.int 0))) (au (.str "own"))))
  (jd (m6 4 (jt (bw 1) (iz (fun l=>some (.tup l)) (ak (mOp cu (bw 3) (au (.int 0))) (ak (mOp cu (bw 3) (au (.int 4))) dh)))))
  (pq (dw n6 (ak (bw 0) (ak (bw 1) (ak (bw 3) (ak (iz (fun l=>some (.lst l)) dh) (ak (bw 4) dh))))))))
  vo)
  (jd (m6 5 (iz (fun l=>some (.tup l)) (ak (mOp cu (bw 2) (au (.int 2))) (ak (mOp cu (bw 2) (au (.int 3))) dh))))
  (pq (dw n6 (ak (bw 0) (ak (bw 1) (ak (bw 3) (ak (iz (fun l=>some (.lst l)) (ak (bw 5) dh)) (ak (jt (bw 1) (bw 5)) dh)))))))))))
noncomputable def gn:Fn:=jo 2
  (jd (sIf (gj (mOp ltT (bw 1) (iz Ax (ak (bw 0) dh))))
  (pq (mOp cu (bw 0) (bw 1)))
  vo)
  (pq (au (.int 0))))
noncomputable def ou:Fn:=jo 5
  (jd (m6 3 (iz (fun l=>some (.tup l)) (ak (mOp Hu (mOp ux (bw 0) (au (.int 5))) (au (.int 2))) (ak (mOp Hu (mOp ux (mOp jr (bw 0) (au (.int 5))) (au (.int 5))) (au (.int 2))) dh))))
  (jd (m6 4 (mOp Hu (mOp Hu (mOp Hu (mOp ux (mOp jr (bw 0) (au (.int 25))) (au (.int 9))) (au (.int 4))) (mOp Ji (mOp cu (bw 3) (au (.int 0))) (bw 1))) (mOp Ji (mOp cu (bw 3) (au (.int 1))) (bw 2))))
  (pq (iz (fun l=>some (.tup l)) (ak (bw 4) (ak (iz Aw (ak (p7 1 [] (hName 0) (qu (iz (fun l=>some (.lst l)) (ak (iz (fun l=>some (.tup l)) (ak (au (.str "x")) (ak (mOp cu (bw 3) (au (.int 0))) dh))) (ak (iz (fun l=>some (.tup l)) (ak (au (.str "y")) (ak (mOp cu (bw 3) (au (.int 1))) dh))) dh)))) (gj (mOp neO (mOp cu (bw 0) (au (.int 1))) (au (.int 0)))) (bw 0)) dh)) dh))))))
noncomputable def qg:Fn:=jo 5
  (jd (m6 4 (mOp ux (bw 0) (au (.int 4))))
  (jd (sIf (gj (mOp ltT (bw 4) (au (.int 2))))
  (pq (iz (fun l=>some (.tup l)) (ak (au (.str "most")) (ak (dw ou (ak (mOp jr (bw 0) (au (.int 4))) (ak (bw 1) (ak (bw 2) dh)))) dh))))
  vo)
  (jd (sIf (gj (mOp eqO (bw 4) (au (.int 2))))
  (pq (iz (fun l=>some (.tup l)) (ak (au (.str "rest")) (ak (dw ou (ak (mOp jr (bw 0) (au (.int 44))) (ak (bw 1) (ak (bw 2) dh)))) (ak (mOp uh (au (.int 2)) (mOp ux (mOp jr (bw 0) (au (.int 4))) (au (.int 11)))) dh)))))
  vo)
  (pq (iz (fun l=>some (.tup l)) (ak (au (.str "at")) (ak (mOp cu (iz (fun l=>some (.lst l)) (Dl ["p","q","p","r"])) (mOp ux (mOp jr (bw 0) (au (.int 4))) (mOp uh (au (.int 2)) (mOp Ji (au (.int 2)) (iz abz (ak (mOp gtT (bw 3) (au (.int 2))) dh)))))) (ak (mOp ux (mOp jr (bw 0) (au (.int 16))) (au (.int 2))) dh))))))))
noncomputable def jw:Fn:=jo 10
  (jd (m6 4 (mOp ux (bw 0) (au (.int 8))))
  (jd (m6 5 (dw qg (ak (mOp jr (bw 0) (au (.int 8))) (ak (bw 1) (ak (bw 2) (ak (bw 3) dh))))))
  (jd (m6 6 (dw qg (ak (mOp jr (bw 0) (au (.int 8000))) (ak (bw 1) (ak (bw 2) (ak (bw 3) dh))))))
  (jd (m6 7 (dw qg (ak (mOp jr (bw 0) (au (.int 200))) (ak (bw 1) (ak (bw 2) (ak (bw 3) dh))))))
  (jd (m6 8 (iz (fun l=>some (.lst l)) (ak (bw 5) (ak (bw 5) (ak (iz (fun l=>some (.tup l)) (ak (au (.str "not")) (ak (bw 5) dh))) (ak (iz (fun l=>some (.tup l)) (ak (au (.str "and")) (ak (iz (fun l=>some (.tup l)) (ak (bw 5) (ak (bw 6) dh))) dh))) (ak (iz (fun l=>some (.tup l)) (ak (au (.str "or")) (ak (iz (fun l=>some (.tup l)) (ak (bw 5) (ak (bw 6) dh))) dh))) (ak (iz (fun l=>some (.tup l)) (ak (au (.str "not")) (ak (iz (fun l=>some (.tup l)) (ak (au (.str "and")) (ak (iz (fun l=>some (.tup l)) (ak (bw 6) (ak (bw 5) dh))) dh))) dh))) dh))))))))
  (jd (m6 9 (iz (fun l=>some (.tup l)) (ak (iz (fun l=>some (.tup l)) (ak (au (.str "not")) (ak (bw 5) dh))) (ak (bw 6) (ak (bw 5) (ak (bw 7) dh))))))
  (pq (mOp cu (mOp uh (bw 8) (iz (fun l=>some (.lst l)) (ak (iz (fun l=>some (.tup l)) (ak (au (.str "and")) (ak (iz (fun l=>some (.tup l)) (ak (bw 5) (ak (iz (fun l=>some (.tup l)) (ak (au (.str "not")) (ak (bw 6) dh))) (ak (iz (fun l=>some (.tup l)) (ak (au (.str "and")) (ak (iz (fun l=>some (.tup l)) dh) dh))) (ak (bw 7) dh))))) dh))) (ak (iz (fun l=>some (.tup l)) (ak (au (.str "or")) (ak (bw 9) dh))) dh)))) (bw 4)))))))))
noncomputable def jm:Fn:=jo 4
  (jd (m6 3 (dw gn (ak (bw 0) (ak (bw 1) dh))))
  (jd (sIf (gj (bw 2))
  (pq (bw 3))
  vo)
  (pq (mOp uh (mOp ux (mOp Ji (bw 3) (au (.int 48271))) (au (.int 2147483647))) (mOp Ji (mOp ux (mOp Ji (bw 3) (au (.int 69621))) (au (.int 2147483629))) (au (.int 2147483647)))))))
noncomputable def sy:Fn:=jo 15
  (jd (m6 2 (dw gn (ak (bw 0) (ak (au (.int 0)) dh))))
  (jd (m6 3 (au (.int 0)))
  (jd (m6 4 (au (.int 0)))
  (jd (sIf (gj (mOp eqO (mOp ux (mOp jr (bw 2) (au (.int 2))) (au (.int 3))) (au (.int 1))))
  (jd (m6 3 (mOp Hu (mOp ux (bw 2) (mOp a4l (au (.int 10)) (au (.int 8)))) (mOp Ji (au (.int 5)) (mOp a4l (au (.int 10)) (au (.int 7))))))
  (m6 4 (mUn Ho (mOp ux (bw 2) (mOp a4l (au (.int 10)) (au (.int 7)))))))
  vo)
  (jd (m6 5 (iz (fun l=>some (.lst l)) (ak (iz (fun l=>some (.tup l)) (ak (au (.str "x")) (ak (au (.str "")) (ak (bw 3) (ak (mOp uh (bw 3) (mOp ux (mOp jr (bw 2) (au (.int 6))) (au (.int 6)))) (ak (bw 3) dh)))))) (ak (iz (fun l=>some (.tup l)) (ak (au (.str "y")) (ak (au (.str "")) (ak (bw 4) (ak (mOp uh (bw 4) (mOp ux (mOp jr (bw 2) (au (.int 36))) (au (.int 6)))) (ak (bw 4) dh)))))) dh))))
  (jd (m6 6 (iz (fun l=>some (.lst l)) (ak (iz (fun l=>some (.tup l)) (ak (au (.str "p")) (ak (mOp uh (au (.int 2)) (mOp ux (mOp jr (bw 2) (au (.int 216))) (au (.int 3)))) dh))) (ak (iz (fun l=>some (.tup l)) (ak (au (.str "q")) (ak (mOp uh (au (.int 2)) (mOp ux (mOp jr (bw 2) (au (.int 648))) (au (.int 3)))) dh))) dh))))
  (jd (sIf (gj (mOp gtT (mOp ux (mOp jr (bw 2) (au (.int 9720))) (au (.int 3))) (au (.int 0))))
  (m6 6 (mOp uh (mOp uh (bw 6) (iz (fun l=>some (.lst l)) (ak (iz (fun l=>some (.tup l)) (ak (au (.str "r")) (ak (au (.int 2)) dh))) dh))) (K4 (iz (fun l=>some (.lst l)) (ak (iz (fun l=>some (.tup l)) (ak (au (.str "s")) (ak (au (.int 1)) dh))) dh)) Xz (Xh (mOp ux (mOp jr (bw 2) (au (.int 29160))) (au (.int 2)))))))
  vo)
  (jd (sNew 7 (iz (fun l=>some (.lst l)) dh))
  (jd (yj (hName 8) (p8 (mOp uh (au (.int 1)) (mOp ux (mOp jr (bw 2) (au (.int 1944))) (au (.int 5)))))
  (jd (m6 9 (dw jm (ak (bw 0) (ak (mOp uh (au (.int 9)) (bw 8)) (ak (bw 1) dh)))))
  (jd (sGo (wz [10,11]) (mOp cu (bw 6) (mOp ux (bw 9) (iz Ax (ak (bw 6) dh)))))
  (jd (sNew 12 (iz (fun l=>some (.lst l)) dh))
  (jd (sIf (gj (mOp gtT (mOp ux (mOp jr (bw 9) (au (.int 24))) (au (.int 3))) (au (.int 0))))
  (jd (m6 13 (dw ou (ak (mOp jr (bw 9) (au (.int 72))) (ak (bw 3) (ak (bw 4) dh)))))
  (jz 12 (iz (fun l=>some (.tup l)) (ak (au (.str "x")) (ak (iz (fun l=>some (.tup l)) (ak (mOp uh (mOp cu (bw 13) (au (.int 0))) (bw 3)) (ak (mOp cu (bw 13) (au (.int 1))) dh))) dh)))))
  vo)
  (jd (sIf (gj (mOp gtT (mOp ux (mOp jr (bw 9) (au (.int 24))) (au (.int 3))) (au (.int 1))))
  (jd (m6 13 (dw ou (ak (mOp jr (bw 9) (au (.int 144))) (ak (bw 3) (ak (bw 4) dh)))))
  (jz 12 (iz (fun l=>some (.tup l)) (ak (au (.str "y")) (ak (iz (fun l=>some (.tup l)) (ak (mOp uh (mOp cu (bw 13) (au (.int 0))) (bw 4)) (ak (mOp cu (bw 13) (au (.int 1))) dh))) dh)))))
  vo)
  (jd (m6 14 (dw jw (ak (mOp jr (bw 9) (au (.int 100000))) (ak (bw 3) (ak (bw 4) (ak (iz Ax (ak (bw 6) dh)) dh))))))
  (jz 7 (iz (fun l=>some (.tup l)) (ak (bw 10) (ak (mOp ux (mOp jr (bw 9) (au (.int 2))) (bw 11)) (ak (bw 14) (ak (iz Aw (ak (bw 12) dh)) (ak (mOp ux (mOp jr (bw 9) (au (.int 8))) (bw 11)) dh))))))))))))))
  (pq (iz (fun l=>some (.tup l)) (ak (bw 5) (ak (bw 6) (ak (bw 7) (ak (iz (fun l=>some (.tup l)) dh) dh)))))))))))))))
noncomputable def mz:Fn:=jo 9
  (jd (m6 3 U8)
  (jd (m6 4 (au (.int 14)))
  (jd (yj (wz [5,6]) (qu (mOp cu (bw 1) (au (.int 1))))
  (yj (hName 7) (p8 (bw 6))
  (jd (m6 8 (iz (fun l=>some (.tup l)) (ak (mOp cu (mOp cu (mOp cu (bw 1) (au (.int 0))) (au (.int 0))) (au (.int 2))) (ak (mOp cu (mOp cu (mOp cu (bw 1) (au (.int 0))) (au (.int 1))) (au (.int 2))) dh))))
  (jd (Fq (bw 3) (ak (bw 5) (ak (bw 7) dh)) (dw jw (ak (dw jm (ak (bw 0) (ak (bw 4) (ak (bw 2) dh)))) (ak (mOp cu (bw 8) (au (.int 0))) (ak (mOp cu (bw 8) (au (.int 1))) (ak (iz Ax (ak (mOp cu (bw 1) (au (.int 1))) dh)) dh))))))
  (m6 4 (mOp uh (bw 4) (au (.int 1))))))))
  (pq (bw 3)))))
noncomputable def mq:Fn:=jo 2
  (pq (mOp uh (mOp cu (bw 0) (au (.int 0))) (iz aad (ak (p7 2 [1] (wz [0,1]) (qu (mOp cu (bw 0) (au (.int 1)))) ql (mOp Ji (bw 1) (mOp cu (bw 2) (bw 0)))) dh))))
mutual
noncomputable def g8:Nat→Fn
  | 0=>fun _ _=>none
  | n+1=>jo 3
      (jd (sIf (gj (mOp eqO (mOp cu (bw 0) (au (.int 0))) (au (.str "most"))))
      (pq (mOp leT (dw mq (ak (mOp cu (bw 0) (au (.int 1))) (ak (bw 1) dh))) (au (.int 0))))
      vo)
      (jd (sIf (gj (mOp eqO (mOp cu (bw 0) (au (.int 0))) (au (.str "rest"))))
      (pq (mOp eqO (mOp ux (dw mq (ak (mOp cu (bw 0) (au (.int 1))) (ak (bw 1) dh))) (mOp cu (bw 0) (au (.int 2)))) (au (.int 0))))
      vo)
      (jd (sIf (gj (mOp eqO (mOp cu (bw 0) (au (.int 0))) (au (.str "at"))))
      (pq (mOp eqO (mOp cu (bw 1) (mOp uh (au (.str "@")) (mOp cu (bw 0) (au (.int 1))))) (mOp cu (bw 0) (au (.int 2)))))
      vo)
      (jd (sIf (gj (mOp eqO (mOp cu (bw 0) (au (.int 0))) (au (.str "not"))))
      (pq (rm (Dj (gj (dw (g8 n) (ak (mOp cu (bw 0) (au (.int 1))) (ak (bw 1) dh)))))))
      vo)
      (jd (m6 2 (p7 1 [1] (hName 0) (qu (mOp cu (bw 0) (au (.int 1)))) ql (dw (g8 n) (ak (bw 0) (ak (bw 1) dh)))))
      (pq (mOp cu (iz (fun l=>some (.lst l)) (ak (iz abr (ak (bw 2) dh)) (ak (iz acr (ak (bw 2) dh)) dh))) (iz abz (ak (mOp eqO (mOp cu (bw 0) (au (.int 0))) (au (.str "or"))) dh)))))))))
end
noncomputable def nq:Fn:=jo 11
  (jd (sNew 3 (iz Nb (ak (bw 2) dh)))
  (jd (yj (wz [4,5]) (qu (mOp cu (bw 1) (au (.int 3))))
  (qm 3 (bw 4) (dw mq (ak (bw 5) (ak (bw 2) dh)))))
  (jd (qm 3 (mOp uh (au (.str "@")) (mOp cu (bw 1) (au (.int 0)))) (mOp cu (bw 1) (au (.int 4))))
  (jd (yj (wz [6,7,8,9,10]) (qu (mOp cu (bw 0) (au (.int 0))))
  (sIf (mOr (gj (mOp ltT (xg 3 (bw 6)) (bw 8))) (gj (mOp ltT (bw 9) (xg 3 (bw 6)))))
  (pq (iz (fun l=>some (.tup l)) (ak (bw 3) (ak (au (.bl false)) dh))))
  vo))
  (pq (iz (fun l=>some (.tup l)) (ak (bw 3) (ak (au (.bl true)) dh))))))))
noncomputable def qb:Fn:=jo 11
  (jd (m6 4 (mOp cu (mOp cu (bw 0) (au (.int 2))) (mOp cu (bw 2) (au (.int 1)))))
  (jd (m6 5 (rm (Dm (gj (mOp eqO (mOp cu (bw 3) (mOp uh (au (.str "@")) (mOp cu (bw 4) (au (.int 0))))) (mOp cu (bw 4) (au (.int 1))))) (gj (dw (g8 40) (ak (jt (bw 1) (iz (fun l=>some (.tup l)) (ak (mOp cu (bw 4) (au (.int 0))) (ak (mOp cu (bw 4) (au (.int 1))) dh)))) (ak (bw 3) dh)))))))
  (jd (m6 6 (jt (bw 1) (iz (fun l=>some (.tup l)) (ak (mOp cu (bw 4) (au (.int 0))) (ak (mOp cu (bw 4) (au (.int 4))) dh)))))
  (jd (sIf (gj (mOp eqO (mOp cu (bw 2) (au (.int 0))) (au (.str "other"))))
  (jd (m6 6 (jt (bw 1) (iz (fun l=>some (.tup l)) (ak (mOp cu (bw 2) (au (.int 2))) (ak (mOp cu (bw 2) (au (.int 3))) dh)))))
  (m6 5 (rm (Dm (gj (bw 5)) (gj (rm (Dm (gj (mOp eqO (mOp cu (bw 3) (mOp uh (au (.str "@")) (mOp cu (bw 2) (au (.int 2))))) (mOp cu (bw 2) (au (.int 3))))) (gj (dw (g8 40) (ak (bw 6) (ak (bw 3) dh)))))))))))
  vo)
  (jd (sGo (wz [7,8]) (dw nq (ak (bw 0) (ak (bw 4) (ak (bw 3) dh)))))
  (jd (m6 9 (rm (Dm (gj (bw 5)) (gj (rm (Dm (gj (dw (g8 40) (ak (mOp cu (bw 4) (au (.int 2))) (ak (bw 3) dh)))) (gj (rm (Dm (gj (bw 8)) (gj (rm (Dj (gj (dw (g8 40) (ak (bw 6) (ak (bw 7) dh))))))))))))))))
  (jd (m6 10 (dw kh (ak (bw 0) (ak (bw 1) (ak (bw 2) dh)))))
  (jd (sIf (mOr (Dj (gj (iz Oc (ak (bw 10) dh)))) (gj (mOp eqO (dw m5 (ak (mOp cu (bw 10) (mUn Ho (au (.int 1)))) (ak (bw 3) dh))) (dw (g8 40) (ak (bw 6) (ak (bw 7) dh))))))
  (pq (au (.bl false)))
  vo)
  (pq (mOp eqO (mOp eqO (iz Ax (ak (p7 1 [3] (hName 0) (qu (bw 10)) (Dj (gj (dw m5 (ak (bw 0) (ak (bw 1) dh))))) (au (.int 1))) dh)) (au (.int 0))) (bw 9)))))))))))
noncomputable def vh:Fn:=jo 11
  (jd (sNx (m6 3 (dw gn (ak (bw 0) (ak (mOp uh (au (.int 26)) (bw 2)) dh)))))
  (jd (sNx (sNew 4 (au (.dic []))))
  (jd (sNx (yj (wz [5,6,7,8,9]) (qu (mOp cu (bw 1) (au (.int 0))))
  (jd (qm 4 (bw 5) (mOp uh (bw 7) (mOp ux (bw 3) (mOp uh (mOp Hu (bw 8) (bw 7)) (au (.int 1))))))
  (m6 3 (mOp jr (bw 3) (au (.int 6)))))))
  (jd (sNx (yj (wz [5,10]) (qu (mOp cu (bw 1) (au (.int 1))))
  (jd (qm 4 (mOp uh (au (.str "@")) (bw 5)) (mOp ux (bw 3) (bw 10)))
  (m6 3 (mOp jr (bw 3) (au (.int 4)))))))
  (qy 4)))))
noncomputable def Xf:Fn:=jo 10
  (jd (m6 1 (mOp eqO (mOp ux (dw gn (ak (bw 0) (ak (au (.int 0)) dh))) (au (.int 2))) (au (.int 1))))
  (jd (m6 2 (dw sy (ak (bw 0) (ak (bw 1) dh))))
  (jd (m6 3 (dw mz (ak (bw 0) (ak (bw 2) (ak (bw 1) dh)))))
  (jd (m6 4 (p7 1 [] (hName 0) (qu (dw vf (ak (bw 2) dh))) (gj (mOp neO (mOp cu (bw 0) (au (.int 0))) (au (.str "start")))) (bw 0)))
  (jd (yj (hName 5) (p8 (au (.int 8)))
  (jd (m6 6 (dw gn (ak (bw 0) (ak (mOp uh (au (.int 26)) (bw 5)) dh))))
  (jd (sNew 7 (dw vh (ak (bw 0) (ak (bw 2) (ak (bw 5) dh)))))
  (yj (hName 8) (qu (iz (fun l=>some (.lst l)) (ak (mOp cu (bw 4) (mOp ux (mOp jr (bw 6) (au (.int 600))) (iz Ax (ak (bw 4) dh)))) (ak (mOp cu (bw 4) (mOp ux (mOp jr (bw 6) (au (.int 7))) (iz Ax (ak (bw 4) dh)))) dh))))
  (jd (m6 9 (mOp cu (mOp cu (bw 2) (au (.int 2))) (mOp cu (bw 8) (au (.int 1)))))
  (jd (sIf (gj (mOp eqO (mOp ux (mOp jr (bw 6) (au (.int 5))) (au (.int 2))) (au (.int 1))))
  (jd (qm 7 (mOp uh (au (.str "@")) (mOp cu (bw 9) (au (.int 0)))) (mOp cu (bw 9) (au (.int 1))))
  (sIf (gj (mOp eqO (mOp cu (bw 8) (au (.int 0))) (au (.str "other"))))
  (qm 7 (mOp uh (au (.str "@")) (mOp cu (bw 8) (au (.int 2)))) (mOp cu (bw 8) (au (.int 3))))
  vo))
  vo)
  (sIf (M8 [7] (Dj (gj (dw qb (ak (bw 2) (ak (bw 3) (ak (bw 8) (ak (bw 7) dh))))))))
  (pq (au (.bl false)))
  vo)))))))
  (pq (au (.bl true))))))))
end K
end
noncomputable section
set_option linter.all false
set_option maxRecDepth 100000
set_option maxHeartbeats 8000000
namespace D
open PySem L2 C
noncomputable def top (i:Nat):Stmt:=PySem.Challenge.pw_calm_k42_duties_mean_steps.main.body.getD i (.Pass ⟨0,0,0,0⟩)
noncomputable abbrev ll1:List Str:=["_law_script","_law_free","_law_first","_law_x","_law_y","_law_boxes","_law_hands","_law_steps","_law_k","_law_digits_here","_law_hand","_law_places","_law_sets","_law_one","_law_guard"]
noncomputable abbrev ll2:List Str:=["_law_program_here","_law_annotation_here","_law_duty","_law_book_here","_law_step","_law_stands","_law_last","_law_then","_law_inside","_law_due","_law_forms"]
noncomputable abbrev ll3:List Str:=["_law_script","_law_program_here","_law_k","_law_digits_here","_law_book_here","_law_name","_law_owner","_law_low","_law_high","_law_start","_law_places"]
noncomputable abbrev ll4:List Str:=["_law_program_here","_law_step","_law_book_here","_law_then","_law_box","_law_one","_law_name","_law_owner","_law_low","_law_high","_law_start"]
noncomputable abbrev ll5:List Str:=["_law_script","_law_free","_law_program_here","_law_annotation_here","_law_duties","_law_k","_law_cell","_law_book_here","_law_duty","_law_step"]
noncomputable abbrev ll6:List Str:=["_law_script","_law_program_here","_law_free","_law_annotation_here","_law_k","_law_hand","_law_places","_law_place","_law_low"]
noncomputable abbrev ll7:List Str:=["_law_digits_here","_law_x","_law_y","_law_many","_law_kind","_law_one","_law_other","_law_third","_law_some","_law_four"]
noncomputable abbrev ll8:List Str:=["_law_program_here","_law_annotation_here","_law_duty","_law_book_here"]
noncomputable abbrev ll9:List Str:=["_law_digits_here","_law_x","_law_y","_law_times","_law_number"]
noncomputable abbrev ad3:List Str:=["program","sets","ends","box","owner","low","high","start"]
noncomputable abbrev ad4:List Str:=["_law_digits_here","_law_x","_law_y","_law_many","_law_kind"]
noncomputable abbrev ab6:List Str:=["program","annotation","step","others","stood","forms"]
noncomputable abbrev ach:List Str:=["program","annotation","step","others","asked","forms"]
noncomputable abbrev ac5:List Str:=["one","sets","number","pairs","box","times","inner"]
noncomputable abbrev aav:List Str:=["program","annotation","duty","step","asked","there"]
noncomputable abbrev Rp:List Str:=["_law_digits_here","_law_x","_law_y","_law_many"]
noncomputable abbrev acz:List Str:=["number","pairs","times","box","many","parts"]
noncomputable abbrev a7a:List Str:=["program","annotation","step","others","asked"]
noncomputable abbrev a5u:List Str:=["_law_program_here","_law_step","_law_book_here"]
noncomputable abbrev abu:List Str:=["_law_script","_law_k","_law_free","_law_cell"]
noncomputable abbrev aci:List Str:=["_law_remark_here","_law_book_here","_law_told"]
noncomputable abbrev ac4:List Str:=["wanted","members","book","places","member"]
noncomputable abbrev ada:List Str:=["program","number","duties","hand","places"]
noncomputable abbrev a7i:List Str:=["_law_script","_law_program_here","_law_free"]
noncomputable abbrev a7g:List Str:=["_law_script","_law_program_here","_law_k"]
noncomputable abbrev aaw:List Str:=["_law_box","_law_times","_law_book_here"]
noncomputable abbrev a6p:List Str:=["program","annotation","step","others"]
noncomputable abbrev acf:List Str:=["program","numbers","duties","number"]
noncomputable abbrev ad2:List Str:=["program","annotation","hand","forms"]
noncomputable abbrev aby:List Str:=["remark","hand","sets","to","kind"]
noncomputable abbrev a2s:List Str:=["_law_digits_here","_law_x","_law_y"]
noncomputable abbrev a3u:List Str:=["wanted","members","book","places"]
noncomputable abbrev a3i:List Str:=["_law_script","_law_k","_law_free"]
noncomputable abbrev a03:List Str:=["_law_remark_here","_law_book_here"]
noncomputable abbrev ab2:List Str:=["remark","book","places","kind"]
noncomputable abbrev a74:List Str:=["program","annotation","hand"]
noncomputable abbrev a6h:List Str:=["program","annotation","duty"]
noncomputable abbrev Lb:List Str:=["remark","hand","sets","to"]
noncomputable abbrev Rx:List Str:=["_law_one","_law_book_here"]
noncomputable abbrev X5:List Str:=["remark","book","places"]
noncomputable abbrev a7m:List Str:=["_law_script","_law_free"]
noncomputable abbrev Ry:List Str:=["_law_script","_law_k"]
noncomputable abbrev abf:List Str:=["box","many","times"]
noncomputable abbrev ac8:List Str:=["box","times","book"]
noncomputable abbrev a0o:List Str:=["remark","hand","to"]
noncomputable abbrev a1g:List Str:=["one","low","high"]
noncomputable abbrev ad6:List Str:=["box","one","ends"]
noncomputable abbrev a6y:List Str:=["program","number"]
noncomputable abbrev Yd:List Str:=["number","pairs"]
noncomputable abbrev a6q:List Str:=["program","sets"]
noncomputable abbrev a7k:List Str:=["remark","kind"]
noncomputable abbrev J6:List Str:=["box","number"]
noncomputable abbrev Jf:List Str:=["one","other"]
noncomputable abbrev Xm:List Str:=["one","times"]
noncomputable abbrev a1f:List Str:=["form","book"]
noncomputable abbrev Yl:List Str:=["one","book"]
noncomputable abbrev a4f:List Str:=["one","sets"]
noncomputable abbrev ad0:List Str:=["_law_script"]
noncomputable abbrev a7p:List Str:=["program"]
noncomputable abbrev Gz:List Str:=["remark"]
noncomputable abbrev T5:List Str:=["hand"]
noncomputable section
variable {P:Program} {w:World} {K:PySem.W.Frag} {mg:Str→Option Value} {base:Heap} {f:Addr} {fd:FuncData}
noncomputable abbrev Jd:Stmt:=top 1
theorem Pn:jg acz Yd (gw Jd):=⟨rfl,rfl,rfl,by decide +kernel,rfl,by decide +kernel,by decide +kernel⟩
theorem Y0 (F:Fun K "sum_of" "sum_of" Jd f fd) (b_sorted:mg "sorted" = none) (b_tuple:mg "tuple" = none):yh P w K mg base CX0 1 f fd Yd (spF K Yd.length _root_.K.vm):=by
  refine jq (N:=acz) F Pn (by decide)  fun cdv A outer s H E B hr=>?_
  have hu:=uy hr
  have hq:=hr.units
  have nd:acz.Nodup:=Pn.nd
  refine d9 ?_ ?_
  · exact Ck 2 (je nd rfl (Or.inr rfl) Mv) (fun _ _ _ h=>h)
  · refine d9 ?_ ?_
    · refine Az ?_ ?_ ?_ ?_ ?_ ?_
      · exact PassesOwn.never
      · exact rfl
      · exact qx (ao 1 (pv 1))
      · exact yp (is:=[3,4]) (yq rfl (j6 (gk nd rfl (Or.inl rfl)) (j6 (gk nd rfl (Or.inl rfl)) v8)))
      · exact iu (zy 2 hu (pv 2) (ao 3 (pv 3)) (j4 ju (Zq 2 hu (pv 2) (ao 3 (pv 3)) cj ⟨rfl,rfl,rfl,rfl⟩) (ao 4 (pv 4))) rfl)
      · exact qw
    · refine d9 ?_ ?_
      · exact ji 5 (Hj (N:=["box","times"]) ⟨rfl,rfl,by decide +kernel,by decide +kernel⟩ rfl (qx (mj (v9 (Qg (by rfl)) (by rfl) b_sorted PyProof.Rows.boot_sorted (aj (ao 2 (pv 2)) d7)))) (fun C s₀ H₀ ex pn=>pgE fun B=>(uo 0 (gk (show (["box","times"]:List Str).Nodup by decide +kernel) rfl (Or.inl rfl)))) (fun C s₀ H₀ ex pn=>(J9 fun B=>(lu (Ou hq) (fj hu (ao 1 (pv 1)) (ao 0 (pv 0)) (fun _ _=>rfl)) cj (jk _)))) (fun C s₀ H₀ ex pn=>peE fun B=>(fu (aj (ao 0 (pv 0)) (aj (fj hu (ao 1 (pv 1)) (ao 0 (pv 0)) (fun _ _=>rfl)) d7)) (dj (bf (bf d8)) (by decide)))) (gk nd rfl (Or.inl rfl)) rfl) (fun σ H Q h=>Jr ⟨rfl,fun j k h=>match j,h with | 0,h=>(by cases h; exact ⟨_,rfl,rfl,⟨.inl rfl,.inr (.inl rfl),.inl rfl⟩⟩) | _+1,h=>(by cases h)⟩ qw (Vi h))
      · exact iu (j9 (fu (aj (ao 0 (pv 0)) (aj (mj (v7 wj (by rfl) b_tuple PyProof.Rows.boot_tuple (aj (ao 5 (pv 5)) d7))) d7)) (dj (bf (bf d8)) (by decide))))
theorem Zh (F:Fun K "sum_of" "sum_of" Jd f fd) (hmg:mg "sum_of" = some (.ref f)) (b_sorted:mg "sorted" = none) (b_tuple:mg "tuple" = none):dz P w K mg base "sum_of" 1 Yd _root_.K.vm :=
  ⟨f,fd,Y0 F b_sorted b_tuple,F.binds (ps:=Yd) fun _ _ _ _ _ _ us hl=>bd2 (fun _ _=>rfl) us hl,F.kp,hmg⟩
noncomputable abbrev V3:Stmt:=top 2
theorem a0i:jg Jf Jf (gw V3):=⟨rfl,rfl,rfl,by decide +kernel,rfl,by decide +kernel,by decide +kernel⟩
theorem a5o (F:Fun K "plus" "plus" V3 f fd) (d_sum_of:dz P w K mg base "sum_of" 1 Yd (_root_.K.vm)):yh P w K mg base CX0 2 f fd Jf (spF K Jf.length _root_.K.Kp):=by
  have d_sum_of:=d_sum_of.mono (by decide:1≤1)
  refine jq (N:=Jf) F a0i (by decide)  fun cdv A outer s H E B hr=>?_
  have hu:=uy hr
  have hq:=hr.units
  have nd:Jf.Nodup:=a0i.nd
  refine iu ?_
  · refine j9 ?_
    · refine dg d_sum_of ?_ ?_ ?_ ?_
      · exact hr
      · exact by rfl
      · exact aj (j4 ju (fj hu (ao 0 (pv 0)) cj (fun _ _=>rfl)) (fj hu (ao 1 (pv 1)) cj (fun _ _=>rfl))) (aj (j4 ju (fj hu (ao 0 (pv 0)) cj (fun _ _=>rfl)) (fj hu (ao 1 (pv 1)) cj (fun _ _=>rfl))) d7)
      · exact cg (cg eq_nil)
theorem a5g (F:Fun K "plus" "plus" V3 f fd) (hmg:mg "plus" = some (.ref f)) (d_sum_of:dz P w K mg base "sum_of" 1 Yd (_root_.K.vm)):dz P w K mg base "plus" 2 Jf _root_.K.Kp :=
  ⟨f,fd,a5o F d_sum_of,F.binds (ps:=Jf) fun _ _ _ _ _ _ us hl=>bd2 (fun _ _=>rfl) us hl,F.kp,hmg⟩
noncomputable abbrev s_by:Stmt:=top 4
theorem a8w:jg Xm Xm (gw s_by):=⟨rfl,rfl,rfl,by decide +kernel,rfl,by decide +kernel,by decide +kernel⟩
theorem abk (F:Fun K "by" "by" s_by f fd) (d_sum_of:dz P w K mg base "sum_of" 1 Yd (_root_.K.vm)):yh P w K mg base CX0 2 f fd Xm (spF K Xm.length _root_.K.Z9):=by
  have d_sum_of:=d_sum_of.mono (by decide:1≤1)
  refine jq (N:=Xm) F a8w (by decide)  fun cdv A outer s H E B hr=>?_
  have hu:=uy hr
  have hq:=hr.units
  have nd:Xm.Nodup:=a8w.nd
  refine iu ?_
  · refine j9 ?_
    · refine dg d_sum_of ?_ ?_ ?_ ?_
      · exact hr
      · exact by rfl
      · refine aj ?_ ?_
        · exact j4 Ab (fj hu (ao 0 (pv 0)) cj (fun _ _=>rfl)) (ao 1 (pv 1))
        · refine aj ?_ ?_
          · refine uw ?_
            · refine xq (N:=abf) ?_ ?_ ?_ ?_ ?_ ?_ ?_ ?_
              · exact ⟨rfl,fun j k h=>match j,h with | 0,h=>(by cases h; exact ⟨_,rfl,rfl,⟨.inl rfl,.inr (.inl rfl),.inl rfl⟩⟩) | _+1,h=>(by cases h)⟩
              · exact ⟨rfl,rfl,by decide +kernel,by decide +kernel⟩
              · exact rfl
              · exact qx (fj hu (ao 0 (pv 0)) cj (fun _ _=>rfl))
              · exact qw
              · exact fun C s₀ H₀ ex pn=>pgE fun B=>(yp (is:=[0,1]) (yq rfl (j6 (gk (show abf.Nodup by decide +kernel) rfl (Or.inl rfl)) (j6 (gk (show abf.Nodup by decide +kernel) rfl (Or.inl rfl)) v8))))
              · exact fun C s₀ H₀ ex pn=>u9
              · exact fun C s₀ H₀ ex pn=>peE fun B=>(fu (aj (ao 0 (pv 0)) (aj (j4 Ab (ao 1 (pv 1)) (ao 2 (pv 2))) d7)) (dj (bf (bf d8)) (by decide)))
          · exact d7
      · exact cg (cg eq_nil)
theorem ac3 (F:Fun K "by" "by" s_by f fd) (hmg:mg "by" = some (.ref f)) (d_sum_of:dz P w K mg base "sum_of" 1 Yd (_root_.K.vm)):dz P w K mg base "by" 2 Xm _root_.K.Z9 :=
  ⟨f,fd,abk F d_sum_of,F.binds (ps:=Xm) fun _ _ _ _ _ _ us hl=>bd2 (fun _ _=>rfl) us hl,F.kp,hmg⟩
noncomputable abbrev Od:Stmt:=top 3
theorem Vg:jg Jf Jf (gw Od):=⟨rfl,rfl,rfl,by decide +kernel,rfl,by decide +kernel,by decide +kernel⟩
theorem a2i (F:Fun K "minus" "minus" Od f fd) (d_by:dz P w K mg base "by" 2 Xm (_root_.K.Z9)) (d_plus:dz P w K mg base "plus" 2 Jf (_root_.K.Kp)):yh P w K mg base CX0 3 f fd Jf (spF K Jf.length _root_.K.ud):=by
  have d_by:=d_by.mono (by decide:2≤2)
  have d_plus:=d_plus.mono (by decide:2≤2)
  refine jq (N:=Jf) F Vg (by decide)  fun cdv A outer s H E B hr=>?_
  have hu:=uy hr
  have hq:=hr.units
  have nd:Jf.Nodup:=Vg.nd
  exact iu (j9 (dg d_plus hr (by rfl) (aj (ao 0 (pv 0)) (aj (dg d_by hr (by rfl) (aj (ao 1 (pv 1)) (aj (Xi Hz cj) d7)) (cg (cg eq_nil))) d7)) (cg (cg eq_nil))))
theorem a1v (F:Fun K "minus" "minus" Od f fd) (hmg:mg "minus" = some (.ref f)) (d_by:dz P w K mg base "by" 2 Xm (_root_.K.Z9)) (d_plus:dz P w K mg base "plus" 2 Jf (_root_.K.Kp)):dz P w K mg base "minus" 3 Jf _root_.K.ud :=
  ⟨f,fd,a2i F d_by d_plus,F.binds (ps:=Jf) fun _ _ _ _ _ _ us hl=>bd2 (fun _ _=>rfl) us hl,F.kp,hmg⟩
noncomputable abbrev Nh:Stmt:=top 5
theorem V5:jg Yl Yl (gw Nh):=⟨rfl,rfl,rfl,by decide +kernel,rfl,by decide +kernel,by decide +kernel⟩
theorem a2t (F:Fun K "value" "value" Nh f fd) (b_sum:mg "sum" = none):yh P w K mg base CX0 1 f fd Yl (spF K Yl.length _root_.K.Eb):=by
  refine jq (N:=Yl) F V5 (by decide)  fun cdv A outer s H E B hr=>?_
  have hu:=uy hr
  have hq:=hr.units
  have nd:Yl.Nodup:=V5.nd
  refine iu ?_
  · refine j9 ?_
    · refine j4 ?_ ?_ ?_
      · exact ju
      · exact fj hu (ao 0 (pv 0)) cj (fun _ _=>rfl)
      · refine mj ?_
        · refine v9 (Oi (by rfl)) ?_ ?_ PyProof.Rows.boot_sum ?_
          · exact by rfl
          · exact b_sum
          · refine aj ?_ ?_
            · refine uw ?_
              · refine xq (N:=ac8) ?_ ?_ ?_ ?_ ?_ ?_ ?_ ?_
                · exact ⟨rfl,fun j k h=>match j,h with | 0,h=>(by cases h; exact ⟨_,rfl,rfl,⟨.inl rfl,.inr (.inl rfl),.inl rfl⟩⟩) | _+1,h=>(by cases h)⟩
                · exact ⟨rfl,rfl,by decide +kernel,by decide +kernel⟩
                · exact rfl
                · exact qx (fj hu (ao 0 (pv 0)) cj (fun _ _=>rfl))
                · exact qw
                · exact fun C s₀ H₀ ex pn=>pgE fun B=>(yp (is:=[0,1]) (yq rfl (j6 (gk (show ac8.Nodup by decide +kernel) rfl (Or.inl rfl)) (j6 (gk (show ac8.Nodup by decide +kernel) rfl (Or.inl rfl)) v8))))
                · exact fun C s₀ H₀ ex pn=>u9
                · exact fun C s₀ H₀ ex pn=>peE fun B=>(j4 Ab (ao 1 (pv 1)) (fj hu (ao 2 (pv 2)) (ao 0 (pv 0)) (fun _ _=>rfl)))
            · exact d7
theorem a1r (F:Fun K "value" "value" Nh f fd) (hmg:mg "value" = some (.ref f)) (b_sum:mg "sum" = none):dz P w K mg base "value" 1 Yl _root_.K.Eb :=
  ⟨f,fd,a2t F b_sum,F.binds (ps:=Yl) fun _ _ _ _ _ _ us hl=>bd2 (fun _ _=>rfl) us hl,F.kp,hmg⟩
noncomputable abbrev a1l:Stmt:=top 6
theorem a3y:jg ac5 a4f (gw a1l):=⟨rfl,rfl,rfl,by decide +kernel,rfl,by decide +kernel,by decide +kernel⟩
theorem a8j (F:Fun K "put" "put" a1l f fd) (d_by:dz P w K mg base "by" 2 Xm (_root_.K.Z9)) (d_sum_of:dz P w K mg base "sum_of" 1 Yd (_root_.K.vm)):yh P w K mg base CX0 3 f fd a4f (spF K a4f.length _root_.K.Qj):=by
  have d_by:=d_by.mono (by decide:2≤2)
  have d_sum_of:=d_sum_of.mono (by decide:1≤2)
  refine jq (N:=ac5) F a3y (by decide)  fun cdv A outer s H E B hr=>?_
  have hu:=uy hr
  have hq:=hr.units
  have nd:ac5.Nodup:=a3y.nd
  refine d9 ?_ ?_
  · exact ji 2 (je nd rfl (Or.inl rfl) (fj hu (ao 0 (pv 0)) cj (fun _ _=>rfl))) (fun _ _ _ h=>h)
  · refine d9 ?_ ?_
    · exact Ck 3 (je nd rfl (Or.inl rfl) (Vy d7 (dj d8 (by decide)))) (fun _ _ _ h=>h)
    · refine d9 ?_ ?_
      · refine Az ?_ ?_ ?_ ?_ ?_ ?_
        · exact PassesOwn.never
        · exact rfl
        · exact qx (fj hu (ao 0 (pv 0)) cj (fun _ _=>rfl))
        · exact yp (is:=[4,5]) (yq rfl (j6 (gk nd rfl (Or.inl rfl)) (j6 (gk nd rfl (Or.inl rfl)) v8)))
        · refine d9 ?_ ?_
          · refine @ji _ _ _ _ (tOf _ _ _) _ ?_ (fun _ _ _ h=>h)
            · refine je ?_ ?_ ?_ ?_
              · exact nd
              · exact rfl
              · exact Or.inl rfl
              · refine a8s ?_ ?_ ?_ ?_ ?_
                · exact hu
                · exact ao 1 (pv 1)
                · exact ao 4 (pv 4)
                · exact fu (aj cj (aj (fu (aj (fu (aj (ao 4 (pv 4)) (aj cj d7)) (dj (bf (bf d8)) (by decide))) d7) (dj (bf d8) (by decide))) d7)) (dj (bf (bf d8)) (by decide))
                · exact ⟨rfl,rfl,rfl,rfl⟩
          · refine d9 ?_ ?_
            · exact ji 2 (je nd rfl (Or.inl rfl) (j4 ju (ao 2 (pv 2)) (j4 Ab (ao 5 (pv 5)) (fj hu (ao 6 (pv 6)) cj (fun _ _=>rfl))))) (fun _ _ _ h=>h)
            · exact iu (Ba 3 (yw (Hx PySem.F.plainAttrs_list PySem.F.slot_list_extend PySem.F.type_list_extend yu (pv 3) (qz (fj hu (dg d_by hr (by rfl) (aj (ao 6 (pv 6)) (aj (ao 5 (pv 5)) d7)) (cg (cg eq_nil))) cj (fun _ _=>rfl)) wu))))
        · exact qw
      · exact iu (j9 (dg d_sum_of hr (by rfl) (aj (ao 2 (pv 2)) (aj (ao 3 (pv 3)) d7)) (cg (cg eq_nil))))
theorem a88 (F:Fun K "put" "put" a1l f fd) (hmg:mg "put" = some (.ref f)) (d_by:dz P w K mg base "by" 2 Xm (_root_.K.Z9)) (d_sum_of:dz P w K mg base "sum_of" 1 Yd (_root_.K.vm)):dz P w K mg base "put" 3 a4f _root_.K.Qj :=
  ⟨f,fd,a8j F d_by d_sum_of,F.binds (ps:=a4f) fun _ _ _ _ _ _ us hl=>bd2 (fun _ _=>rfl) us hl,F.kp,hmg⟩
noncomputable abbrev Jj:Stmt:=top 10
theorem W8:jg ab2 X5 (gw Jj):=⟨rfl,rfl,rfl,by decide +kernel,rfl,by decide +kernel,by decide +kernel⟩
theorem a2n (F:Fun K "holds" "holds" Jj f fd) {nn:Nat} (d_any_is:dz P w K mg base "any_is" (1+nn) a3u (_root_.K.zj nn)) (d_holds:dz P w K mg base "holds" (1+nn) X5 (_root_.K.uf nn)) (d_value:dz P w K mg base "value" 1 Yl (_root_.K.Eb)):yh P w K mg base CX0 (1+nn+1) f fd X5 (spF K X5.length (_root_.K.uf (nn+1))):=by
  have d_any_is:=d_any_is.mono (show (1+nn)≤(1+nn) by first | decide | omega)
  have d_holds:=d_holds.mono (show (1+nn)≤(1+nn) by first | decide | omega)
  have d_value:=d_value.mono (show 1≤(1+nn) by first | decide | omega)
  refine jq (N:=ab2) F W8 (by decide)  fun cdv A outer s H E B hr=>?_
  have hu:=uy hr
  have hq:=hr.units
  have nd:ab2.Nodup:=W8.nd
  refine d9 ?_ ?_
  · exact ji 3 (je nd rfl (Or.inl rfl) (fj hu (ao 0 (pv 0)) cj (fun _ _=>rfl))) (fun _ _ _ h=>h)
  · refine d9 ?_ ?_
    · exact um (lu (m8 hq) (ao 3 (pv 3)) j5 (jk _))   (iu (j9 (Cj a3x (dg d_value hr (by rfl) (aj (fj hu (ao 0 (pv 0)) cj (fun _ _=>rfl)) (aj (ao 1 (pv 1)) d7)) (cg (cg eq_nil))) cj (jk _))))   m9
    · refine d9 ?_ ?_
      · refine um ?_ ?_ ?_
        · exact lu (m8 hq) (ao 3 (pv 3)) j5 (jk _)
        · exact iu (j9 (Cj (m8 hq) (j4 jy (dg d_value hr (by rfl) (aj (fj hu (ao 0 (pv 0)) cj (fun _ _=>rfl)) (aj (ao 1 (pv 1)) d7)) (cg (cg eq_nil))) (fj hu (ao 0 (pv 0)) cj (fun _ _=>rfl))) cj (jk _)))
        · exact m9
      · refine d9 ?_ ?_
        · exact um (lu (m8 hq) (ao 3 (pv 3)) j5 (jk _))   (iu (j9 (Cj (m8 hq) (fj hu (ao 2 (pv 2)) (fj hu (ao 0 (pv 0)) cj (fun _ _=>rfl)) (fun _ _=>rfl)) (fj hu (ao 0 (pv 0)) cj (fun _ _=>rfl)) (jk _))))   m9
        · refine d9 ?_ ?_
          · exact um (lu (m8 hq) (ao 3 (pv 3)) j5 (jk _))   (iu (j9 (Uv (dg d_holds hr (by rfl) (aj (fj hu (ao 0 (pv 0)) cj (fun _ _=>rfl)) (aj (ao 1 (pv 1)) (aj (ao 2 (pv 2)) d7))) (cg (cg (cg eq_nil)))))))   m9
          · refine d9 ?_ ?_
            · refine um ?_ ?_ ?_
              · exact lu (m8 hq) (ao 3 (pv 3)) j5 (jk _)
              · exact iu (j9 (Uv (dg d_any_is hr (by rfl) (aj Nu (aj (fj hu (ao 0 (pv 0)) cj (fun _ _=>rfl)) (aj (ao 1 (pv 1)) (aj (ao 2 (pv 2)) d7)))) (cg (cg (cg (cg eq_nil)))))))
              · exact m9
            · exact iu (j9 (dg d_any_is hr (by rfl) (aj Nu (aj (fj hu (ao 0 (pv 0)) cj (fun _ _=>rfl)) (aj (ao 1 (pv 1)) (aj (ao 2 (pv 2)) d7)))) (cg (cg (cg (cg eq_nil))))))
theorem a3a (F:Fun K "holds" "holds" Jj f fd) (hmg:mg "holds" = some (.ref f)) {nn:Nat} (d_any_is:dz P w K mg base "any_is" (1+nn) a3u (_root_.K.zj nn)) (d_holds:dz P w K mg base "holds" (1+nn) X5 (_root_.K.uf nn)) (d_value:dz P w K mg base "value" 1 Yl (_root_.K.Eb)):dz P w K mg base "holds" (1+nn+1) X5 (_root_.K.uf (nn+1)) :=
  ⟨f,fd,a2n F d_any_is d_holds d_value,F.binds (ps:=X5) fun _ _ _ _ _ _ us hl=>bd3 (fun _ _ _=>rfl) us hl,F.kp,hmg⟩
noncomputable abbrev Fv:Stmt:=top 11
theorem Qa:jg ac4 a3u (gw Fv):=⟨rfl,rfl,rfl,by decide +kernel,rfl,by decide +kernel,by decide +kernel⟩
theorem Z4 (F:Fun K "any_is" "any_is" Fv f fd) {nn:Nat} (d_holds:dz P w K mg base "holds" (1+nn) X5 (_root_.K.uf nn)):yh P w K mg base CX0 (1+nn+1) f fd a3u (spF K a3u.length (_root_.K.zj (nn+1))):=by
  have d_holds:=d_holds.mono (show (1+nn)≤(1+nn) by first | decide | omega)
  refine jq (N:=ac4) F Qa (by decide)  fun cdv A outer s H E B hr=>?_
  have hu:=uy hr
  have hq:=hr.units
  have nd:ac4.Nodup:=Qa.nd
  refine d9 ?_ ?_
  · refine Az ?_ ?_ ?_ ?_ ?_ ?_
    · exact PassesOwn.never
    · exact rfl
    · exact qx (ao 1 (pv 1))
    · exact uo 4 (gk nd rfl (Or.inl rfl))
    · exact iu (um (lu (m8 hq) (dg d_holds hr (by rfl) (aj (ao 4 (pv 4)) (aj (ao 2 (pv 2)) (aj (ao 3 (pv 3)) d7))) (cg (cg (cg eq_nil)))) (ao 0 (pv 0)) (jk _))   (iu (j9 Nu))   m9)
    · exact qw
  · exact iu (j9 Nu)
theorem Zj (F:Fun K "any_is" "any_is" Fv f fd) (hmg:mg "any_is" = some (.ref f)) {nn:Nat} (d_holds:dz P w K mg base "holds" (1+nn) X5 (_root_.K.uf nn)):dz P w K mg base "any_is" (1+nn+1) a3u (_root_.K.zj (nn+1)) :=
  ⟨f,fd,Z4 F d_holds,F.binds (ps:=a3u) fun _ _ _ _ _ _ us hl=>bd4 (fun _ _ _ _=>rfl) us hl,F.kp,hmg⟩
theorem Pb {f_holds:Addr} {fd_holds:FuncData} {f_any_is:Addr} {fd_any_is:FuncData} (F_holds:Fun K "holds" "holds" Jj f_holds fd_holds) (h_holds:mg "holds" = some (.ref f_holds)) (F_any_is:Fun K "any_is" "any_is" Fv f_any_is fd_any_is) (h_any_is:mg "any_is" = some (.ref f_any_is)) (d_value:dz P w K mg base "value" 1 Yl _root_.K.Eb):∀ nn:Nat,dz P w K mg base "holds" (1+nn) X5 (_root_.K.uf nn)∧dz P w K mg base "any_is" (1+nn) a3u (_root_.K.zj nn)
  | 0=>⟨dz.zero F_holds h_holds (F_holds.binds (ps:=X5) fun _ _ _ _ _ _ us hl=>bd3 (fun _ _ _=>rfl) us hl),dz.zero F_any_is h_any_is (F_any_is.binds (ps:=a3u) fun _ _ _ _ _ _ us hl=>bd4 (fun _ _ _ _=>rfl) us hl)⟩
  | nn+1=>by
    have ih:=Pb F_holds h_holds F_any_is h_any_is d_value nn
    obtain ⟨d_holds,d_any_is⟩:=ih
    exact ⟨a3a F_holds h_holds d_any_is d_holds d_value,Zj F_any_is h_any_is d_holds⟩
noncomputable abbrev Ae:Stmt:=top 14
theorem Fg:jg a0o a0o (gw Ae):=⟨rfl,rfl,rfl,by decide +kernel,rfl,by decide +kernel,by decide +kernel⟩
theorem Lk (F:Fun K "place_ahead" "place_ahead" Ae f fd) (c_FALSE_ONE:∃ u,mg "FALSE_ONE" = some u∧Held K u (.tup [(.str "or"),(.tup [])])) (c_TRUE_ONE:∃ u,mg "TRUE_ONE" = some u∧Held K u (.tup [(.str "and"),(.tup [])])):yh P w K mg base CX0 1 f fd a0o (spF K a0o.length _root_.K.uq):=by
  refine jq (N:=a0o) F Fg (by decide)  fun cdv A outer s H E B hr=>?_
  have hu:=uy hr
  have hq:=hr.units
  have nd:a0o.Nodup:=Fg.nd
  refine d9 ?_ ?_
  · exact um (lu (Ou hq) (fj hu (ao 0 (pv 0)) cj (fun _ _=>rfl)) (ao 1 (pv 1)) (jk _))   (iu (j9 (ao 0 (pv 0))))   m9
  · exact iu (j9 (a2l (lu (m8 hq) (fj hu (ao 0 (pv 0)) cj (fun _ _=>rfl)) (ao 2 (pv 2)) (jk _)) (Vx (by rfl) c_TRUE_ONE) (Vx (by rfl) c_FALSE_ONE)))
theorem Kz (F:Fun K "place_ahead" "place_ahead" Ae f fd) (hmg:mg "place_ahead" = some (.ref f)) (c_FALSE_ONE:∃ u,mg "FALSE_ONE" = some u∧Held K u (.tup [(.str "or"),(.tup [])])) (c_TRUE_ONE:∃ u,mg "TRUE_ONE" = some u∧Held K u (.tup [(.str "and"),(.tup [])])):dz P w K mg base "place_ahead" 1 a0o _root_.K.uq :=
  ⟨f,fd,Lk F c_FALSE_ONE c_TRUE_ONE,F.binds (ps:=a0o) fun _ _ _ _ _ _ us hl=>bd3 (fun _ _ _=>rfl) us hl,F.kp,hmg⟩
noncomputable abbrev xr:Stmt:=top 13
theorem Fj:jg aby Lb (gw xr):=⟨rfl,rfl,rfl,by decide +kernel,rfl,by decide +kernel,by decide +kernel⟩
theorem Li (F:Fun K "asked_ahead" "asked_ahead" xr f fd) {nn:Nat} (d_asked_ahead:dz P w K mg base "asked_ahead" (3+nn) Lb (_root_.K.jc nn)) (d_place_ahead:dz P w K mg base "place_ahead" 1 a0o (_root_.K.uq)) (d_put:dz P w K mg base "put" 3 a4f (_root_.K.Qj)) (b_tuple:mg "tuple" = none):yh P w K mg base CX0 (3+nn+1) f fd Lb (spF K Lb.length (_root_.K.jc (nn+1))):=by
  have d_asked_ahead:=d_asked_ahead.mono (show (3+nn)≤(3+nn) by first | decide | omega)
  have d_place_ahead:=d_place_ahead.mono (show 1≤(3+nn) by first | decide | omega)
  have d_put:=d_put.mono (show 3≤(3+nn) by first | decide | omega)
  refine jq (N:=aby) F Fj (by decide)  fun cdv A outer s H E B hr=>?_
  have hu:=uy hr
  have hq:=hr.units
  have nd:aby.Nodup:=Fj.nd
  refine d9 ?_ ?_
  · exact ji 4 (je nd rfl (Or.inl rfl) (fj hu (ao 0 (pv 0)) cj (fun _ _=>rfl))) (fun _ _ _ h=>h)
  · refine d9 ?_ ?_
    · refine um ?_ ?_ ?_
      · exact lu (m8 hq) (ao 4 (pv 4)) j5 (jk _)
      · exact iu (j9 (fu (aj j5 (aj (dg d_put hr (by rfl) (aj (fj hu (ao 0 (pv 0)) cj (fun _ _=>rfl)) (aj (ao 2 (pv 2)) d7)) (cg (cg eq_nil))) d7)) (dj (bf (bf d8)) (by decide))))
      · exact m9
    · refine d9 ?_ ?_
      · refine um ?_ ?_ ?_
        · exact lu (m8 hq) (ao 4 (pv 4)) j5 (jk _)
        · refine iu ?_
          · refine j9 ?_
            · refine fu ?_ ?_
              · exact aj j5 (aj (dg d_put hr (by rfl) (aj (fj hu (ao 0 (pv 0)) cj (fun _ _=>rfl)) (aj (ao 2 (pv 2)) d7)) (cg (cg eq_nil))) (aj (fj hu (ao 0 (pv 0)) cj (fun _ _=>rfl)) d7))
              · exact dj (bf (bf (bf d8))) (by decide)
        · exact m9
      · refine d9 ?_ ?_
        · exact um (lu (m8 hq) (ao 4 (pv 4)) j5 (jk _))   (iu (j9 (dg d_place_ahead hr (by rfl) (aj (ao 0 (pv 0)) (aj (ao 1 (pv 1)) (aj (ao 3 (pv 3)) d7))) (cg (cg (cg eq_nil))))))   m9
        · refine d9 ?_ ?_
          · refine um ?_ ?_ ?_
            · exact lu (m8 hq) (ao 4 (pv 4)) j5 (jk _)
            · refine iu ?_
              · refine j9 ?_
                · refine fu ?_ ?_
                  · exact aj j5 (aj (dg d_asked_ahead hr (by rfl) (aj (fj hu (ao 0 (pv 0)) cj (fun _ _=>rfl)) (aj (ao 1 (pv 1)) (aj (ao 2 (pv 2)) (aj (ao 3 (pv 3)) d7)))) (cg (cg (cg (cg eq_nil))))) d7)
                  · exact dj (bf (bf d8)) (by decide)
            · exact m9
          · refine iu ?_
            · refine j9 ?_
              · refine fu ?_ ?_
                · refine aj ?_ ?_
                  · exact ao 4 (pv 4)
                  · refine aj ?_ ?_
                    · refine mj ?_
                      · refine v7 wj ?_ ?_ PyProof.Rows.boot_tuple ?_
                        · exact by rfl
                        · exact b_tuple
                        · refine aj ?_ ?_
                          · refine uw ?_
                            · refine xq (N:=["member","hand","sets","to"]) ?_ ?_ ?_ ?_ ?_ ?_ ?_ ?_
                              · refine ⟨rfl,fun j k h=>match j,h with | 0,h=>(by cases h; exact ⟨_,rfl,rfl,⟨.inl rfl,.inr (.inl rfl),.inl rfl⟩⟩) | 1,h=>(by cases h; exact ⟨_,rfl,rfl,⟨.inl rfl,.inr (.inl rfl),.inl rfl⟩⟩) | 2,h=>(by cases h; exact ⟨_,rfl,rfl,⟨.inl rfl,.inr (.inl rfl),.inl rfl⟩⟩) | _+3,h=>(by cases h)⟩
                              · exact ⟨rfl,rfl,by decide +kernel,by decide +kernel⟩
                              · exact rfl
                              · exact qx (fj hu (ao 0 (pv 0)) cj (fun _ _=>rfl))
                              · exact qw
                              · exact fun C s₀ H₀ ex pn=>pgE fun B=>(uo 0 (gk (show (["member","hand","sets","to"]:List Str).Nodup by decide +kernel) rfl (Or.inl rfl)))
                              · exact fun C s₀ H₀ ex pn=>u9
                              · exact fun C s₀ H₀ ex pn=>peE fun B=>(dg d_asked_ahead hr (by rfl) (aj (ao 0 (pv 0)) (aj (ao 1 (pv 1)) (aj (ao 2 (pv 2)) (aj (ao 3 (pv 3)) d7)))) (cg (cg (cg (cg eq_nil)))))
                          · exact d7
                    · exact d7
                · exact dj (bf (bf d8)) (by decide)
theorem Lx (F:Fun K "asked_ahead" "asked_ahead" xr f fd) (hmg:mg "asked_ahead" = some (.ref f)) {nn:Nat} (d_asked_ahead:dz P w K mg base "asked_ahead" (3+nn) Lb (_root_.K.jc nn)) (d_place_ahead:dz P w K mg base "place_ahead" 1 a0o (_root_.K.uq)) (d_put:dz P w K mg base "put" 3 a4f (_root_.K.Qj)) (b_tuple:mg "tuple" = none):dz P w K mg base "asked_ahead" (3+nn+1) Lb (_root_.K.jc (nn+1)) :=
  ⟨f,fd,Li F d_asked_ahead d_place_ahead d_put b_tuple,F.binds (ps:=Lb) fun _ _ _ _ _ _ us hl=>bd4 (fun _ _ _ _=>rfl) us hl,F.kp,hmg⟩
theorem Dz {f_asked_ahead:Addr} {fd_asked_ahead:FuncData} (F_asked_ahead:Fun K "asked_ahead" "asked_ahead" xr f_asked_ahead fd_asked_ahead) (h_asked_ahead:mg "asked_ahead" = some (.ref f_asked_ahead)) (d_place_ahead:dz P w K mg base "place_ahead" 1 a0o _root_.K.uq) (d_put:dz P w K mg base "put" 3 a4f _root_.K.Qj) (b_tuple:mg "tuple" = none):∀ nn:Nat,dz P w K mg base "asked_ahead" (3+nn) Lb (_root_.K.jc nn)
  | 0=>dz.zero F_asked_ahead h_asked_ahead (F_asked_ahead.binds (ps:=Lb) fun _ _ _ _ _ _ us hl=>bd4 (fun _ _ _ _=>rfl) us hl)
  | nn+1=>by
    have ih:=Dz F_asked_ahead h_asked_ahead d_place_ahead d_put b_tuple nn
    have d_asked_ahead:=ih
    exact Lx F_asked_ahead h_asked_ahead d_asked_ahead d_place_ahead d_put b_tuple
noncomputable abbrev J4:Stmt:=top 12
theorem Q9:jg Lb Lb (gw J4):=⟨rfl,rfl,rfl,by decide +kernel,rfl,by decide +kernel,by decide +kernel⟩
theorem a0m (F:Fun K "behind" "behind" J4 f fd) (d_asked_ahead:dz P w K mg base "asked_ahead" 43 Lb (_root_.K.jc 40)) (b_dict:mg "dict" = none):yh P w K mg base CX0 44 f fd Lb (spF K Lb.length _root_.K.Aj):=by
  have d_asked_ahead:=d_asked_ahead.mono (by decide:43≤43)
  refine jq (N:=Lb) F Q9 (by decide)  fun cdv A outer s H E B hr=>?_
  have hu:=uy hr
  have hq:=hr.units
  have nd:Lb.Nodup:=Q9.nd
  refine iu ?_
  · refine j9 ?_
    · refine dg d_asked_ahead ?_ ?_ ?_ ?_
      · exact hr
      · exact by rfl
      · exact aj (ao 0 (pv 0)) (aj (ao 1 (pv 1)) (aj (mj (v7 (Wz (by rfl)) (by rfl) b_dict PyProof.Rows.boot_dict (aj (ao 2 (pv 2)) d7))) (aj (ao 3 (pv 3)) d7)))
      · exact cg (cg (cg (cg eq_nil)))
theorem Xu (F:Fun K "behind" "behind" J4 f fd) (hmg:mg "behind" = some (.ref f)) (d_asked_ahead:dz P w K mg base "asked_ahead" 43 Lb (_root_.K.jc 40)) (b_dict:mg "dict" = none):dz P w K mg base "behind" 44 Lb _root_.K.Aj :=
  ⟨f,fd,a0m F d_asked_ahead b_dict,F.binds (ps:=Lb) fun _ _ _ _ _ _ us hl=>bd4 (fun _ _ _ _=>rfl) us hl,F.kp,hmg⟩
noncomputable abbrev Df:Stmt:=top 17
theorem Iw:jg a1f a1f (gw Df):=⟨rfl,rfl,rfl,by decide +kernel,rfl,by decide +kernel,by decide +kernel⟩
theorem Rf (F:Fun K "form_true" "form_true" Df f fd) (d_holds:dz P w K mg base "holds" 41 X5 (_root_.K.uf 40)):yh P w K mg base CX0 42 f fd a1f (spF K a1f.length _root_.K.m5):=by
  have d_holds:=d_holds.mono (by decide:41≤41)
  refine jq (N:=a1f) F Iw (by decide)  fun cdv A outer s H E B hr=>?_
  have hu:=uy hr
  have hq:=hr.units
  have nd:a1f.Nodup:=Iw.nd
  exact iu (j9 (dg d_holds hr (by rfl) (aj (ao 0 (pv 0)) (aj (ao 1 (pv 1)) (aj (uw Mv) d7))) (cg (cg (cg eq_nil)))))
theorem Oo (F:Fun K "form_true" "form_true" Df f fd) (hmg:mg "form_true" = some (.ref f)) (d_holds:dz P w K mg base "holds" 41 X5 (_root_.K.uf 40)):dz P w K mg base "form_true" 42 a1f _root_.K.m5 :=
  ⟨f,fd,Rf F d_holds,F.binds (ps:=a1f) fun _ _ _ _ _ _ us hl=>bd2 (fun _ _=>rfl) us hl,F.kp,hmg⟩
noncomputable abbrev Dh:Stmt:=top 18
theorem Ik:jg T5 T5 (gw Dh):=⟨rfl,rfl,rfl,by decide +kernel,rfl,by decide +kernel,by decide +kernel⟩
theorem Q0 (F:Fun K "place_box" "place_box" Dh f fd):yh P w K mg base CX0 1 f fd T5 (spF K T5.length _root_.K.ni):=by
  refine jq (N:=T5) F Ik (by decide)  fun cdv A outer s H E B hr=>?_
  have hu:=uy hr
  have hq:=hr.units
  have nd:T5.Nodup:=Ik.nd
  exact iu (j9 (j4 ju j5 (ao 0 (pv 0))))
theorem Qn (F:Fun K "place_box" "place_box" Dh f fd) (hmg:mg "place_box" = some (.ref f)):dz P w K mg base "place_box" 1 T5 _root_.K.ni :=
  ⟨f,fd,Q0 F,F.binds (ps:=T5) fun _ _ _ _ _ _ us hl=>bd1 (fun _=>rfl) us hl,F.kp,hmg⟩
noncomputable abbrev Bt:Stmt:=top 19
theorem Ge:jg J6 J6 (gw Bt):=⟨rfl,rfl,rfl,by decide +kernel,rfl,by decide +kernel,by decide +kernel⟩
theorem Nj (F:Fun K "equal_form" "equal_form" Bt f fd):yh P w K mg base CX0 1 f fd J6 (spF K J6.length _root_.K.nu):=by
  refine jq (N:=J6) F Ge (by decide)  fun cdv A outer s H E B hr=>?_
  have hu:=uy hr
  have hq:=hr.units
  have nd:J6.Nodup:=Ge.nd
  refine iu ?_
  · refine j9 ?_
    · refine fu ?_ ?_
      · refine aj ?_ ?_
        · exact j5
        · refine aj ?_ ?_
          · refine fu ?_ ?_
            · refine aj ?_ ?_
              · refine fu ?_ ?_
                · refine aj ?_ ?_
                  · exact j5
                  · refine aj ?_ ?_
                    · exact fu (aj (Xi Hz (ao 1 (pv 1))) (aj (fu (aj (fu (aj (ao 0 (pv 0)) (aj cj d7)) (dj (bf (bf d8)) (by decide))) d7) (dj (bf d8) (by decide))) d7)) (dj (bf (bf d8)) (by decide))
                    · exact d7
                · exact dj (bf (bf d8)) (by decide)
              · refine aj ?_ ?_
                · refine fu ?_ ?_
                  · refine aj ?_ ?_
                    · exact j5
                    · refine aj ?_ ?_
                      · exact fu (aj (ao 1 (pv 1)) (aj (fu (aj (fu (aj (ao 0 (pv 0)) (aj (Xi Hz cj) d7)) (dj (bf (bf d8)) (by decide))) d7) (dj (bf d8) (by decide))) d7)) (dj (bf (bf d8)) (by decide))
                      · exact d7
                  · exact dj (bf (bf d8)) (by decide)
                · exact d7
            · exact dj (bf (bf d8)) (by decide)
          · exact d7
      · exact dj (bf (bf d8)) (by decide)
theorem Ob (F:Fun K "equal_form" "equal_form" Bt f fd) (hmg:mg "equal_form" = some (.ref f)):dz P w K mg base "equal_form" 1 J6 _root_.K.nu :=
  ⟨f,fd,Nj F,F.binds (ps:=J6) fun _ _ _ _ _ _ us hl=>bd2 (fun _ _=>rfl) us hl,F.kp,hmg⟩
noncomputable abbrev zp:Stmt:=top 20
theorem Ec:jg J6 J6 (gw zp):=⟨rfl,rfl,rfl,by decide +kernel,rfl,by decide +kernel,by decide +kernel⟩
theorem Jl (F:Fun K "unequal_form" "unequal_form" zp f fd):yh P w K mg base CX0 1 f fd J6 (spF K J6.length _root_.K.tu):=by
  refine jq (N:=J6) F Ec (by decide)  fun cdv A outer s H E B hr=>?_
  have hu:=uy hr
  have hq:=hr.units
  have nd:J6.Nodup:=Ec.nd
  refine iu ?_
  · refine j9 ?_
    · refine fu ?_ ?_
      · refine aj ?_ ?_
        · exact j5
        · refine aj ?_ ?_
          · refine fu ?_ ?_
            · refine aj ?_ ?_
              · refine fu ?_ ?_
                · refine aj ?_ ?_
                  · exact j5
                  · refine aj ?_ ?_
                    · refine fu ?_ ?_
                      · exact aj (j4 Ds cj (ao 1 (pv 1))) (aj (fu (aj (fu (aj (ao 0 (pv 0)) (aj cj d7)) (dj (bf (bf d8)) (by decide))) d7) (dj (bf d8) (by decide))) d7)
                      · exact dj (bf (bf d8)) (by decide)
                    · exact d7
                · exact dj (bf (bf d8)) (by decide)
              · refine aj ?_ ?_
                · refine fu ?_ ?_
                  · refine aj ?_ ?_
                    · exact j5
                    · refine aj ?_ ?_
                      · refine fu ?_ ?_
                        · exact aj (j4 ju (ao 1 (pv 1)) cj) (aj (fu (aj (fu (aj (ao 0 (pv 0)) (aj (Xi Hz cj) d7)) (dj (bf (bf d8)) (by decide))) d7) (dj (bf d8) (by decide))) d7)
                        · exact dj (bf (bf d8)) (by decide)
                      · exact d7
                  · exact dj (bf (bf d8)) (by decide)
                · exact d7
            · exact dj (bf (bf d8)) (by decide)
          · exact d7
      · exact dj (bf (bf d8)) (by decide)
theorem Jo (F:Fun K "unequal_form" "unequal_form" zp f fd) (hmg:mg "unequal_form" = some (.ref f)):dz P w K mg base "unequal_form" 1 J6 _root_.K.tu :=
  ⟨f,fd,Jl F,F.binds (ps:=J6) fun _ _ _ _ _ _ us hl=>bd2 (fun _ _=>rfl) us hl,F.kp,hmg⟩
noncomputable abbrev zx:Stmt:=top 21
theorem Fy:jg a7k Gz (gw zx):=⟨rfl,rfl,rfl,by decide +kernel,rfl,by decide +kernel,by decide +kernel⟩
theorem O9 (F:Fun K "plain_form" "plain_form" zx f fd) {nn:Nat} (d_against_form:dz P w K mg base "against_form" (3+nn) Gz (_root_.K.gb nn)) (d_equal_form:dz P w K mg base "equal_form" 1 J6 (_root_.K.nu)) (d_place_box:dz P w K mg base "place_box" 1 T5 (_root_.K.ni)) (d_plain_form:dz P w K mg base "plain_form" (3+nn) Gz (_root_.K.iy nn)) (b_tuple:mg "tuple" = none):yh P w K mg base CX0 (3+nn+1) f fd Gz (spF K Gz.length (_root_.K.iy (nn+1))):=by
  have d_against_form:=d_against_form.mono (show (3+nn)≤(3+nn) by first | decide | omega)
  have d_equal_form:=d_equal_form.mono (show 1≤(3+nn) by first | decide | omega)
  have d_place_box:=d_place_box.mono (show 1≤(3+nn) by first | decide | omega)
  have d_plain_form:=d_plain_form.mono (show (3+nn)≤(3+nn) by first | decide | omega)
  refine jq (N:=a7k) F Fy (by decide)  fun cdv A outer s H E B hr=>?_
  have hu:=uy hr
  have hq:=hr.units
  have nd:a7k.Nodup:=Fy.nd
  refine d9 ?_ ?_
  · exact ji 1 (je nd rfl (Or.inl rfl) (fj hu (ao 0 (pv 0)) cj (fun _ _=>rfl))) (fun _ _ _ h=>h)
  · refine d9 ?_ ?_
    · refine um ?_ ?_ ?_
      · exact lu (m8 hq) (ao 1 (pv 1)) j5 (jk _)
      · exact iu (j9 (dg d_equal_form hr (by rfl) (aj (dg d_place_box hr (by rfl) (aj (fj hu (ao 0 (pv 0)) cj (fun _ _=>rfl)) d7) (cg eq_nil)) (aj (fj hu (ao 0 (pv 0)) cj (fun _ _=>rfl)) d7)) (cg (cg eq_nil))))
      · exact m9
    · refine d9 ?_ ?_
      · exact um (lu (m8 hq) (ao 1 (pv 1)) j5 (jk _))   (iu (j9 (dg d_against_form hr (by rfl) (aj (fj hu (ao 0 (pv 0)) cj (fun _ _=>rfl)) d7) (cg eq_nil))))   m9
      · refine d9 ?_ ?_
        · refine um ?_ ?_ ?_
          · exact lu (a81 hq) (ao 1 (pv 1)) (fu (aj j5 (aj j5 d7)) (dj (bf (bf d8)) (by decide))) rfl
          · refine iu ?_
            · refine j9 ?_
              · refine fu ?_ ?_
                · refine aj ?_ ?_
                  · exact ao 1 (pv 1)
                  · refine aj ?_ ?_
                    · refine mj ?_
                      · refine v7 wj ?_ ?_ PyProof.Rows.boot_tuple ?_
                        · exact by rfl
                        · exact b_tuple
                        · refine aj ?_ ?_
                          · refine uw ?_
                            · refine xq (N:=["member"]) ?_ ?_ ?_ ?_ ?_ ?_ ?_ ?_
                              · exact ⟨rfl,fun j k h=>match j,h with | _+0,h=>(by cases h)⟩
                              · exact ⟨rfl,rfl,by decide +kernel,by decide +kernel⟩
                              · exact rfl
                              · exact qx (fj hu (ao 0 (pv 0)) cj (fun _ _=>rfl))
                              · exact qw
                              · exact fun C s₀ H₀ ex pn=>pgE fun B=>(uo 0 (gk (show (["member"]:List Str).Nodup by decide +kernel) rfl (Or.inl rfl)))
                              · exact fun C s₀ H₀ ex pn=>u9
                              · exact fun C s₀ H₀ ex pn=>peE fun B=>(dg d_plain_form hr (by rfl) (aj (ao 0 (pv 0)) d7) (cg eq_nil))
                          · exact d7
                    · exact d7
                · exact dj (bf (bf d8)) (by decide)
          · exact m9
        · exact iu (j9 (ao 0 (pv 0)))
theorem Nm (F:Fun K "plain_form" "plain_form" zx f fd) (hmg:mg "plain_form" = some (.ref f)) {nn:Nat} (d_against_form:dz P w K mg base "against_form" (3+nn) Gz (_root_.K.gb nn)) (d_equal_form:dz P w K mg base "equal_form" 1 J6 (_root_.K.nu)) (d_place_box:dz P w K mg base "place_box" 1 T5 (_root_.K.ni)) (d_plain_form:dz P w K mg base "plain_form" (3+nn) Gz (_root_.K.iy nn)) (b_tuple:mg "tuple" = none):dz P w K mg base "plain_form" (3+nn+1) Gz (_root_.K.iy (nn+1)) :=
  ⟨f,fd,O9 F d_against_form d_equal_form d_place_box d_plain_form b_tuple,F.binds (ps:=Gz) fun _ _ _ _ _ _ us hl=>bd1 (fun _=>rfl) us hl,F.kp,hmg⟩
noncomputable abbrev vq:Stmt:=top 22
theorem Ej:jg a7k Gz (gw vq):=⟨rfl,rfl,rfl,by decide +kernel,rfl,by decide +kernel,by decide +kernel⟩
theorem Kw (F:Fun K "against_form" "against_form" vq f fd) {nn:Nat} (d_against_form:dz P w K mg base "against_form" (3+nn) Gz (_root_.K.gb nn)) (d_minus:dz P w K mg base "minus" 3 Jf (_root_.K.ud)) (d_place_box:dz P w K mg base "place_box" 1 T5 (_root_.K.ni)) (d_plain_form:dz P w K mg base "plain_form" (3+nn) Gz (_root_.K.iy nn)) (d_unequal_form:dz P w K mg base "unequal_form" 1 J6 (_root_.K.tu)) (b_range:mg "range" = none) (b_tuple:mg "tuple" = none) (c_TURNED:∃ a,mg "TURNED" = some (.ref a)∧Z6 K w a [("and","or"),("or","and")]):yh P w K mg base CX0 (3+nn+1) f fd Gz (spF K Gz.length (_root_.K.gb (nn+1))):=by
  have d_against_form:=d_against_form.mono (show (3+nn)≤(3+nn) by first | decide | omega)
  have d_minus:=d_minus.mono (show 3≤(3+nn) by first | decide | omega)
  have d_place_box:=d_place_box.mono (show 1≤(3+nn) by first | decide | omega)
  have d_plain_form:=d_plain_form.mono (show (3+nn)≤(3+nn) by first | decide | omega)
  have d_unequal_form:=d_unequal_form.mono (show 1≤(3+nn) by first | decide | omega)
  refine jq (N:=a7k) F Ej (by decide)  fun cdv A outer s H E B hr=>?_
  have hu:=uy hr
  have hq:=hr.units
  have nd:a7k.Nodup:=Ej.nd
  refine d9 ?_ ?_
  · exact ji 1 (je nd rfl (Or.inl rfl) (fj hu (ao 0 (pv 0)) cj (fun _ _=>rfl))) (fun _ _ _ h=>h)
  · refine d9 ?_ ?_
    · refine um ?_ ?_ ?_
      · exact lu (m8 hq) (ao 1 (pv 1)) j5 (jk _)
      · refine iu ?_
        · refine j9 ?_
          · refine fu ?_ ?_
            · refine aj ?_ ?_
              · exact j5
              · exact aj (dg d_minus hr (by rfl) (aj (fu (aj cj (aj (fu d7 (dj d8 (by decide))) d7)) (dj (bf (bf d8)) (by decide))) (aj (fj hu (ao 0 (pv 0)) cj (fun _ _=>rfl)) d7)) (cg (cg eq_nil))) d7
            · exact dj (bf (bf d8)) (by decide)
      · exact m9
    · refine d9 ?_ ?_
      · refine um ?_ ?_ ?_
        · exact lu (m8 hq) (ao 1 (pv 1)) j5 (jk _)
        · refine iu ?_
          · refine j9 ?_
            · refine fu ?_ ?_
              · refine aj ?_ ?_
                · exact j5
                · refine aj ?_ ?_
                  · refine mj ?_
                    · refine v7 wj ?_ ?_ PyProof.Rows.boot_tuple ?_
                      · exact by rfl
                      · exact b_tuple
                      · refine aj ?_ ?_
                        · refine uw ?_
                          · refine xq (N:=["k","remark"]) ?_ ?_ ?_ ?_ ?_ ?_ ?_ ?_
                            · exact ⟨rfl,fun j k h=>match j,h with | 0,h=>(by cases h; exact ⟨_,rfl,rfl,⟨.inl rfl,.inr (.inl rfl),.inl rfl⟩⟩) | _+1,h=>(by cases h)⟩
                            · exact ⟨rfl,rfl,by decide +kernel,by decide +kernel⟩
                            · exact rfl
                            · exact a00 (by rfl) b_range cj (fj hu (ao 0 (pv 0)) cj (fun _ _=>rfl))
                            · exact a0j
                            · exact fun C s₀ H₀ ex pn=>pgE fun B=>(uo 0 (gk (show (["k","remark"]:List Str).Nodup by decide +kernel) rfl (Or.inl rfl)))
                            · exact fun C s₀ H₀ ex pn=>u9
                            · intro C s₀ H₀ ex pn
                              refine peE ?_
                              intro B
                              refine fu ?_ ?_
                              · refine aj ?_ ?_
                                · exact j5
                                · refine aj ?_ ?_
                                  · exact dg d_minus hr (by rfl) (aj (fj hu (ao 1 (pv 1)) cj (fun _ _=>rfl)) (aj (fu (aj (ao 0 (pv 0)) (aj (fu d7 (dj d8 (by decide))) d7)) (dj (bf (bf d8)) (by decide))) d7)) (cg (cg eq_nil))
                                  · exact aj (fj hu (ao 1 (pv 1)) cj (fun _ _=>rfl)) d7
                              · exact dj (bf (bf (bf d8))) (by decide)
                        · exact d7
                  · exact d7
              · exact dj (bf (bf d8)) (by decide)
        · exact m9
      · refine d9 ?_ ?_
        · refine um ?_ ?_ ?_
          · exact lu (m8 hq) (ao 1 (pv 1)) j5 (jk _)
          · exact iu (j9 (dg d_unequal_form hr (by rfl) (aj (dg d_place_box hr (by rfl) (aj (fj hu (ao 0 (pv 0)) cj (fun _ _=>rfl)) d7) (cg eq_nil)) (aj (fj hu (ao 0 (pv 0)) cj (fun _ _=>rfl)) d7)) (cg (cg eq_nil))))
          · exact m9
        · refine d9 ?_ ?_
          · exact um (lu (m8 hq) (ao 1 (pv 1)) j5 (jk _))   (iu (j9 (dg d_plain_form hr (by rfl) (aj (fj hu (ao 0 (pv 0)) cj (fun _ _=>rfl)) d7) (cg eq_nil))))   m9
          · refine iu ?_
            · refine j9 ?_
              · refine fu ?_ ?_
                · refine aj ?_ ?_
                  · exact a97 (by rfl) c_TURNED (ao 1 (pv 1)) (fun _ _=>rfl)
                  · refine aj ?_ ?_
                    · refine mj ?_
                      · refine v7 wj ?_ ?_ PyProof.Rows.boot_tuple ?_
                        · exact by rfl
                        · exact b_tuple
                        · refine aj ?_ ?_
                          · refine uw ?_
                            · refine xq (N:=["member"]) ?_ ?_ ?_ ?_ ?_ ?_ ?_ ?_
                              · exact ⟨rfl,fun j k h=>match j,h with | _+0,h=>(by cases h)⟩
                              · exact ⟨rfl,rfl,by decide +kernel,by decide +kernel⟩
                              · exact rfl
                              · exact qx (fj hu (ao 0 (pv 0)) cj (fun _ _=>rfl))
                              · exact qw
                              · exact fun C s₀ H₀ ex pn=>pgE fun B=>(uo 0 (gk (show (["member"]:List Str).Nodup by decide +kernel) rfl (Or.inl rfl)))
                              · exact fun C s₀ H₀ ex pn=>u9
                              · exact fun C s₀ H₀ ex pn=>peE fun B=>(dg d_against_form hr (by rfl) (aj (ao 0 (pv 0)) d7) (cg eq_nil))
                          · exact d7
                    · exact d7
                · exact dj (bf (bf d8)) (by decide)
theorem Kf (F:Fun K "against_form" "against_form" vq f fd) (hmg:mg "against_form" = some (.ref f)) {nn:Nat} (d_against_form:dz P w K mg base "against_form" (3+nn) Gz (_root_.K.gb nn)) (d_minus:dz P w K mg base "minus" 3 Jf (_root_.K.ud)) (d_place_box:dz P w K mg base "place_box" 1 T5 (_root_.K.ni)) (d_plain_form:dz P w K mg base "plain_form" (3+nn) Gz (_root_.K.iy nn)) (d_unequal_form:dz P w K mg base "unequal_form" 1 J6 (_root_.K.tu)) (b_range:mg "range" = none) (b_tuple:mg "tuple" = none) (c_TURNED:∃ a,mg "TURNED" = some (.ref a)∧Z6 K w a [("and","or"),("or","and")]):dz P w K mg base "against_form" (3+nn+1) Gz (_root_.K.gb (nn+1)) :=
  ⟨f,fd,Kw F d_against_form d_minus d_place_box d_plain_form d_unequal_form b_range b_tuple c_TURNED,F.binds (ps:=Gz) fun _ _ _ _ _ _ us hl=>bd1 (fun _=>rfl) us hl,F.kp,hmg⟩
theorem Ez {f_plain_form:Addr} {fd_plain_form:FuncData} {f_against_form:Addr} {fd_against_form:FuncData} (F_plain_form:Fun K "plain_form" "plain_form" zx f_plain_form fd_plain_form) (h_plain_form:mg "plain_form" = some (.ref f_plain_form)) (F_against_form:Fun K "against_form" "against_form" vq f_against_form fd_against_form) (h_against_form:mg "against_form" = some (.ref f_against_form)) (d_equal_form:dz P w K mg base "equal_form" 1 J6 _root_.K.nu) (d_minus:dz P w K mg base "minus" 3 Jf _root_.K.ud) (d_place_box:dz P w K mg base "place_box" 1 T5 _root_.K.ni) (d_unequal_form:dz P w K mg base "unequal_form" 1 J6 _root_.K.tu) (b_range:mg "range" = none) (b_tuple:mg "tuple" = none) (c_TURNED:∃ a,mg "TURNED" = some (.ref a)∧Z6 K w a [("and","or"),("or","and")]):∀ nn:Nat,dz P w K mg base "plain_form" (3+nn) Gz (_root_.K.iy nn)∧dz P w K mg base "against_form" (3+nn) Gz (_root_.K.gb nn)
  | 0=>⟨dz.zero F_plain_form h_plain_form (F_plain_form.binds (ps:=Gz) fun _ _ _ _ _ _ us hl=>bd1 (fun _=>rfl) us hl),dz.zero F_against_form h_against_form (F_against_form.binds (ps:=Gz) fun _ _ _ _ _ _ us hl=>bd1 (fun _=>rfl) us hl)⟩
  | nn+1=>by
    have ih:=Ez F_plain_form h_plain_form F_against_form h_against_form d_equal_form d_minus d_place_box d_unequal_form b_range b_tuple c_TURNED nn
    obtain ⟨d_plain_form,d_against_form⟩:=ih
    exact ⟨Nm F_plain_form h_plain_form d_against_form d_equal_form d_place_box d_plain_form b_tuple,Kf F_against_form h_against_form d_against_form d_minus d_place_box d_plain_form d_unequal_form b_range b_tuple c_TURNED⟩
noncomputable abbrev Di:Stmt:=top 25
theorem Io:jg ada a6y (gw Di):=⟨rfl,rfl,rfl,by decide +kernel,rfl,by decide +kernel,by decide +kernel⟩
theorem Oj (F:Fun K "others_of" "others_of" Di f fd) (b_range:mg "range" = none):yh P w K mg base CX0 1 f fd a6y (spF K a6y.length _root_.K.wg):=by
  refine jq (N:=ada) F Io (by decide)  fun cdv A outer s H E B hr=>?_
  have hu:=uy hr
  have hq:=hr.units
  have nd:ada.Nodup:=Io.nd
  refine d9 ?_ ?_
  · exact Ck 2 (je nd rfl (Or.inl rfl) (Vy d7 (dj d8 (by decide)))) (fun _ _ _ h=>h)
  · refine d9 ?_ ?_
    · refine Az ?_ ?_ ?_ ?_ ?_ ?_
      · exact PassesOwn.never
      · exact rfl
      · exact qx (fj hu (ao 0 (pv 0)) cj (fun _ _=>rfl))
      · exact yp (is:=[3,4]) (yq rfl (j6 (gk nd rfl (Or.inr rfl)) (j6 (gk nd rfl (Or.inl rfl)) v8)))
      · refine iu ?_
        · refine um ?_ ?_ ?_
          · exact lu (Ou hq) (ao 3 (pv 3)) (fj hu (fj hu (fj hu (ao 0 (pv 0)) cj (fun _ _=>rfl)) (ao 1 (pv 1)) (fun _ _=>rfl)) cj (fun _ _=>rfl)) (jk _)
          · refine iu ?_
            · refine Ba _ ?_
              · refine yw ?_
                · refine Hx PySem.F.plainAttrs_list PySem.F.slot_list_extend PySem.F.type_list_extend yu ?_ ?_
                  · exact pv 2
                  · refine qz ?_ ?_
                    · refine uw ?_
                      · refine xq (N:=["place","number","hand"]) ?_ ?_ ?_ ?_ ?_ ?_ ?_ ?_
                        · exact ⟨rfl,fun j k h=>match j,h with | 0,h=>(by cases h; exact ⟨_,rfl,rfl,⟨.inl rfl,.inr (.inl rfl),.inl rfl⟩⟩) | 1,h=>(by cases h; exact ⟨_,rfl,rfl,⟨.inl rfl,.inr (.inl rfl),.inl rfl⟩⟩) | _+2,h=>(by cases h)⟩
                        · exact ⟨rfl,rfl,by decide +kernel,by decide +kernel⟩
                        · exact rfl
                        · exact Jb (by rfl) b_range (ao 4 (pv 4))
                        · exact J5
                        · exact fun C s₀ H₀ ex pn=>pgE fun B=>(uo 0 (gk (show (["place","number","hand"]:List Str).Nodup by decide +kernel) rfl (Or.inl rfl)))
                        · exact fun C s₀ H₀ ex pn=>u9
                        · exact fun C s₀ H₀ ex pn=>peE fun B=>(fu (aj j5 (aj (ao 1 (pv 1)) (aj (ao 2 (pv 2)) (aj (ao 0 (pv 0)) d7)))) (dj (bf (bf (bf (bf d8)))) (by decide)))
                    · exact wu
          · exact m9
      · exact qw
    · exact iu (j9 (ao 2 (pv 2)))
theorem R8 (F:Fun K "others_of" "others_of" Di f fd) (hmg:mg "others_of" = some (.ref f)) (b_range:mg "range" = none):dz P w K mg base "others_of" 1 a6y _root_.K.wg :=
  ⟨f,fd,Oj F b_range,F.binds (ps:=a6y) fun _ _ _ _ _ _ us hl=>bd2 (fun _ _=>rfl) us hl,F.kp,hmg⟩
noncomputable abbrev Dg:Stmt:=top 24
theorem Il:jg acf a7p (gw Dg):=⟨rfl,rfl,rfl,by decide +kernel,rfl,by decide +kernel,by decide +kernel⟩
theorem Rh (F:Fun K "duties_of" "duties_of" Dg f fd) (d_others_of:dz P w K mg base "others_of" 1 a6y (_root_.K.wg)) (b_len:mg "len" = none) (b_list:mg "list" = none) (b_range:mg "range" = none):yh P w K mg base CX0 2 f fd a7p (spF K a7p.length _root_.K.vf):=by
  have d_others_of:=d_others_of.mono (by decide:1≤1)
  refine jq (N:=acf) F Il (by decide)  fun cdv A outer s H E B hr=>?_
  have hu:=uy hr
  have hq:=hr.units
  have nd:acf.Nodup:=Il.nd
  refine d9 ?_ ?_
  · exact ji 1 (je nd rfl (Or.inl rfl) (a0r rfl (by rfl) b_list (by rfl) b_range (mj (v9 zu (by rfl) b_len PySem.boot_len (aj (fj hu (ao 0 (pv 0)) cj (fun _ _=>rfl)) d7))))) (fun _ _ _ h=>h)
  · refine d9 ?_ ?_
    · exact Ck 2 (Hj (N:=["hand","places"]) ⟨rfl,rfl,by decide +kernel,by decide +kernel⟩ rfl (qx (fj hu (ao 0 (pv 0)) cj (fun _ _=>rfl))) (fun C s₀ H₀ ex pn=>pgE fun B=>(yp (is:=[0,1]) (yq rfl (j6 (gk (show (["hand","places"]:List Str).Nodup by decide +kernel) rfl (Or.inl rfl)) (j6 (gk (show (["hand","places"]:List Str).Nodup by decide +kernel) rfl (Or.inl rfl)) v8))))) (fun C s₀ H₀ ex pn=>u9) (fun C s₀ H₀ ex pn=>peE fun B=>(fu (aj j5 (aj (ao 0 (pv 0)) d7)) (dj (bf (bf d8)) (by decide)))) (gk nd rfl (Or.inl rfl)) rfl) (fun σ H Q h=>Jr ⟨rfl,fun j k h=>match j,h with | _+0,h=>(by cases h)⟩ qw h)
    · refine d9 ?_ ?_
      · refine Ba _ ?_
        · refine yw ?_
          · refine Hx PySem.F.plainAttrs_list PySem.F.slot_list_extend PySem.F.type_list_extend yu ?_ ?_
            · exact pv 2
            · refine qz ?_ ?_
              · refine uw ?_
                · refine xq (N:=["number"]) ?_ ?_ ?_ ?_ ?_ ?_ ?_ ?_
                  · exact ⟨rfl,fun j k h=>match j,h with | _+0,h=>(by cases h)⟩
                  · exact ⟨rfl,rfl,by decide +kernel,by decide +kernel⟩
                  · exact rfl
                  · exact qx (ao 1 (pv 1))
                  · exact qw
                  · exact fun C s₀ H₀ ex pn=>pgE fun B=>(uo 0 (gk (show (["number"]:List Str).Nodup by decide +kernel) rfl (Or.inl rfl)))
                  · exact fun C s₀ H₀ ex pn=>u9
                  · exact fun C s₀ H₀ ex pn=>peE fun B=>(fu (aj j5 (aj (ao 0 (pv 0)) d7)) (dj (bf (bf d8)) (by decide)))
              · exact wu
      · refine d9 ?_ ?_
        · refine Az ?_ ?_ ?_ ?_ ?_ ?_
          · exact PassesOwn.never
          · exact rfl
          · exact qx (ao 1 (pv 1))
          · exact uo 3 (gk nd rfl (Or.inl rfl))
          · exact iu (Ba 2 (yw (Hx PySem.F.plainAttrs_list PySem.F.slot_list_extend PySem.F.type_list_extend yu (pv 2) (qz (dg d_others_of hr (by rfl) (aj (ao 0 (pv 0)) (aj (ao 3 (pv 3)) d7)) (cg (cg eq_nil))) wu))))
          · exact qw
        · exact iu (j9 (ao 2 (pv 2)))
theorem Qd (F:Fun K "duties_of" "duties_of" Dg f fd) (hmg:mg "duties_of" = some (.ref f)) (d_others_of:dz P w K mg base "others_of" 1 a6y (_root_.K.wg)) (b_len:mg "len" = none) (b_list:mg "list" = none) (b_range:mg "range" = none):dz P w K mg base "duties_of" 2 a7p _root_.K.vf :=
  ⟨f,fd,Rh F d_others_of b_len b_list b_range,F.binds (ps:=a7p) fun _ _ _ _ _ _ us hl=>bd1 (fun _=>rfl) us hl,F.kp,hmg⟩
noncomputable abbrev Ai:Stmt:=top 31
theorem Fb:jg a1g a1g (gw Ai):=⟨rfl,rfl,rfl,by decide +kernel,rfl,by decide +kernel,by decide +kernel⟩
theorem Lg (F:Fun K "within_form" "within_form" Ai f fd) (d_minus:dz P w K mg base "minus" 3 Jf (_root_.K.ud)):yh P w K mg base CX0 4 f fd a1g (spF K a1g.length _root_.K.su):=by
  have d_minus:=d_minus.mono (by decide:3≤3)
  refine jq (N:=a1g) F Fb (by decide)  fun cdv A outer s H E B hr=>?_
  have hu:=uy hr
  have hq:=hr.units
  have nd:a1g.Nodup:=Fb.nd
  refine iu ?_
  · refine j9 ?_
    · refine fu ?_ ?_
      · refine aj ?_ ?_
        · exact j5
        · refine aj ?_ ?_
          · refine fu ?_ ?_
            · refine aj ?_ ?_
              · exact fu (aj j5 (aj (dg d_minus hr (by rfl) (aj (ao 1 (pv 1)) (aj (ao 0 (pv 0)) d7)) (cg (cg eq_nil))) d7)) (dj (bf (bf d8)) (by decide))
              · exact aj (fu (aj j5 (aj (dg d_minus hr (by rfl) (aj (ao 0 (pv 0)) (aj (ao 2 (pv 2)) d7)) (cg (cg eq_nil))) d7)) (dj (bf (bf d8)) (by decide))) d7
            · exact dj (bf (bf d8)) (by decide)
          · exact d7
      · exact dj (bf (bf d8)) (by decide)
theorem Lj (F:Fun K "within_form" "within_form" Ai f fd) (hmg:mg "within_form" = some (.ref f)) (d_minus:dz P w K mg base "minus" 3 Jf (_root_.K.ud)):dz P w K mg base "within_form" 4 a1g _root_.K.su :=
  ⟨f,fd,Lg F d_minus,F.binds (ps:=a1g) fun _ _ _ _ _ _ us hl=>bd3 (fun _ _ _=>rfl) us hl,F.kp,hmg⟩
noncomputable abbrev Dk:Stmt:=top 30
theorem Ij:jg ad3 a6q (gw Dk):=⟨rfl,rfl,rfl,by decide +kernel,rfl,by decide +kernel,by decide +kernel⟩
theorem Ph (F:Fun K "set_forms" "set_forms" Dk f fd) (d_within_form:dz P w K mg base "within_form" 4 a1g (_root_.K.su)):yh P w K mg base CX0 5 f fd a6q (spF K a6q.length _root_.K.u6):=by
  have d_within_form:=d_within_form.mono (by decide:4≤4)
  refine jq (N:=ad3) F Ij (by decide)  fun cdv A outer s H E B hr=>?_
  have hu:=uy hr
  have hq:=hr.units
  have nd:ad3.Nodup:=Ij.nd
  refine d9 ?_ ?_
  · exact Ck 2 (je nd rfl (Or.inr rfl) Mv) (fun _ _ _ h=>h)
  · refine d9 ?_ ?_
    · refine Az ?_ ?_ ?_ ?_ ?_ ?_
      · exact PassesOwn.never
      · exact rfl
      · exact qx (fj hu (ao 0 (pv 0)) cj (fun _ _=>rfl))
      · exact yp (is:=[3,4,5,6,7]) (yq rfl (j6 (gk nd rfl (Or.inl rfl)) (j6 (gk nd rfl (Or.inl rfl)) (j6 (gk nd rfl (Or.inl rfl)) (j6 (gk nd rfl (Or.inl rfl)) (j6 (gk nd rfl (Or.inl rfl)) v8))))))
      · refine iu ?_
        · refine zy _ ?_ ?_ ?_ ?_ ?_
          · exact hu
          · exact pv 2
          · exact ao 3 (pv 3)
          · refine fu ?_ ?_
            · refine aj ?_ ?_
              · exact fu (aj (ao 5 (pv 5)) (aj (fu d7 (dj d8 (by decide))) d7)) (dj (bf (bf d8)) (by decide))
              · exact aj (fu (aj (ao 6 (pv 6)) (aj (fu d7 (dj d8 (by decide))) d7)) (dj (bf (bf d8)) (by decide))) d7
            · exact dj (bf (bf d8)) (by decide)
          · exact rfl
      · exact qw
    · refine iu ?_
      · refine j9 ?_
        · refine uw ?_
          · refine xq (N:=ad6) ?_ ?_ ?_ ?_ ?_ ?_ ?_ ?_
            · exact ⟨rfl,fun j k h=>match j,h with | 0,h=>(by cases h; exact ⟨_,rfl,rfl,⟨.inl rfl,.inr (.inl rfl),.inl rfl⟩⟩) | _+1,h=>(by cases h)⟩
            · exact ⟨rfl,rfl,by decide +kernel,by decide +kernel⟩
            · exact rfl
            · exact qx (ao 1 (pv 1))
            · exact qw
            · exact fun C s₀ H₀ ex pn=>pgE fun B=>(yp (is:=[0,1]) (yq rfl (j6 (gk (show ad6.Nodup by decide +kernel) rfl (Or.inl rfl)) (j6 (gk (show ad6.Nodup by decide +kernel) rfl (Or.inl rfl)) v8))))
            · exact fun C s₀ H₀ ex pn=>u9
            · intro C s₀ H₀ ex pn
              refine peE ?_
              intro B
              refine dg d_within_form ?_ ?_ ?_ ?_
              · exact hr
              · exact by rfl
              · exact aj (ao 1 (pv 1)) (aj (fj hu (fj hu (ao 2 (pv 2)) (ao 0 (pv 0)) (fun _ _=>rfl)) cj (fun _ _=>rfl)) (aj (fj hu (fj hu (ao 2 (pv 2)) (ao 0 (pv 0)) (fun _ _=>rfl)) cj (fun _ _=>rfl)) d7))
              · exact cg (cg (cg eq_nil))
theorem Ra (F:Fun K "set_forms" "set_forms" Dk f fd) (hmg:mg "set_forms" = some (.ref f)) (d_within_form:dz P w K mg base "within_form" 4 a1g (_root_.K.su)):dz P w K mg base "set_forms" 5 a6q _root_.K.u6 :=
  ⟨f,fd,Ph F d_within_form,F.binds (ps:=a6q) fun _ _ _ _ _ _ us hl=>bd2 (fun _ _=>rfl) us hl,F.kp,hmg⟩
noncomputable abbrev Ak:Stmt:=top 29
theorem Ey:jg ab6 a6p (gw Ak):=⟨rfl,rfl,rfl,by decide +kernel,rfl,by decide +kernel,by decide +kernel⟩
theorem Lh (F:Fun K "given_forms" "given_forms" Ak f fd) (d_plain_form:dz P w K mg base "plain_form" 43 Gz (_root_.K.iy 40)) (d_set_forms:dz P w K mg base "set_forms" 5 a6q (_root_.K.u6)):yh P w K mg base CX0 44 f fd a6p (a9c K a6p.length _root_.K.qe):=by
  have d_plain_form:=d_plain_form.mono (by decide:43≤43)
  have d_set_forms:=d_set_forms.mono (by decide:5≤43)
  refine Vm (N:=ab6) F Ey (by decide) (Ag (Ag (Ag (Ag (Ag (Vk _)))))) fun cdv A outer s H E B hr=>?_
  have hu:=uy hr
  have hq:=hr.units
  have nd:ab6.Nodup:=Ey.nd
  refine Af ?_ ?_
  · refine @ji _ _ _ _ (tOf _ _ _) _ ?_ (fun _ _ _ h=>h)
    · refine je ?_ ?_ ?_ ?_
      · exact nd
      · exact rfl
      · exact Or.inl rfl
      · exact j4 ju (Ce (aj (fu (aj (fj hu (ao 2 (pv 2)) cj (fun _ _=>rfl)) (aj (fj hu (ao 2 (pv 2)) cj (fun _ _=>rfl)) d7)) (dj (bf (bf d8)) (by decide))) d7) (dj (bf d8) (by decide))) (ao 3 (pv 3))
  · refine Af ?_ ?_
    · exact Ck 5 (Hj (N:=["hand","place"]) ⟨rfl,rfl,by decide +kernel,by decide +kernel⟩ rfl (qx (ao 4 (pv 4))) (fun C s₀ H₀ ex pn=>pgE fun B=>(yp (is:=[0,1]) (yq rfl (j6 (gk (show (["hand","place"]:List Str).Nodup by decide +kernel) rfl (Or.inl rfl)) (j6 (gk (show (["hand","place"]:List Str).Nodup by decide +kernel) rfl (Or.inl rfl)) v8))))) (fun C s₀ H₀ ex pn=>u9) (fun C s₀ H₀ ex pn=>peE fun B=>(dg d_plain_form hr (by rfl) (aj (fu (aj j5 (aj (ao 0 (pv 0)) (aj (ao 1 (pv 1)) d7))) (dj (bf (bf (bf d8))) (by decide))) d7) (cg eq_nil))) (gk nd rfl (Or.inl rfl)) rfl) (fun σ H Q h=>Jr ⟨rfl,fun j k h=>match j,h with | _+0,h=>(by cases h)⟩ qw h)
    · refine Af ?_ ?_
      · refine Ba _ ?_
        · refine yw ?_
          · refine Hx PySem.F.plainAttrs_list PySem.F.slot_list_extend PySem.F.type_list_extend yu ?_ ?_
            · exact pv 5
            · refine qz ?_ ?_
              · refine uw ?_
                · refine xq (N:=["there","annotation"]) ?_ ?_ ?_ ?_ ?_ ?_ ?_ ?_
                  · exact ⟨rfl,fun j k h=>match j,h with | 0,h=>(by cases h; exact ⟨_,rfl,rfl,⟨.inl rfl,.inr (.inl rfl),.inl rfl⟩⟩) | _+1,h=>(by cases h)⟩
                  · exact ⟨rfl,rfl,by decide +kernel,by decide +kernel⟩
                  · exact rfl
                  · exact qx (ao 4 (pv 4))
                  · exact qw
                  · exact fun C s₀ H₀ ex pn=>pgE fun B=>(uo 0 (gk (show (["there","annotation"]:List Str).Nodup by decide +kernel) rfl (Or.inl rfl)))
                  · exact fun C s₀ H₀ ex pn=>u9
                  · exact fun C s₀ H₀ ex pn=>peE fun B=>(dg d_plain_form hr (by rfl) (aj (yt hu (ao 1 (pv 1)) (ao 0 (pv 0)) (fun _ _=>rfl)) d7) (cg eq_nil))
              · exact wu
      · refine Af ?_ ?_
        · exact Cd 5 (yw (Hx PySem.F.plainAttrs_list PySem.F.slot_list_append PySem.F.type_list_append Ay (pv 5) (qz (dg d_plain_form hr (by rfl) (aj (fj hu (ao 2 (pv 2)) cj (fun _ _=>rfl)) d7) (cg eq_nil)) wu)))
        · refine Af ?_ ?_
          · exact Ba 5 (yw (Hx PySem.F.plainAttrs_list PySem.F.slot_list_extend PySem.F.type_list_extend yu (pv 5) (qz (dg d_set_forms hr (by rfl) (aj (ao 0 (pv 0)) (aj (fj hu (ao 2 (pv 2)) cj (fun _ _=>rfl)) d7)) (cg (cg eq_nil))) wu)))
          · exact Y8 5 (pv 5)
theorem La (F:Fun K "given_forms" "given_forms" Ak f fd) (hmg:mg "given_forms" = some (.ref f)) (d_plain_form:dz P w K mg base "plain_form" 43 Gz (_root_.K.iy 40)) (d_set_forms:dz P w K mg base "set_forms" 5 a6q (_root_.K.u6)):Gd P w K mg base "given_forms" 44 a6p _root_.K.qe :=
  ⟨f,fd,Lh F d_plain_form d_set_forms,F.binds (ps:=a6p) fun _ _ _ _ _ _ us hl=>bd4 (fun _ _ _ _=>rfl) us hl,F.kp,hmg⟩
noncomputable abbrev Bo:Stmt:=top 28
theorem Gs:jg ach a7a (gw Bo):=⟨rfl,rfl,rfl,by decide +kernel,rfl,by decide +kernel,by decide +kernel⟩
theorem Ny (F:Fun K "step_forms" "step_forms" Bo f fd) (d_against_form:dz P w K mg base "against_form" 43 Gz (_root_.K.gb 40)) (d_behind:dz P w K mg base "behind" 44 Lb (_root_.K.Aj)) (d_given_forms:Gd P w K mg base "given_forms" 44 a6p (_root_.K.qe)):yh P w K mg base CX0 45 f fd a7a (spF K a7a.length _root_.K.n6):=by
  have d_against_form:=d_against_form.mono (by decide:43≤44)
  have d_behind:=d_behind.mono (by decide:44≤44)
  have d_given_forms:=d_given_forms.mono (by decide:44≤44)
  refine jq (N:=ach) F Gs (by decide)  fun cdv A outer s H E B hr=>?_
  have hu:=uy hr
  have hq:=hr.units
  have nd:ach.Nodup:=Gs.nd
  refine d9 ?_ ?_
  · exact Ck 5 (je nd rfl (Or.inl rfl) (W2 d_given_forms hr (by rfl) (aj (ao 0 (pv 0)) (aj (ao 1 (pv 1)) (aj (ao 2 (pv 2)) (aj (ao 3 (pv 3)) d7)))) (cg (cg (cg (cg eq_nil)))))) (fun _ _ _ h=>h)
  · refine d9 ?_ ?_
    · refine Cd _ ?_
      · refine yw ?_
        · refine Hx PySem.F.plainAttrs_list PySem.F.slot_list_append PySem.F.type_list_append Ay ?_ ?_
          · exact pv 5
          · refine qz ?_ ?_
            · refine dg d_against_form ?_ ?_ ?_ ?_
              · exact hr
              · exact by rfl
              · refine aj ?_ ?_
                · exact dg d_behind hr (by rfl) (aj (ao 4 (pv 4)) (aj (fj hu (ao 2 (pv 2)) cj (fun _ _=>rfl)) (aj (fj hu (ao 2 (pv 2)) cj (fun _ _=>rfl)) (aj (fj hu (ao 2 (pv 2)) cj (fun _ _=>rfl)) d7)))) (cg (cg (cg (cg eq_nil))))
                · exact d7
              · exact cg eq_nil
            · exact wu
    · exact iu (j9 (ao 5 (pv 5)))
theorem O4 (F:Fun K "step_forms" "step_forms" Bo f fd) (hmg:mg "step_forms" = some (.ref f)) (d_against_form:dz P w K mg base "against_form" 43 Gz (_root_.K.gb 40)) (d_behind:dz P w K mg base "behind" 44 Lb (_root_.K.Aj)) (d_given_forms:Gd P w K mg base "given_forms" 44 a6p (_root_.K.qe)):dz P w K mg base "step_forms" 45 a7a _root_.K.n6 :=
  ⟨f,fd,Ny F d_against_form d_behind d_given_forms,F.binds (ps:=a7a) fun _ _ _ _ _ _ us hl=>bd5 (fun _ _ _ _ _=>rfl) us hl,F.kp,hmg⟩
noncomputable abbrev Aq:Stmt:=top 27
theorem Fl:jg ad2 a74 (gw Aq):=⟨rfl,rfl,rfl,by decide +kernel,rfl,by decide +kernel,by decide +kernel⟩
theorem Ky (F:Fun K "start_forms" "start_forms" Aq f fd) (d_against_form:dz P w K mg base "against_form" 43 Gz (_root_.K.gb 40)) (d_equal_form:dz P w K mg base "equal_form" 1 J6 (_root_.K.nu)) (d_place_box:dz P w K mg base "place_box" 1 T5 (_root_.K.ni)):yh P w K mg base CX0 44 f fd a74 (spF K a74.length _root_.K.yg):=by
  have d_against_form:=d_against_form.mono (by decide:43≤43)
  have d_equal_form:=d_equal_form.mono (by decide:1≤43)
  have d_place_box:=d_place_box.mono (by decide:1≤43)
  refine jq (N:=ad2) F Fl (by decide)  fun cdv A outer s H E B hr=>?_
  have hu:=uy hr
  have hq:=hr.units
  have nd:ad2.Nodup:=Fl.nd
  refine d9 ?_ ?_
  · exact Ck 3 (Hj (N:=["box"]) ⟨rfl,rfl,by decide +kernel,by decide +kernel⟩ rfl (qx (fj hu (ao 0 (pv 0)) cj (fun _ _=>rfl))) (fun C s₀ H₀ ex pn=>pgE fun B=>(uo 0 (gk (show (["box"]:List Str).Nodup by decide +kernel) rfl (Or.inl rfl)))) (fun C s₀ H₀ ex pn=>u9) (fun C s₀ H₀ ex pn=>peE fun B=>(dg d_equal_form hr (by rfl) (aj (fj hu (ao 0 (pv 0)) cj (fun _ _=>rfl)) (aj (fj hu (ao 0 (pv 0)) cj (fun _ _=>rfl)) d7)) (cg (cg eq_nil)))) (gk nd rfl (Or.inl rfl)) rfl) (fun σ H Q h=>Jr ⟨rfl,fun j k h=>match j,h with | _+0,h=>(by cases h)⟩ qw h)
  · refine d9 ?_ ?_
    · refine Ba _ ?_
      · refine yw ?_
        · refine Hx PySem.F.plainAttrs_list PySem.F.slot_list_extend PySem.F.type_list_extend yu ?_ ?_
          · exact pv 3
          · refine qz ?_ ?_
            · refine uw ?_
              · refine xq (N:=["other","places"]) ?_ ?_ ?_ ?_ ?_ ?_ ?_ ?_
                · exact ⟨rfl,fun j k h=>match j,h with | _+0,h=>(by cases h)⟩
                · exact ⟨rfl,rfl,by decide +kernel,by decide +kernel⟩
                · exact rfl
                · exact qx (fj hu (ao 0 (pv 0)) cj (fun _ _=>rfl))
                · exact qw
                · exact fun C s₀ H₀ ex pn=>pgE fun B=>(yp (is:=[0,1]) (yq rfl (j6 (gk (show (["other","places"]:List Str).Nodup by decide +kernel) rfl (Or.inl rfl)) (j6 (gk (show (["other","places"]:List Str).Nodup by decide +kernel) rfl (Or.inl rfl)) v8))))
                · exact fun C s₀ H₀ ex pn=>u9
                · exact fun C s₀ H₀ ex pn=>peE fun B=>(dg d_equal_form hr (by rfl) (aj (dg d_place_box hr (by rfl) (aj (ao 0 (pv 0)) d7) (cg eq_nil)) (aj cj d7)) (cg (cg eq_nil)))
            · exact wu
    · refine d9 ?_ ?_
      · refine Cd _ ?_
        · refine yw ?_
          · refine Hx PySem.F.plainAttrs_list PySem.F.slot_list_append PySem.F.type_list_append Ay ?_ ?_
            · exact pv 3
            · exact qz (dg d_against_form hr (by rfl) (aj (yt hu (ao 1 (pv 1)) (fu (aj (ao 2 (pv 2)) (aj cj d7)) (dj (bf (bf d8)) (by decide))) (fun _ _=>rfl)) d7) (cg eq_nil)) wu
      · exact iu (j9 (ao 3 (pv 3)))
theorem Lq (F:Fun K "start_forms" "start_forms" Aq f fd) (hmg:mg "start_forms" = some (.ref f)) (d_against_form:dz P w K mg base "against_form" 43 Gz (_root_.K.gb 40)) (d_equal_form:dz P w K mg base "equal_form" 1 J6 (_root_.K.nu)) (d_place_box:dz P w K mg base "place_box" 1 T5 (_root_.K.ni)):dz P w K mg base "start_forms" 44 a74 _root_.K.yg :=
  ⟨f,fd,Ky F d_against_form d_equal_form d_place_box,F.binds (ps:=a74) fun _ _ _ _ _ _ us hl=>bd3 (fun _ _ _=>rfl) us hl,F.kp,hmg⟩
noncomputable abbrev Br:Stmt:=top 26
theorem Gk:jg aav a6h (gw Br):=⟨rfl,rfl,rfl,by decide +kernel,rfl,by decide +kernel,by decide +kernel⟩
theorem Nt (F:Fun K "duty_forms" "duty_forms" Br f fd) (d_start_forms:dz P w K mg base "start_forms" 44 a74 (_root_.K.yg)) (d_step_forms:dz P w K mg base "step_forms" 45 a7a (_root_.K.n6)):yh P w K mg base CX0 46 f fd a6h (spF K a6h.length _root_.K.kh):=by
  have d_start_forms:=d_start_forms.mono (by decide:44≤45)
  have d_step_forms:=d_step_forms.mono (by decide:45≤45)
  refine jq (N:=aav) F Gk (by decide)  fun cdv A outer s H E B hr=>?_
  have hu:=uy hr
  have hq:=hr.units
  have nd:aav.Nodup:=Gk.nd
  refine d9 ?_ ?_
  · refine um ?_ ?_ ?_
    · exact lu (m8 hq) (fj hu (ao 2 (pv 2)) cj (fun _ _=>rfl)) j5 (jk _)
    · exact iu (j9 (dg d_start_forms hr (by rfl) (aj (ao 0 (pv 0)) (aj (ao 1 (pv 1)) (aj (fj hu (ao 2 (pv 2)) cj (fun _ _=>rfl)) d7))) (cg (cg (cg eq_nil)))))
    · exact m9
  · refine d9 ?_ ?_
    · exact ji 3 (je nd rfl (Or.inl rfl) (fj hu (fj hu (ao 0 (pv 0)) cj (fun _ _=>rfl)) (fj hu (ao 2 (pv 2)) cj (fun _ _=>rfl)) (fun _ _=>rfl))) (fun _ _ _ h=>h)
    · refine d9 ?_ ?_
      · refine um ?_ ?_ ?_
        · exact lu (m8 hq) (fj hu (ao 2 (pv 2)) cj (fun _ _=>rfl)) j5 (jk _)
        · refine d9 ?_ ?_
          · exact ji 4 (je nd rfl (Or.inl rfl) (yt hu (ao 1 (pv 1)) (fu (aj (fj hu (ao 3 (pv 3)) cj (fun _ _=>rfl)) (aj (fj hu (ao 3 (pv 3)) cj (fun _ _=>rfl)) d7)) (dj (bf (bf d8)) (by decide))) (fun _ _=>rfl))) (fun _ _ _ h=>h)
          · exact iu (j9 (dg d_step_forms hr (by rfl) (aj (ao 0 (pv 0)) (aj (ao 1 (pv 1)) (aj (ao 3 (pv 3)) (aj (Ce d7 (dj d8 (by decide))) (aj (ao 4 (pv 4)) d7))))) (cg (cg (cg (cg (cg eq_nil)))))))
        · exact m9
      · refine d9 ?_ ?_
        · exact ji 5 (je nd rfl (Or.inl rfl) (fu (aj (fj hu (ao 2 (pv 2)) cj (fun _ _=>rfl)) (aj (fj hu (ao 2 (pv 2)) cj (fun _ _=>rfl)) d7)) (dj (bf (bf d8)) (by decide)))) (fun _ _ _ h=>h)
        · refine iu ?_
          · refine j9 ?_
            · refine dg d_step_forms ?_ ?_ ?_ ?_
              · exact hr
              · exact by rfl
              · exact aj (ao 0 (pv 0)) (aj (ao 1 (pv 1)) (aj (ao 3 (pv 3)) (aj (Ce (aj (ao 5 (pv 5)) d7) (dj (bf d8) (by decide))) (aj (yt hu (ao 1 (pv 1)) (ao 5 (pv 5)) (fun _ _=>rfl)) d7))))
              · exact cg (cg (cg (cg (cg eq_nil))))
theorem N6 (F:Fun K "duty_forms" "duty_forms" Br f fd) (hmg:mg "duty_forms" = some (.ref f)) (d_start_forms:dz P w K mg base "start_forms" 44 a74 (_root_.K.yg)) (d_step_forms:dz P w K mg base "step_forms" 45 a7a (_root_.K.n6)):dz P w K mg base "duty_forms" 46 a6h _root_.K.kh :=
  ⟨f,fd,Nt F d_start_forms d_step_forms,F.binds (ps:=a6h) fun _ _ _ _ _ _ us hl=>bd3 (fun _ _ _=>rfl) us hl,F.kp,hmg⟩
noncomputable abbrev Ad:Stmt:=top 33
theorem Fi:jg Ry Ry (gw Ad):=⟨rfl,rfl,rfl,by decide +kernel,rfl,by decide +kernel,by decide +kernel⟩
theorem Ls (F:Fun K "_law_cell_at" "_law_cell_at" Ad f fd) (b_len:mg "len" = none):yh P w K mg base CX0 1 f fd Ry (spF K Ry.length _root_.K.gn):=by
  refine jq (N:=Ry) F Fi (by decide)  fun cdv A outer s H E B hr=>?_
  have hu:=uy hr
  have hq:=hr.units
  have nd:Ry.Nodup:=Fi.nd
  exact d9 (um (lu Vl (ao 1 (pv 1)) (mj (v9 zu (by rfl) b_len PySem.boot_len (aj (ao 0 (pv 0)) d7))) (jk _))   (iu (j9 (fj hu (ao 0 (pv 0)) (ao 1 (pv 1)) (fun _ _=>rfl))))   m9)   (iu (j9 cj))
theorem Lr (F:Fun K "_law_cell_at" "_law_cell_at" Ad f fd) (hmg:mg "_law_cell_at" = some (.ref f)) (b_len:mg "len" = none):dz P w K mg base "_law_cell_at" 1 Ry _root_.K.gn :=
  ⟨f,fd,Ls F b_len,F.binds (ps:=Ry) fun _ _ _ _ _ _ us hl=>bd2 (fun _ _=>rfl) us hl,F.kp,hmg⟩
noncomputable abbrev Gu:Stmt:=top 34
theorem Ms:jg ll9 a2s (gw Gu):=⟨rfl,rfl,rfl,by decide +kernel,rfl,by decide +kernel,by decide +kernel⟩
theorem Xa (F:Fun K "_law_sum" "_law_sum" Gu f fd) (b_tuple:mg "tuple" = none):yh P w K mg base CX0 1 f fd a2s (spF K a2s.length _root_.K.ou):=by
  refine jq (N:=ll9) F Ms (by decide)  fun cdv A outer s H E B hr=>?_
  have hu:=uy hr
  have hq:=hr.units
  have nd:ll9.Nodup:=Ms.nd
  refine d9 ?_ ?_
  · exact ji 3 (je nd rfl (Or.inl rfl) (fu (aj (j4 Ds (j4 jy (ao 0 (pv 0)) cj) cj) (aj (j4 Ds (j4 jy (j4 jl (ao 0 (pv 0)) cj) cj) cj) d7)) (dj (bf (bf d8)) (by decide)))) (fun _ _ _ h=>h)
  · refine d9 ?_ ?_
    · refine @ji _ _ _ _ (tOf _ _ _) _ ?_ (fun _ _ _ h=>h)
      · refine je ?_ ?_ ?_ ?_
        · exact nd
        · exact rfl
        · exact Or.inl rfl
        · exact j4 Ds (j4 Ds (j4 Ds (j4 jy (j4 jl (ao 0 (pv 0)) cj) cj) cj) (j4 Ab (fj hu (ao 3 (pv 3)) cj (fun _ _=>rfl)) (ao 1 (pv 1)))) (j4 Ab (fj hu (ao 3 (pv 3)) cj (fun _ _=>rfl)) (ao 2 (pv 2)))
    · refine iu ?_
      · refine j9 ?_
        · refine fu ?_ ?_
          · refine aj ?_ ?_
            · exact ao 4 (pv 4)
            · refine aj ?_ ?_
              · refine mj ?_
                · refine v7 wj ?_ ?_ PyProof.Rows.boot_tuple ?_
                  · exact by rfl
                  · exact b_tuple
                  · refine aj ?_ ?_
                    · refine uw ?_
                      · refine xq (N:=["_law_pair"]) ?_ ?_ ?_ ?_ ?_ ?_ ?_ ?_
                        · exact ⟨rfl,fun j k h=>match j,h with | _+0,h=>(by cases h)⟩
                        · exact ⟨rfl,rfl,by decide +kernel,by decide +kernel⟩
                        · exact rfl
                        · refine qx ?_
                          · refine Ce ?_ ?_
                            · refine aj ?_ ?_
                              · exact fu (aj j5 (aj (fj hu (ao 3 (pv 3)) cj (fun _ _=>rfl)) d7)) (dj (bf (bf d8)) (by decide))
                              · exact aj (fu (aj j5 (aj (fj hu (ao 3 (pv 3)) cj (fun _ _=>rfl)) d7)) (dj (bf (bf d8)) (by decide))) d7
                            · exact dj (bf (bf d8)) (by decide)
                        · exact qw
                        · exact fun C s₀ H₀ ex pn=>pgE fun B=>(uo 0 (gk (show (["_law_pair"]:List Str).Nodup by decide +kernel) rfl (Or.inl rfl)))
                        · exact fun C s₀ H₀ ex pn=>(J9 fun B=>(lu (Ou hq) (fj hu (ao 0 (pv 0)) cj (fun _ _=>rfl)) cj (jk _)))
                        · exact fun C s₀ H₀ ex pn=>peE fun B=>(ao 0 (pv 0))
                    · exact d7
              · exact d7
          · exact dj (bf (bf d8)) (by decide)
theorem Ws (F:Fun K "_law_sum" "_law_sum" Gu f fd) (hmg:mg "_law_sum" = some (.ref f)) (b_tuple:mg "tuple" = none):dz P w K mg base "_law_sum" 1 a2s _root_.K.ou :=
  ⟨f,fd,Xa F b_tuple,F.binds (ps:=a2s) fun _ _ _ _ _ _ us hl=>bd3 (fun _ _ _=>rfl) us hl,F.kp,hmg⟩
noncomputable abbrev Ep:Stmt:=top 35
theorem Kv:jg ad4 Rp (gw Ep):=⟨rfl,rfl,rfl,by decide +kernel,rfl,by decide +kernel,by decide +kernel⟩
theorem Ui (F:Fun K "_law_atom" "_law_atom" Ep f fd) (d_law_sum:dz P w K mg base "_law_sum" 1 a2s (_root_.K.ou)) (b_int:mg "int" = none):yh P w K mg base CX0 2 f fd Rp (spF K Rp.length _root_.K.qg):=by
  have d_law_sum:=d_law_sum.mono (by decide:1≤1)
  refine jq (N:=ad4) F Kv (by decide)  fun cdv A outer s H E B hr=>?_
  have hu:=uy hr
  have hq:=hr.units
  have nd:ad4.Nodup:=Kv.nd
  refine d9 ?_ ?_
  · exact ji 4 (je nd rfl (Or.inl rfl) (j4 jy (ao 0 (pv 0)) cj)) (fun _ _ _ h=>h)
  · refine d9 ?_ ?_
    · refine um ?_ ?_ ?_
      · exact lu Vl (ao 4 (pv 4)) cj (jk _)
      · exact iu (j9 (fu (aj j5 (aj (dg d_law_sum hr (by rfl) (aj (j4 jl (ao 0 (pv 0)) cj) (aj (ao 1 (pv 1)) (aj (ao 2 (pv 2)) d7))) (cg (cg (cg eq_nil)))) d7)) (dj (bf (bf d8)) (by decide))))
      · exact m9
    · refine d9 ?_ ?_
      · refine um ?_ ?_ ?_
        · exact lu (m8 hq) (ao 4 (pv 4)) cj (jk _)
        · refine iu ?_
          · refine j9 ?_
            · refine fu ?_ ?_
              · refine aj ?_ ?_
                · exact j5
                · exact aj (dg d_law_sum hr (by rfl) (aj (j4 jl (ao 0 (pv 0)) cj) (aj (ao 1 (pv 1)) (aj (ao 2 (pv 2)) d7))) (cg (cg (cg eq_nil)))) (aj (j4 ju cj (j4 jy (j4 jl (ao 0 (pv 0)) cj) cj)) d7)
              · exact dj (bf (bf (bf d8))) (by decide)
        · exact m9
      · refine iu ?_
        · refine j9 ?_
          · refine fu ?_ ?_
            · refine aj ?_ ?_
              · exact j5
              · refine aj ?_ ?_
                · refine fj ?_ ?_ ?_ ?_
                  · exact hu
                  · exact Ce (Zo (.cons (.cons (.cons (.cons .nil))))) (dj (len_strs _) (by decide))
                  · exact j4 jy (j4 jl (ao 0 (pv 0)) cj) (j4 ju cj (j4 Ab cj (mj (v7 Pk (by rfl) b_int PyProof.Rows.boot_int (aj (Cj W7 (ao 3 (pv 3)) cj (jk _)) d7)))))
                  · exact fun _ _=>rfl
                · exact aj (j4 jy (j4 jl (ao 0 (pv 0)) cj) cj) d7
            · exact dj (bf (bf (bf d8))) (by decide)
theorem U0 (F:Fun K "_law_atom" "_law_atom" Ep f fd) (hmg:mg "_law_atom" = some (.ref f)) (d_law_sum:dz P w K mg base "_law_sum" 1 a2s (_root_.K.ou)) (b_int:mg "int" = none):dz P w K mg base "_law_atom" 2 Rp _root_.K.qg :=
  ⟨f,fd,Ui F d_law_sum b_int,F.binds (ps:=Rp) fun _ _ _ _ _ _ us hl=>bd4 (fun _ _ _ _=>rfl) us hl,F.kp,hmg⟩
noncomputable abbrev Bm:Stmt:=top 36
theorem G9:jg ll7 Rp (gw Bm):=⟨rfl,rfl,rfl,by decide +kernel,rfl,by decide +kernel,by decide +kernel⟩
theorem Nz (F:Fun K "_law_remark" "_law_remark" Bm f fd) (d_law_atom:dz P w K mg base "_law_atom" 2 Rp (_root_.K.qg)):yh P w K mg base CX0 3 f fd Rp (spF K Rp.length _root_.K.jw):=by
  have d_law_atom:=d_law_atom.mono (by decide:2≤2)
  refine jq (N:=ll7) F G9 (by decide)  fun cdv A outer s H E B hr=>?_
  have hu:=uy hr
  have hq:=hr.units
  have nd:ll7.Nodup:=G9.nd
  refine d9 ?_ ?_
  · exact ji 4 (je nd rfl (Or.inl rfl) (j4 jy (ao 0 (pv 0)) cj)) (fun _ _ _ h=>h)
  · refine d9 ?_ ?_
    · exact ji 5 (je nd rfl (Or.inl rfl) (dg d_law_atom hr (by rfl) (aj (j4 jl (ao 0 (pv 0)) cj) (aj (ao 1 (pv 1)) (aj (ao 2 (pv 2)) (aj (ao 3 (pv 3)) d7)))) (cg (cg (cg (cg eq_nil)))))) (fun _ _ _ h=>h)
    · refine d9 ?_ ?_
      · exact ji 6 (je nd rfl (Or.inl rfl) (dg d_law_atom hr (by rfl) (aj (j4 jl (ao 0 (pv 0)) cj) (aj (ao 1 (pv 1)) (aj (ao 2 (pv 2)) (aj (ao 3 (pv 3)) d7)))) (cg (cg (cg (cg eq_nil)))))) (fun _ _ _ h=>h)
      · refine d9 ?_ ?_
        · exact ji 7 (je nd rfl (Or.inl rfl) (dg d_law_atom hr (by rfl) (aj (j4 jl (ao 0 (pv 0)) cj) (aj (ao 1 (pv 1)) (aj (ao 2 (pv 2)) (aj (ao 3 (pv 3)) d7)))) (cg (cg (cg (cg eq_nil)))))) (fun _ _ _ h=>h)
        · refine d9 ?_ ?_
          · refine @ji _ _ _ _ (tOf _ _ _) _ ?_ (fun _ _ _ h=>h)
            · refine je ?_ ?_ ?_ ?_
              · exact nd
              · exact rfl
              · exact Or.inl rfl
              · refine Ce ?_ ?_
                · refine aj ?_ ?_
                  · exact ao 5 (pv 5)
                  · refine aj ?_ ?_
                    · exact ao 5 (pv 5)
                    · refine aj ?_ ?_
                      · exact fu (aj j5 (aj (ao 5 (pv 5)) d7)) (dj (bf (bf d8)) (by decide))
                      · refine aj ?_ ?_
                        · exact fu (aj j5 (aj (fu (aj (ao 5 (pv 5)) (aj (ao 6 (pv 6)) d7)) (dj (bf (bf d8)) (by decide))) d7)) (dj (bf (bf d8)) (by decide))
                        · refine aj ?_ ?_
                          · exact fu (aj j5 (aj (fu (aj (ao 5 (pv 5)) (aj (ao 6 (pv 6)) d7)) (dj (bf (bf d8)) (by decide))) d7)) (dj (bf (bf d8)) (by decide))
                          · refine aj ?_ ?_
                            · refine fu ?_ ?_
                              · exact aj j5 (aj (fu (aj j5 (aj (fu (aj (ao 6 (pv 6)) (aj (ao 5 (pv 5)) d7)) (dj (bf (bf d8)) (by decide))) d7)) (dj (bf (bf d8)) (by decide))) d7)
                              · exact dj (bf (bf d8)) (by decide)
                            · exact d7
                · exact dj (bf (bf (bf (bf (bf (bf d8)))))) (by decide)
          · refine d9 ?_ ?_
            · refine @ji _ _ _ _ (tOf _ _ _) _ ?_ (fun _ _ _ h=>h)
              · refine je ?_ ?_ ?_ ?_
                · exact nd
                · exact rfl
                · exact Or.inl rfl
                · exact fu (aj (fu (aj j5 (aj (ao 5 (pv 5)) d7)) (dj (bf (bf d8)) (by decide))) (aj (ao 6 (pv 6)) (aj (ao 5 (pv 5)) (aj (ao 7 (pv 7)) d7)))) (dj (bf (bf (bf (bf d8)))) (by decide))
            · refine iu ?_
              · refine j9 ?_
                · refine fj ?_ ?_ ?_ ?_
                  · exact hu
                  · refine j4 ?_ ?_ ?_
                    · exact ju
                    · exact ao 8 (pv 8)
                    · refine Ce ?_ ?_
                      · refine aj ?_ ?_
                        · refine fu ?_ ?_
                          · refine aj ?_ ?_
                            · exact j5
                            · refine aj ?_ ?_
                              · refine fu ?_ ?_
                                · refine aj ?_ ?_
                                  · exact ao 5 (pv 5)
                                  · refine aj ?_ ?_
                                    · exact fu (aj j5 (aj (ao 6 (pv 6)) d7)) (dj (bf (bf d8)) (by decide))
                                    · exact aj (fu (aj j5 (aj (fu d7 (dj d8 (by decide))) d7)) (dj (bf (bf d8)) (by decide))) (aj (ao 7 (pv 7)) d7)
                                · exact dj (bf (bf (bf (bf d8)))) (by decide)
                              · exact d7
                          · exact dj (bf (bf d8)) (by decide)
                        · exact aj (fu (aj j5 (aj (ao 9 (pv 9)) d7)) (dj (bf (bf d8)) (by decide))) d7
                      · exact dj (bf (bf d8)) (by decide)
                  · exact ao 4 (pv 4)
                  · exact fun _ _=>rfl
theorem Nq (F:Fun K "_law_remark" "_law_remark" Bm f fd) (hmg:mg "_law_remark" = some (.ref f)) (d_law_atom:dz P w K mg base "_law_atom" 2 Rp (_root_.K.qg)):dz P w K mg base "_law_remark" 3 Rp _root_.K.jw :=
  ⟨f,fd,Nz F d_law_atom,F.binds (ps:=Rp) fun _ _ _ _ _ _ us hl=>bd4 (fun _ _ _ _=>rfl) us hl,F.kp,hmg⟩
noncomputable abbrev Bp:Stmt:=top 37
theorem Gy:jg abu a3i (gw Bp):=⟨rfl,rfl,rfl,by decide +kernel,rfl,by decide +kernel,by decide +kernel⟩
theorem Oa (F:Fun K "_law_digits" "_law_digits" Bp f fd) (d_law_cell_at:dz P w K mg base "_law_cell_at" 1 Ry (_root_.K.gn)):yh P w K mg base CX0 2 f fd a3i (spF K a3i.length _root_.K.jm):=by
  have d_law_cell_at:=d_law_cell_at.mono (by decide:1≤1)
  refine jq (N:=abu) F Gy (by decide)  fun cdv A outer s H E B hr=>?_
  have hu:=uy hr
  have hq:=hr.units
  have nd:abu.Nodup:=Gy.nd
  refine d9 ?_ ?_
  · exact ji 3 (je nd rfl (Or.inl rfl) (dg d_law_cell_at hr (by rfl) (aj (ao 0 (pv 0)) (aj (ao 1 (pv 1)) d7)) (cg (cg eq_nil)))) (fun _ _ _ h=>h)
  · exact d9 (um (Vs (ao 2 (pv 2)))   (iu (j9 (ao 3 (pv 3))))   m9)   (iu (j9 (j4 ju (j4 jy (j4 Ab (ao 3 (pv 3)) cj) cj) (j4 Ab (j4 jy (j4 Ab (ao 3 (pv 3)) cj) cj) cj))))
theorem Mz (F:Fun K "_law_digits" "_law_digits" Bp f fd) (hmg:mg "_law_digits" = some (.ref f)) (d_law_cell_at:dz P w K mg base "_law_cell_at" 1 Ry (_root_.K.gn)):dz P w K mg base "_law_digits" 2 a3i _root_.K.jm :=
  ⟨f,fd,Oa F d_law_cell_at,F.binds (ps:=a3i) fun _ _ _ _ _ _ us hl=>bd3 (fun _ _ _=>rfl) us hl,F.kp,hmg⟩
noncomputable abbrev Am:Stmt:=top 38
theorem Fe:jg ll1 a7m (gw Am):=⟨rfl,rfl,rfl,by decide +kernel,rfl,by decide +kernel,by decide +kernel⟩
theorem Le (F:Fun K "_law_program" "_law_program" Am f fd) (d_law_cell_at:dz P w K mg base "_law_cell_at" 1 Ry (_root_.K.gn)) (d_law_digits:dz P w K mg base "_law_digits" 2 a3i (_root_.K.jm)) (d_law_remark:dz P w K mg base "_law_remark" 3 Rp (_root_.K.jw)) (d_law_sum:dz P w K mg base "_law_sum" 1 a2s (_root_.K.ou)) (b_len:mg "len" = none) (b_range:mg "range" = none) (b_tuple:mg "tuple" = none):yh P w K mg base CX0 4 f fd a7m (spF K a7m.length _root_.K.sy):=by
  have d_law_cell_at:=d_law_cell_at.mono (by decide:1≤3)
  have d_law_digits:=d_law_digits.mono (by decide:2≤3)
  have d_law_remark:=d_law_remark.mono (by decide:3≤3)
  have d_law_sum:=d_law_sum.mono (by decide:1≤3)
  refine jq (N:=ll1) F Fe (by decide)  fun cdv A outer s H E B hr=>?_
  have hu:=uy hr
  have hq:=hr.units
  have nd:ll1.Nodup:=Fe.nd
  refine d9 ?_ ?_
  · exact ji 2 (je nd rfl (Or.inl rfl) (dg d_law_cell_at hr (by rfl) (aj (ao 0 (pv 0)) (aj cj d7)) (cg (cg eq_nil)))) (fun _ _ _ h=>h)
  · refine d9 ?_ ?_
    · exact ji 3 (je nd rfl (Or.inl rfl) cj) (fun _ _ _ h=>h)
    · refine d9 ?_ ?_
      · exact ji 4 (je nd rfl (Or.inl rfl) cj) (fun _ _ _ h=>h)
      · refine d9 ?_ ?_
        · refine um ?_ ?_ ?_
          · exact lu (m8 hq) (j4 jy (j4 jl (ao 2 (pv 2)) cj) cj) cj (jk _)
          · refine d9 ?_ ?_
            · exact ji 3 (je nd rfl (Or.inl rfl) (j4 Ds (j4 jy (ao 2 (pv 2)) (j4 Ti cj cj)) (j4 Ab cj (j4 Ti cj cj)))) (fun _ _ _ h=>h)
            · exact iu (ji 4 (je nd rfl (Or.inl rfl) (Xi Hz (j4 jy (ao 2 (pv 2)) (j4 Ti cj cj)))) (fun _ _ _ h=>h))
          · exact m9
        · refine d9 ?_ ?_
          · refine @ji _ _ _ _ (tOf _ _ _) _ ?_ (fun _ _ _ h=>h)
            · refine je ?_ ?_ ?_ ?_
              · exact nd
              · exact rfl
              · exact Or.inl rfl
              · refine Ce ?_ ?_
                · refine aj ?_ ?_
                  · exact fu (aj j5 (aj j5 (aj (ao 3 (pv 3)) (aj (j4 ju (ao 3 (pv 3)) (j4 jy (j4 jl (ao 2 (pv 2)) cj) cj)) (aj (ao 3 (pv 3)) d7))))) (dj (bf (bf (bf (bf (bf d8))))) (by decide))
                  · refine aj ?_ ?_
                    · exact fu (aj j5 (aj j5 (aj (ao 4 (pv 4)) (aj (j4 ju (ao 4 (pv 4)) (j4 jy (j4 jl (ao 2 (pv 2)) cj) cj)) (aj (ao 4 (pv 4)) d7))))) (dj (bf (bf (bf (bf (bf d8))))) (by decide))
                    · exact d7
                · exact dj (bf (bf d8)) (by decide)
          · refine d9 ?_ ?_
            · refine @ji _ _ _ _ (tOf _ _ _) _ ?_ (fun _ _ _ h=>h)
              · refine je ?_ ?_ ?_ ?_
                · exact nd
                · exact rfl
                · exact Or.inl rfl
                · refine Ce ?_ ?_
                  · refine aj ?_ ?_
                    · exact fu (aj j5 (aj (j4 ju cj (j4 jy (j4 jl (ao 2 (pv 2)) cj) cj)) d7)) (dj (bf (bf d8)) (by decide))
                    · exact aj (fu (aj j5 (aj (j4 ju cj (j4 jy (j4 jl (ao 2 (pv 2)) cj) cj)) d7)) (dj (bf (bf d8)) (by decide))) d7
                  · exact dj (bf (bf d8)) (by decide)
            · refine d9 ?_ ?_
              · refine um ?_ ?_ ?_
                · exact lu W7 (j4 jy (j4 jl (ao 2 (pv 2)) cj) cj) cj (jk _)
                · refine iu ?_
                  · refine @ji _ _ _ _ (tOf _ _ _) _ ?_ (fun _ _ _ h=>h)
                    · refine je ?_ ?_ ?_ ?_
                      · exact nd
                      · exact rfl
                      · exact Or.inl rfl
                      · refine j4 ?_ ?_ ?_
                        · exact ju
                        · exact j4 ju (ao 6 (pv 6)) (Ce (aj (fu (aj j5 (aj cj d7)) (dj (bf (bf d8)) (by decide))) d7) (dj (bf d8) (by decide)))
                        · exact a1y (Ce (aj (fu (aj j5 (aj cj d7)) (dj (bf (bf d8)) (by decide))) d7) (dj (bf d8) (by decide))) a6k (a5f (j4 jy (j4 jl (ao 2 (pv 2)) cj) cj))
                · exact m9
              · refine d9 ?_ ?_
                · exact Ck 7 (je nd rfl (Or.inl rfl) (Vy d7 (dj d8 (by decide)))) (fun _ _ _ h=>h)
                · refine d9 ?_ ?_
                  · refine Az ?_ ?_ ?_ ?_ ?_ ?_
                    · exact PassesOwn.never
                    · exact rfl
                    · exact Jb (by rfl) b_range (j4 ju cj (j4 jy (j4 jl (ao 2 (pv 2)) cj) cj))
                    · exact uo 8 (gk nd rfl (Or.inl rfl))
                    · refine d9 ?_ ?_
                      · exact ji 9 (je nd rfl (Or.inl rfl) (dg d_law_digits hr (by rfl) (aj (ao 0 (pv 0)) (aj (j4 ju cj (ao 8 (pv 8))) (aj (ao 1 (pv 1)) d7))) (cg (cg (cg eq_nil))))) (fun _ _ _ h=>h)
                      · refine d9 ?_ ?_
                        · refine a9m ?_
                          · refine a4i ?_ ?_
                            · exact fj hu (ao 6 (pv 6)) (j4 jy (ao 9 (pv 9)) (mj (v9 zu (by rfl) b_len PySem.boot_len (aj (ao 6 (pv 6)) d7)))) (fun _ _=>rfl)
                            · exact yp (is:=[10,11]) (yq rfl (j6 (gk nd rfl (Or.inl rfl)) (j6 (gk nd rfl (Or.inl rfl)) v8)))
                        · refine d9 ?_ ?_
                          · exact Ck 12 (je nd rfl (Or.inl rfl) (Vy d7 (dj d8 (by decide)))) (fun _ _ _ h=>h)
                          · refine d9 ?_ ?_
                            · refine um ?_ ?_ ?_
                              · exact lu W7 (j4 jy (j4 jl (ao 9 (pv 9)) cj) cj) cj (jk _)
                              · refine d9 ?_ ?_
                                · exact ji 13 (je nd rfl (Or.inl rfl) (dg d_law_sum hr (by rfl) (aj (j4 jl (ao 9 (pv 9)) cj) (aj (ao 3 (pv 3)) (aj (ao 4 (pv 4)) d7))) (cg (cg (cg eq_nil))))) (fun _ _ _ h=>h)
                                · refine iu ?_
                                  · refine Cd _ ?_
                                    · refine yw ?_
                                      · refine Hx PySem.F.plainAttrs_list PySem.F.slot_list_append PySem.F.type_list_append Ay ?_ ?_
                                        · exact pv 12
                                        · refine qz ?_ ?_
                                          · refine fu ?_ ?_
                                            · exact aj j5 (aj (fu (aj (j4 ju (fj hu (ao 13 (pv 13)) cj (fun _ _=>rfl)) (ao 3 (pv 3))) (aj (fj hu (ao 13 (pv 13)) cj (fun _ _=>rfl)) d7)) (dj (bf (bf d8)) (by decide))) d7)
                                            · exact dj (bf (bf d8)) (by decide)
                                          · exact wu
                              · exact m9
                            · refine d9 ?_ ?_
                              · refine um ?_ ?_ ?_
                                · exact lu W7 (j4 jy (j4 jl (ao 9 (pv 9)) cj) cj) cj (jk _)
                                · refine d9 ?_ ?_
                                  · exact ji 13 (je nd rfl (Or.inl rfl) (dg d_law_sum hr (by rfl) (aj (j4 jl (ao 9 (pv 9)) cj) (aj (ao 3 (pv 3)) (aj (ao 4 (pv 4)) d7))) (cg (cg (cg eq_nil))))) (fun _ _ _ h=>h)
                                  · refine iu ?_
                                    · refine Cd _ ?_
                                      · refine yw ?_
                                        · refine Hx PySem.F.plainAttrs_list PySem.F.slot_list_append PySem.F.type_list_append Ay ?_ ?_
                                          · exact pv 12
                                          · refine qz ?_ ?_
                                            · refine fu ?_ ?_
                                              · exact aj j5 (aj (fu (aj (j4 ju (fj hu (ao 13 (pv 13)) cj (fun _ _=>rfl)) (ao 4 (pv 4))) (aj (fj hu (ao 13 (pv 13)) cj (fun _ _=>rfl)) d7)) (dj (bf (bf d8)) (by decide))) d7)
                                              · exact dj (bf (bf d8)) (by decide)
                                            · exact wu
                                · exact m9
                              · refine d9 ?_ ?_
                                · refine @ji _ _ _ _ (tOf _ _ _) _ ?_ (fun _ _ _ h=>h)
                                  · refine je ?_ ?_ ?_ ?_
                                    · exact nd
                                    · exact rfl
                                    · exact Or.inl rfl
                                    · refine dg d_law_remark ?_ ?_ ?_ ?_
                                      · exact hr
                                      · exact by rfl
                                      · exact aj (j4 jl (ao 9 (pv 9)) cj) (aj (ao 3 (pv 3)) (aj (ao 4 (pv 4)) (aj (mj (v9 zu (by rfl) b_len PySem.boot_len (aj (ao 6 (pv 6)) d7))) d7)))
                                      · exact cg (cg (cg (cg eq_nil)))
                                · refine iu ?_
                                  · refine Cd _ ?_
                                    · refine yw ?_
                                      · refine Hx PySem.F.plainAttrs_list PySem.F.slot_list_append PySem.F.type_list_append Ay ?_ ?_
                                        · exact pv 7
                                        · refine qz ?_ ?_
                                          · refine fu ?_ ?_
                                            · refine aj ?_ ?_
                                              · exact ao 10 (pv 10)
                                              · refine aj ?_ ?_
                                                · exact j4 jy (j4 jl (ao 9 (pv 9)) cj) (ao 11 (pv 11))
                                                · exact aj (ao 14 (pv 14)) (aj (mj (v7 wj (by rfl) b_tuple PyProof.Rows.boot_tuple (aj (ao 12 (pv 12)) d7))) (aj (j4 jy (j4 jl (ao 9 (pv 9)) cj) (ao 11 (pv 11))) d7))
                                            · exact dj (bf (bf (bf (bf (bf d8))))) (by decide)
                                          · exact wu
                    · exact J5
                  · exact iu (j9 (fu (aj (ao 5 (pv 5)) (aj (ao 6 (pv 6)) (aj (ao 7 (pv 7)) (aj (fu d7 (dj d8 (by decide))) d7)))) (dj (bf (bf (bf (bf d8)))) (by decide))))
theorem Lf (F:Fun K "_law_program" "_law_program" Am f fd) (hmg:mg "_law_program" = some (.ref f)) (d_law_cell_at:dz P w K mg base "_law_cell_at" 1 Ry (_root_.K.gn)) (d_law_digits:dz P w K mg base "_law_digits" 2 a3i (_root_.K.jm)) (d_law_remark:dz P w K mg base "_law_remark" 3 Rp (_root_.K.jw)) (d_law_sum:dz P w K mg base "_law_sum" 1 a2s (_root_.K.ou)) (b_len:mg "len" = none) (b_range:mg "range" = none) (b_tuple:mg "tuple" = none):dz P w K mg base "_law_program" 4 a7m _root_.K.sy :=
  ⟨f,fd,Le F d_law_cell_at d_law_digits d_law_remark d_law_sum b_len b_range b_tuple,F.binds (ps:=a7m) fun _ _ _ _ _ _ us hl=>bd2 (fun _ _=>rfl) us hl,F.kp,hmg⟩
noncomputable abbrev w6:Stmt:=top 39
theorem Ca:jg ll6 a7i (gw w6):=⟨rfl,rfl,rfl,by decide +kernel,rfl,by decide +kernel,by decide +kernel⟩
theorem Hv (F:Fun K "_law_annotation" "_law_annotation" w6 f fd) (d_law_digits:dz P w K mg base "_law_digits" 2 a3i (_root_.K.jm)) (d_law_remark:dz P w K mg base "_law_remark" 3 Rp (_root_.K.jw)) (b_len:mg "len" = none) (b_range:mg "range" = none):yh P w K mg base CX0 4 f fd a7i (spF K a7i.length _root_.K.mz):=by
  have d_law_digits:=d_law_digits.mono (by decide:2≤3)
  have d_law_remark:=d_law_remark.mono (by decide:3≤3)
  refine jq (N:=ll6) F Ca (by decide)  fun cdv A outer s H E B hr=>?_
  have hu:=uy hr
  have hq:=hr.units
  have nd:ll6.Nodup:=Ca.nd
  refine d9 ?_ ?_
  · exact ji 3 (je nd rfl (Or.inl rfl) a08) (fun _ _ _ h=>h)
  · refine d9 ?_ ?_
    · exact ji 4 (je nd rfl (Or.inl rfl) cj) (fun _ _ _ h=>h)
    · refine d9 ?_ ?_
      · refine Az ?_ ?_ ?_ ?_ ?_ ?_
        · exact PassesOwn.never
        · exact rfl
        · exact qx (fj hu (ao 1 (pv 1)) cj (fun _ _=>rfl))
        · exact yp (is:=[5,6]) (yq rfl (j6 (gk nd rfl (Or.inl rfl)) (j6 (gk nd rfl (Or.inl rfl)) v8)))
        · refine iu ?_
          · refine Az ?_ ?_ ?_ ?_ ?_ ?_
            · exact PassesOwn.never
            · exact rfl
            · exact Jb (by rfl) b_range (ao 6 (pv 6))
            · exact uo 7 (gk nd rfl (Or.inl rfl))
            · refine d9 ?_ ?_
              · refine @ji _ _ _ _ (tOf _ _ _) _ ?_ (fun _ _ _ h=>h)
                · refine je ?_ ?_ ?_ ?_
                  · exact nd
                  · exact rfl
                  · exact Or.inl rfl
                  · refine fu ?_ ?_
                    · exact aj (fj hu (fj hu (fj hu (ao 1 (pv 1)) cj (fun _ _=>rfl)) cj (fun _ _=>rfl)) cj (fun _ _=>rfl)) (aj (fj hu (fj hu (fj hu (ao 1 (pv 1)) cj (fun _ _=>rfl)) cj (fun _ _=>rfl)) cj (fun _ _=>rfl)) d7)
                    · exact dj (bf (bf d8)) (by decide)
              · refine d9 ?_ ?_
                · refine a1a ?_ ?_ ?_ ?_ ?_ ?_
                  · exact hu
                  · exact ao 3 (pv 3)
                  · exact aj (ao 5 (pv 5)) (aj (ao 7 (pv 7)) d7)
                  · exact dj (bf (bf d8)) (by decide)
                  · refine dg d_law_remark ?_ ?_ ?_ ?_
                    · exact hr
                    · exact by rfl
                    · refine aj ?_ ?_
                      · exact dg d_law_digits hr (by rfl) (aj (ao 0 (pv 0)) (aj (ao 4 (pv 4)) (aj (ao 2 (pv 2)) d7))) (cg (cg (cg eq_nil)))
                      · exact aj (fj hu (ao 8 (pv 8)) cj (fun _ _=>rfl)) (aj (fj hu (ao 8 (pv 8)) cj (fun _ _=>rfl)) (aj (mj (v9 zu (by rfl) b_len PySem.boot_len (aj (fj hu (ao 1 (pv 1)) cj (fun _ _=>rfl)) d7))) d7))
                    · exact cg (cg (cg (cg eq_nil)))
                  · exact rfl
                · exact iu (ji 4 (je nd rfl (Or.inl rfl) (j4 ju (ao 4 (pv 4)) cj)) (fun _ _ _ h=>h))
            · exact J5
        · exact qw
      · exact iu (j9 (ao 3 (pv 3)))
theorem Ib (F:Fun K "_law_annotation" "_law_annotation" w6 f fd) (hmg:mg "_law_annotation" = some (.ref f)) (d_law_digits:dz P w K mg base "_law_digits" 2 a3i (_root_.K.jm)) (d_law_remark:dz P w K mg base "_law_remark" 3 Rp (_root_.K.jw)) (b_len:mg "len" = none) (b_range:mg "range" = none):dz P w K mg base "_law_annotation" 4 a7i _root_.K.mz :=
  ⟨f,fd,Hv F d_law_digits d_law_remark b_len b_range,F.binds (ps:=a7i) fun _ _ _ _ _ _ us hl=>bd3 (fun _ _ _=>rfl) us hl,F.kp,hmg⟩
noncomputable abbrev Dc:Stmt:=top 40
theorem Ip:jg Rx Rx (gw Dc):=⟨rfl,rfl,rfl,by decide +kernel,rfl,by decide +kernel,by decide +kernel⟩
theorem Pg (F:Fun K "_law_value" "_law_value" Dc f fd) (b_sum:mg "sum" = none):yh P w K mg base CX0 1 f fd Rx (spF K Rx.length _root_.K.mq):=by
  refine jq (N:=Rx) F Ip (by decide)  fun cdv A outer s H E B hr=>?_
  have hu:=uy hr
  have hq:=hr.units
  have nd:Rx.Nodup:=Ip.nd
  refine iu ?_
  · refine j9 ?_
    · refine j4 ?_ ?_ ?_
      · exact ju
      · exact fj hu (ao 0 (pv 0)) cj (fun _ _=>rfl)
      · refine mj ?_
        · refine v9 (Oi (by rfl)) ?_ ?_ PyProof.Rows.boot_sum ?_
          · exact by rfl
          · exact b_sum
          · refine aj ?_ ?_
            · refine uw ?_
              · refine xq (N:=aaw) ?_ ?_ ?_ ?_ ?_ ?_ ?_ ?_
                · exact ⟨rfl,fun j k h=>match j,h with | 0,h=>(by cases h; exact ⟨_,rfl,rfl,⟨.inl rfl,.inr (.inl rfl),.inl rfl⟩⟩) | _+1,h=>(by cases h)⟩
                · exact ⟨rfl,rfl,by decide +kernel,by decide +kernel⟩
                · exact rfl
                · exact qx (fj hu (ao 0 (pv 0)) cj (fun _ _=>rfl))
                · exact qw
                · intro C s₀ H₀ ex pn
                  refine pgE ?_
                  intro B
                  exact yp (is:=[0,1]) (yq rfl (j6 (gk (show aaw.Nodup by decide +kernel) rfl (Or.inl rfl)) (j6 (gk (show aaw.Nodup by decide +kernel) rfl (Or.inl rfl)) v8)))
                · exact fun C s₀ H₀ ex pn=>u9
                · exact fun C s₀ H₀ ex pn=>peE fun B=>(j4 Ab (ao 1 (pv 1)) (fj hu (ao 2 (pv 2)) (ao 0 (pv 0)) (fun _ _=>rfl)))
            · exact d7
theorem Pa (F:Fun K "_law_value" "_law_value" Dc f fd) (hmg:mg "_law_value" = some (.ref f)) (b_sum:mg "sum" = none):dz P w K mg base "_law_value" 1 Rx _root_.K.mq :=
  ⟨f,fd,Pg F b_sum,F.binds (ps:=Rx) fun _ _ _ _ _ _ us hl=>bd2 (fun _ _=>rfl) us hl,F.kp,hmg⟩
noncomputable abbrev Bj:Stmt:=top 41
theorem Ih:jg aci a03 (gw Bj):=⟨rfl,rfl,rfl,by decide +kernel,rfl,by decide +kernel,by decide +kernel⟩
theorem Qc (F:Fun K "_law_holds" "_law_holds" Bj f fd) {nn:Nat} (d_law_holds:dz P w K mg base "_law_holds" (1+nn) a03 (_root_.K.g8 nn)) (d_law_value:dz P w K mg base "_law_value" 1 Rx (_root_.K.mq)) (b_all:mg "all" = none) (b_any:mg "any" = none) (b_int:mg "int" = none):yh P w K mg base CX0 (1+nn+1) f fd a03 (spF K a03.length (_root_.K.g8 (nn+1))):=by
  have d_law_holds:=d_law_holds.mono (show (1+nn)≤(1+nn) by first | decide | omega)
  have d_law_value:=d_law_value.mono (show 1≤(1+nn) by first | decide | omega)
  refine jq (N:=aci) F Ih (by decide)  fun cdv A outer s H E B hr=>?_
  have hu:=uy hr
  have hq:=hr.units
  have nd:aci.Nodup:=Ih.nd
  refine d9 ?_ ?_
  · refine um ?_ ?_ ?_
    · exact lu (m8 hq) (fj hu (ao 0 (pv 0)) cj (fun _ _=>rfl)) j5 (jk _)
    · exact iu (j9 (Cj a3x (dg d_law_value hr (by rfl) (aj (fj hu (ao 0 (pv 0)) cj (fun _ _=>rfl)) (aj (ao 1 (pv 1)) d7)) (cg (cg eq_nil))) cj (jk _)))
    · exact m9
  · refine d9 ?_ ?_
    · refine um ?_ ?_ ?_
      · exact lu (m8 hq) (fj hu (ao 0 (pv 0)) cj (fun _ _=>rfl)) j5 (jk _)
      · exact iu (j9 (Cj (m8 hq) (j4 jy (dg d_law_value hr (by rfl) (aj (fj hu (ao 0 (pv 0)) cj (fun _ _=>rfl)) (aj (ao 1 (pv 1)) d7)) (cg (cg eq_nil))) (fj hu (ao 0 (pv 0)) cj (fun _ _=>rfl))) cj (jk _)))
      · exact m9
    · refine d9 ?_ ?_
      · refine um ?_ ?_ ?_
        · exact lu (m8 hq) (fj hu (ao 0 (pv 0)) cj (fun _ _=>rfl)) j5 (jk _)
        · exact iu (j9 (Cj (m8 hq) (fj hu (ao 1 (pv 1)) (j4 ju j5 (fj hu (ao 0 (pv 0)) cj (fun _ _=>rfl))) (fun _ _=>rfl)) (fj hu (ao 0 (pv 0)) cj (fun _ _=>rfl)) (jk _)))
        · exact m9
      · refine d9 ?_ ?_
        · exact um (lu (m8 hq) (fj hu (ao 0 (pv 0)) cj (fun _ _=>rfl)) j5 (jk _))   (iu (j9 (Uv (dg d_law_holds hr (by rfl) (aj (fj hu (ao 0 (pv 0)) cj (fun _ _=>rfl)) (aj (ao 1 (pv 1)) d7)) (cg (cg eq_nil))))))   m9
        · refine d9 ?_ ?_
          · exact ji 2 (Hj (N:=Rx) ⟨rfl,rfl,by decide +kernel,by decide +kernel⟩ rfl (qx (fj hu (ao 0 (pv 0)) cj (fun _ _=>rfl))) (fun C s₀ H₀ ex pn=>pgE fun B=>(uo 0 (gk (show Rx.Nodup by decide +kernel) rfl (Or.inl rfl)))) (fun C s₀ H₀ ex pn=>u9) (fun C s₀ H₀ ex pn=>peE fun B=>(dg d_law_holds hr (by rfl) (aj (ao 0 (pv 0)) (aj (ao 1 (pv 1)) d7)) (cg (cg eq_nil)))) (gk nd rfl (Or.inl rfl)) rfl) (fun σ H Q h=>Jr ⟨rfl,fun j k h=>match j,h with | 0,h=>(by cases h; exact ⟨_,rfl,rfl,⟨.inl rfl,.inr (.inl rfl),.inl rfl⟩⟩) | _+1,h=>(by cases h)⟩ qw (Vi h))
          · refine iu ?_
            · refine j9 ?_
              · refine fj ?_ ?_ ?_ ?_
                · exact hu
                · refine Ce ?_ ?_
                  · exact aj (mj (v9 (Yx (by rfl)) (by rfl) b_all PyProof.Rows.boot_all (aj (ao 2 (pv 2)) d7))) (aj (mj (v9 (a0f (by rfl)) (by rfl) b_any PyProof.Rows.boot_any (aj (ao 2 (pv 2)) d7))) d7)
                  · exact dj (bf (bf d8)) (by decide)
                · exact mj (v7 Pk (by rfl) b_int PyProof.Rows.boot_int (aj (Cj (m8 hq) (fj hu (ao 0 (pv 0)) cj (fun _ _=>rfl)) j5 (jk _)) d7))
                · exact fun _ _=>rfl
theorem Pu (F:Fun K "_law_holds" "_law_holds" Bj f fd) (hmg:mg "_law_holds" = some (.ref f)) {nn:Nat} (d_law_holds:dz P w K mg base "_law_holds" (1+nn) a03 (_root_.K.g8 nn)) (d_law_value:dz P w K mg base "_law_value" 1 Rx (_root_.K.mq)) (b_all:mg "all" = none) (b_any:mg "any" = none) (b_int:mg "int" = none):dz P w K mg base "_law_holds" (1+nn+1) a03 (_root_.K.g8 (nn+1)) :=
  ⟨f,fd,Qc F d_law_holds d_law_value b_all b_any b_int,F.binds (ps:=a03) fun _ _ _ _ _ _ us hl=>bd2 (fun _ _=>rfl) us hl,F.kp,hmg⟩
theorem Gh {f_law_holds:Addr} {fd_law_holds:FuncData} (F_law_holds:Fun K "_law_holds" "_law_holds" Bj f_law_holds fd_law_holds) (h_law_holds:mg "_law_holds" = some (.ref f_law_holds)) (d_law_value:dz P w K mg base "_law_value" 1 Rx _root_.K.mq) (b_all:mg "all" = none) (b_any:mg "any" = none) (b_int:mg "int" = none):∀ nn:Nat,dz P w K mg base "_law_holds" (1+nn) a03 (_root_.K.g8 nn)
  | 0=>dz.zero F_law_holds h_law_holds (F_law_holds.binds (ps:=a03) fun _ _ _ _ _ _ us hl=>bd2 (fun _ _=>rfl) us hl)
  | nn+1=>by
    have ih:=Gh F_law_holds h_law_holds d_law_value b_all b_any b_int nn
    have d_law_holds:=ih
    exact Pu F_law_holds h_law_holds d_law_holds d_law_value b_all b_any b_int
noncomputable abbrev Bv:Stmt:=top 42
theorem Gx:jg ll4 a5u (gw Bv):=⟨rfl,rfl,rfl,by decide +kernel,rfl,by decide +kernel,by decide +kernel⟩
theorem O2 (F:Fun K "_law_behind" "_law_behind" Bv f fd) (d_law_value:dz P w K mg base "_law_value" 1 Rx (_root_.K.mq)) (b_dict:mg "dict" = none):yh P w K mg base CX0 2 f fd a5u (spF K a5u.length _root_.K.nq):=by
  have d_law_value:=d_law_value.mono (by decide:1≤1)
  refine jq (N:=ll4) F Gx (by decide)  fun cdv A outer s H E B hr=>?_
  have hu:=uy hr
  have hq:=hr.units
  have nd:ll4.Nodup:=Gx.nd
  refine d9 ?_ ?_
  · exact Ck 3 (je nd rfl (Or.inl rfl) (a70 rfl (by rfl) b_dict (ao 2 (pv 2)))) (fun _ _ _ h=>h)
  · refine d9 ?_ ?_
    · refine Az ?_ ?_ ?_ ?_ ?_ ?_
      · exact PassesOwn.never
      · exact rfl
      · exact qx (fj hu (ao 1 (pv 1)) cj (fun _ _=>rfl))
      · exact yp (is:=[4,5]) (yq rfl (j6 (gk nd rfl (Or.inl rfl)) (j6 (gk nd rfl (Or.inl rfl)) v8)))
      · exact iu (zy 3 hu (pv 3) (ao 4 (pv 4)) (dg d_law_value hr (by rfl) (aj (ao 5 (pv 5)) (aj (ao 2 (pv 2)) d7)) (cg (cg eq_nil))) rfl)
      · exact qw
    · refine d9 ?_ ?_
      · exact zy 3 hu (pv 3) (j4 ju j5 (fj hu (ao 1 (pv 1)) cj (fun _ _=>rfl))) (fj hu (ao 1 (pv 1)) cj (fun _ _=>rfl)) rfl
      · refine d9 ?_ ?_
        · refine Az ?_ ?_ ?_ ?_ ?_ ?_
          · exact PassesOwn.never
          · exact rfl
          · exact qx (fj hu (ao 0 (pv 0)) cj (fun _ _=>rfl))
          · exact yp (is:=[6,7,8,9,10]) (yq rfl (j6 (gk nd rfl (Or.inl rfl)) (j6 (gk nd rfl (Or.inl rfl)) (j6 (gk nd rfl (Or.inl rfl)) (j6 (gk nd rfl (Or.inl rfl)) (j6 (gk nd rfl (Or.inl rfl)) v8))))))
          · refine iu ?_
            · refine um ?_ ?_ ?_
              · exact PW.pt (a9p (lu Vl (Mq 3 hu (pv 3) (ao 6 (pv 6)) (fun _ _=>rfl)) (ao 8 (pv 8)) (jk _)) (a4g (lu Vl (ao 9 (pv 9)) (Mq 3 hu (pv 3) (ao 6 (pv 6)) (fun _ _=>rfl)) (jk _))))
              · exact iu (j9 (fu (aj (ao 3 (pv 3)) (aj Nu d7)) (dj (bf (bf d8)) (by decide))))
              · exact m9
          · exact qw
        · exact iu (j9 (fu (aj (ao 3 (pv 3)) (aj Nu d7)) (dj (bf (bf d8)) (by decide))))
theorem N5 (F:Fun K "_law_behind" "_law_behind" Bv f fd) (hmg:mg "_law_behind" = some (.ref f)) (d_law_value:dz P w K mg base "_law_value" 1 Rx (_root_.K.mq)) (b_dict:mg "dict" = none):dz P w K mg base "_law_behind" 2 a5u _root_.K.nq :=
  ⟨f,fd,O2 F d_law_value b_dict,F.binds (ps:=a5u) fun _ _ _ _ _ _ us hl=>bd3 (fun _ _ _=>rfl) us hl,F.kp,hmg⟩
noncomputable abbrev Cp:Stmt:=top 43
theorem Ie:jg ll2 ll8 (gw Cp):=⟨rfl,rfl,rfl,by decide +kernel,rfl,by decide +kernel,by decide +kernel⟩
theorem Rc (F:Fun K "_law_asked" "_law_asked" Cp f fd) (d_law_behind:dz P w K mg base "_law_behind" 2 a5u (_root_.K.nq)) (d_law_holds:dz P w K mg base "_law_holds" 41 a03 (_root_.K.g8 40)) (d_duty_forms:dz P w K mg base "duty_forms" 46 a6h (_root_.K.kh)) (d_form_true:dz P w K mg base "form_true" 42 a1f (_root_.K.m5)) (b_isinstance:mg "isinstance" = none) (b_len:mg "len" = none) (b_list:mg "list" = none):yh P w K mg base CX0 47 f fd ll8 (spF K ll8.length _root_.K.qb):=by
  have d_law_behind:=d_law_behind.mono (by decide:2≤46)
  have d_law_holds:=d_law_holds.mono (by decide:41≤46)
  have d_duty_forms:=d_duty_forms.mono (by decide:46≤46)
  have d_form_true:=d_form_true.mono (by decide:42≤46)
  refine jq (N:=ll2) F Ie (by decide)  fun cdv A outer s H E B hr=>?_
  have hu:=uy hr
  have hq:=hr.units
  have nd:ll2.Nodup:=Ie.nd
  refine d9 ?_ ?_
  · exact ji 4 (je nd rfl (Or.inl rfl) (fj hu (fj hu (ao 0 (pv 0)) cj (fun _ _=>rfl)) (fj hu (ao 2 (pv 2)) cj (fun _ _=>rfl)) (fun _ _=>rfl))) (fun _ _ _ h=>h)
  · refine d9 ?_ ?_
    · refine @ji _ _ _ _ (tOf _ _ _) _ ?_ (fun _ _ _ h=>h)
      · refine je ?_ ?_ ?_ ?_
        · exact nd
        · exact rfl
        · exact Or.inl rfl
        · refine M5 ?_ ?_
          · exact Cj (m8 hq) (fj hu (ao 3 (pv 3)) (j4 ju j5 (fj hu (ao 4 (pv 4)) cj (fun _ _=>rfl))) (fun _ _=>rfl)) (fj hu (ao 4 (pv 4)) cj (fun _ _=>rfl)) (jk _)
          · refine a0p ?_
            · refine dg d_law_holds ?_ ?_ ?_ ?_
              · exact hr
              · exact by rfl
              · exact aj (yt hu (ao 1 (pv 1)) (fu (aj (fj hu (ao 4 (pv 4)) cj (fun _ _=>rfl)) (aj (fj hu (ao 4 (pv 4)) cj (fun _ _=>rfl)) d7)) (dj (bf (bf d8)) (by decide))) (fun _ _=>rfl)) (aj (ao 3 (pv 3)) d7)
              · exact cg (cg eq_nil)
    · refine d9 ?_ ?_
      · exact ji 6 (je nd rfl (Or.inl rfl) (yt hu (ao 1 (pv 1)) (fu (aj (fj hu (ao 4 (pv 4)) cj (fun _ _=>rfl)) (aj (fj hu (ao 4 (pv 4)) cj (fun _ _=>rfl)) d7)) (dj (bf (bf d8)) (by decide))) (fun _ _=>rfl))) (fun _ _ _ h=>h)
      · refine d9 ?_ ?_
        · refine um ?_ ?_ ?_
          · exact lu (m8 hq) (fj hu (ao 2 (pv 2)) cj (fun _ _=>rfl)) j5 (jk _)
          · refine d9 ?_ ?_
            · exact ji 6 (je nd rfl (Or.inl rfl) (yt hu (ao 1 (pv 1)) (fu (aj (fj hu (ao 2 (pv 2)) cj (fun _ _=>rfl)) (aj (fj hu (ao 2 (pv 2)) cj (fun _ _=>rfl)) d7)) (dj (bf (bf d8)) (by decide))) (fun _ _=>rfl))) (fun _ _ _ h=>h)
            · refine iu ?_
              · refine @ji _ _ _ _ (tOf _ _ _) _ ?_ (fun _ _ _ h=>h)
                · refine je ?_ ?_ ?_ ?_
                  · exact nd
                  · exact rfl
                  · exact Or.inl rfl
                  · refine M5 ?_ ?_
                    · exact ao 5 (pv 5)
                    · refine M5 ?_ ?_
                      · exact Cj (m8 hq) (fj hu (ao 3 (pv 3)) (j4 ju j5 (fj hu (ao 2 (pv 2)) cj (fun _ _=>rfl))) (fun _ _=>rfl)) (fj hu (ao 2 (pv 2)) cj (fun _ _=>rfl)) (jk _)
                      · exact a0p (dg d_law_holds hr (by rfl) (aj (ao 6 (pv 6)) (aj (ao 3 (pv 3)) d7)) (cg (cg eq_nil)))
          · exact m9
        · refine d9 ?_ ?_
          · refine a9m ?_
            · exact a4i (dg d_law_behind hr (by rfl) (aj (ao 0 (pv 0)) (aj (ao 4 (pv 4)) (aj (ao 3 (pv 3)) d7))) (cg (cg (cg eq_nil)))) (yp (is:=[7,8]) (yq rfl (j6 (gk nd rfl (Or.inl rfl)) (j6 (gk nd rfl (Or.inl rfl)) v8))))
          · refine d9 ?_ ?_
            · refine @ji _ _ _ _ (tOf _ _ _) _ ?_ (fun _ _ _ h=>h)
              · refine je ?_ ?_ ?_ ?_
                · exact nd
                · exact rfl
                · exact Or.inl rfl
                · refine M5 ?_ ?_
                  · exact ao 5 (pv 5)
                  · refine M5 ?_ ?_
                    · exact dg d_law_holds hr (by rfl) (aj (fj hu (ao 4 (pv 4)) cj (fun _ _=>rfl)) (aj (ao 3 (pv 3)) d7)) (cg (cg eq_nil))
                    · exact M5 (ao 8 (pv 8)) (a0p (Uv (dg d_law_holds hr (by rfl) (aj (ao 6 (pv 6)) (aj (ao 7 (pv 7)) d7)) (cg (cg eq_nil)))))
            · refine d9 ?_ ?_
              · exact ji 10 (je nd rfl (Or.inl rfl) (dg d_duty_forms hr (by rfl) (aj (ao 0 (pv 0)) (aj (ao 1 (pv 1)) (aj (ao 2 (pv 2)) d7))) (cg (cg (cg eq_nil))))) (fun _ _ _ h=>h)
              · refine d9 ?_ ?_
                · refine um ?_ ?_ ?_
                  · refine PW.pt ?_
                    · refine a9p ?_ ?_
                      · exact a0h (Vs (Rv (by rfl) b_isinstance (by rfl) b_list (ao 10 (pv 10))))
                      · refine a4g ?_
                        · refine lu (m8 hq) ?_ ?_ ?_
                          · exact dg d_form_true hr (by rfl) (aj (fj hu (ao 10 (pv 10)) (Xi Hz cj) (fun _ _=>rfl)) (aj (ao 3 (pv 3)) d7)) (cg (cg eq_nil))
                          · exact dg d_law_holds hr (by rfl) (aj (ao 6 (pv 6)) (aj (ao 7 (pv 7)) d7)) (cg (cg eq_nil))
                          · exact jk _
                  · exact iu (j9 Nu)
                  · exact m9
                · refine iu ?_
                  · refine j9 ?_
                    · refine Cj (m8 hq) ?_ ?_ ?_
                      · refine Cj (m8 hq) ?_ ?_ ?_
                        · refine mj ?_
                          · refine v9 zu ?_ ?_ PySem.boot_len ?_
                            · exact by rfl
                            · exact b_len
                            · refine aj ?_ ?_
                              · refine uw ?_
                                · refine xq (N:=["_law_form","_law_book_here"]) ?_ ?_ ?_ ?_ ?_ ?_ ?_ ?_
                                  · exact ⟨rfl,fun j k h=>match j,h with | 0,h=>(by cases h; exact ⟨_,rfl,rfl,⟨.inl rfl,.inr (.inl rfl),.inl rfl⟩⟩) | _+1,h=>(by cases h)⟩
                                  · exact ⟨rfl,rfl,by decide +kernel,by decide +kernel⟩
                                  · exact rfl
                                  · exact qx (ao 10 (pv 10))
                                  · exact qw
                                  · exact fun C s₀ H₀ ex pn=>pgE fun B=>(uo 0 (gk (show (["_law_form","_law_book_here"]:List Str).Nodup by decide +kernel) rfl (Or.inl rfl)))
                                  · exact fun C s₀ H₀ ex pn=>(J9 fun B=>(a0h (Vs (dg d_form_true hr (by rfl) (aj (ao 0 (pv 0)) (aj (ao 1 (pv 1)) d7)) (cg (cg eq_nil))))))
                                  · exact fun C s₀ H₀ ex pn=>peE fun B=>cj
                              · exact d7
                        · exact cj
                        · exact jk _
                      · exact ao 9 (pv 9)
                      · exact jk _
theorem Qs (F:Fun K "_law_asked" "_law_asked" Cp f fd) (hmg:mg "_law_asked" = some (.ref f)) (d_law_behind:dz P w K mg base "_law_behind" 2 a5u (_root_.K.nq)) (d_law_holds:dz P w K mg base "_law_holds" 41 a03 (_root_.K.g8 40)) (d_duty_forms:dz P w K mg base "duty_forms" 46 a6h (_root_.K.kh)) (d_form_true:dz P w K mg base "form_true" 42 a1f (_root_.K.m5)) (b_isinstance:mg "isinstance" = none) (b_len:mg "len" = none) (b_list:mg "list" = none):dz P w K mg base "_law_asked" 47 ll8 _root_.K.qb :=
  ⟨f,fd,Rc F d_law_behind d_law_holds d_duty_forms d_form_true b_isinstance b_len b_list,F.binds (ps:=ll8) fun _ _ _ _ _ _ us hl=>bd4 (fun _ _ _ _=>rfl) us hl,F.kp,hmg⟩
noncomputable abbrev Er:Stmt:=top 44
theorem Ko:jg ll3 a7g (gw Er):=⟨rfl,rfl,rfl,by decide +kernel,rfl,by decide +kernel,by decide +kernel⟩
theorem Ua (F:Fun K "_law_book" "_law_book" Er f fd) (d_law_cell_at:dz P w K mg base "_law_cell_at" 1 Ry (_root_.K.gn)):yh P w K mg base CX0 2 f fd a7g (a9c K a7g.length _root_.K.vh):=by
  have d_law_cell_at:=d_law_cell_at.mono (by decide:1≤1)
  refine Vm (N:=ll3) F Ko (by decide) (Ag (Ag (Ag (Ag (Vk _))))) fun cdv A outer s H E B hr=>?_
  have hu:=uy hr
  have hq:=hr.units
  have nd:ll3.Nodup:=Ko.nd
  refine Af ?_ ?_
  · exact ji 3 (je nd rfl (Or.inl rfl) (dg d_law_cell_at hr (by rfl) (aj (ao 0 (pv 0)) (aj (j4 ju cj (ao 2 (pv 2))) d7)) (cg (cg eq_nil)))) (fun _ _ _ h=>h)
  · refine Af ?_ ?_
    · exact Ck 4 (je nd rfl (Or.inl rfl) Mv) (fun _ _ _ h=>h)
    · refine Af ?_ ?_
      · refine Az ?_ ?_ ?_ ?_ ?_ ?_
        · exact PassesOwn.never
        · exact rfl
        · exact qx (fj hu (ao 1 (pv 1)) cj (fun _ _=>rfl))
        · exact yp (is:=[5,6,7,8,9]) (yq rfl (j6 (gk nd rfl (Or.inl rfl)) (j6 (gk nd rfl (Or.inl rfl)) (j6 (gk nd rfl (Or.inl rfl)) (j6 (gk nd rfl (Or.inl rfl)) (j6 (gk nd rfl (Or.inl rfl)) v8))))))
        · refine d9 ?_ ?_
          · exact zy 4 hu (pv 4) (ao 5 (pv 5)) (j4 ju (ao 7 (pv 7)) (j4 jy (ao 3 (pv 3)) (j4 ju (j4 Ds (ao 8 (pv 8)) (ao 7 (pv 7))) cj))) rfl
          · exact iu (ji 3 (je nd rfl (Or.inl rfl) (j4 jl (ao 3 (pv 3)) cj)) (fun _ _ _ h=>h))
        · exact qw
      · refine Af ?_ ?_
        · refine Az ?_ ?_ ?_ ?_ ?_ ?_
          · exact PassesOwn.never
          · exact rfl
          · exact qx (fj hu (ao 1 (pv 1)) cj (fun _ _=>rfl))
          · exact yp (is:=[5,10]) (yq rfl (j6 (gk nd rfl (Or.inl rfl)) (j6 (gk nd rfl (Or.inl rfl)) v8)))
          · exact d9 (zy 4 hu (pv 4) (j4 ju j5 (ao 5 (pv 5))) (j4 jy (ao 3 (pv 3)) (ao 10 (pv 10))) rfl)   (iu (ji 3 (je nd rfl (Or.inl rfl) (j4 jl (ao 3 (pv 3)) cj)) (fun _ _ _ h=>h)))
          · exact qw
        · exact Y8 4 (pv 4)
theorem Tv (F:Fun K "_law_book" "_law_book" Er f fd) (hmg:mg "_law_book" = some (.ref f)) (d_law_cell_at:dz P w K mg base "_law_cell_at" 1 Ry (_root_.K.gn)):Gd P w K mg base "_law_book" 2 a7g _root_.K.vh :=
  ⟨f,fd,Ua F d_law_cell_at,F.binds (ps:=a7g) fun _ _ _ _ _ _ us hl=>bd3 (fun _ _ _=>rfl) us hl,F.kp,hmg⟩
noncomputable abbrev Mu:Stmt:=top 45
theorem a4n:jg ll5 ad0 (gw Mu):=⟨rfl,rfl,rfl,by decide +kernel,rfl,by decide +kernel,by decide +kernel⟩
theorem a8n (F:Fun K "law" "law" Mu f fd) (d_law_annotation:dz P w K mg base "_law_annotation" 4 a7i (_root_.K.mz)) (d_law_asked:dz P w K mg base "_law_asked" 47 ll8 (_root_.K.qb)) (d_law_book:Gd P w K mg base "_law_book" 2 a7g (_root_.K.vh)) (d_law_cell_at:dz P w K mg base "_law_cell_at" 1 Ry (_root_.K.gn)) (d_law_program:dz P w K mg base "_law_program" 4 a7m (_root_.K.sy)) (d_duties_of:dz P w K mg base "duties_of" 2 a7p (_root_.K.vf)) (b_len:mg "len" = none) (b_range:mg "range" = none):yh P w K mg base CX0 48 f fd ad0 (spF K ad0.length _root_.K.Xf):=by
  have d_law_annotation:=d_law_annotation.mono (by decide:4≤47)
  have d_law_asked:=d_law_asked.mono (by decide:47≤47)
  have d_law_book:=d_law_book.mono (by decide:2≤47)
  have d_law_cell_at:=d_law_cell_at.mono (by decide:1≤47)
  have d_law_program:=d_law_program.mono (by decide:4≤47)
  have d_duties_of:=d_duties_of.mono (by decide:2≤47)
  refine jq (N:=ll5) F a4n (by decide)  fun cdv A outer s H E B hr=>?_
  have hu:=uy hr
  have hq:=hr.units
  have nd:ll5.Nodup:=a4n.nd
  refine d9 ?_ ?_
  · exact ji 1 (je nd rfl (Or.inl rfl) (Cj (m8 hq) (j4 jy (dg d_law_cell_at hr (by rfl) (aj (ao 0 (pv 0)) (aj cj d7)) (cg (cg eq_nil))) cj) cj (jk _))) (fun _ _ _ h=>h)
  · refine d9 ?_ ?_
    · exact ji 2 (je nd rfl (Or.inl rfl) (dg d_law_program hr (by rfl) (aj (ao 0 (pv 0)) (aj (ao 1 (pv 1)) d7)) (cg (cg eq_nil)))) (fun _ _ _ h=>h)
    · refine d9 ?_ ?_
      · exact ji 3 (je nd rfl (Or.inl rfl) (dg d_law_annotation hr (by rfl) (aj (ao 0 (pv 0)) (aj (ao 2 (pv 2)) (aj (ao 1 (pv 1)) d7))) (cg (cg (cg eq_nil))))) (fun _ _ _ h=>h)
      · refine d9 ?_ ?_
        · exact ji 4 (Hj (N:=["_law_duty"]) ⟨rfl,rfl,by decide +kernel,by decide +kernel⟩ rfl (qx (dg d_duties_of hr (by rfl) (aj (ao 2 (pv 2)) d7) (cg eq_nil))) (fun C s₀ H₀ ex pn=>pgE fun B=>(uo 0 (gk (show (["_law_duty"]:List Str).Nodup by decide +kernel) rfl (Or.inl rfl)))) (fun C s₀ H₀ ex pn=>(J9 fun B=>(lu (Ou hq) (fj hu (ao 0 (pv 0)) cj (fun _ _=>rfl)) j5 (jk _)))) (fun C s₀ H₀ ex pn=>peE fun B=>(ao 0 (pv 0))) (gk nd rfl (Or.inl rfl)) rfl) (fun σ H Q h=>Jr ⟨rfl,fun j k h=>match j,h with | _+0,h=>(by cases h)⟩ qw (Vi h))
        · refine d9 ?_ ?_
          · refine Az ?_ ?_ ?_ ?_ ?_ ?_
            · exact PassesOwn.never
            · exact rfl
            · exact Jb (by rfl) b_range cj
            · exact uo 5 (gk nd rfl (Or.inl rfl))
            · refine d9 ?_ ?_
              · exact ji 6 (je nd rfl (Or.inl rfl) (dg d_law_cell_at hr (by rfl) (aj (ao 0 (pv 0)) (aj (j4 ju cj (ao 5 (pv 5))) d7)) (cg (cg eq_nil)))) (fun _ _ _ h=>h)
              · refine d9 ?_ ?_
                · exact Ck 7 (je nd rfl (Or.inl rfl) (W2 d_law_book hr (by rfl) (aj (ao 0 (pv 0)) (aj (ao 2 (pv 2)) (aj (ao 5 (pv 5)) d7))) (cg (cg (cg eq_nil))))) (fun _ _ _ h=>h)
                · refine iu ?_
                  · refine Az ?_ ?_ ?_ ?_ ?_ ?_
                    · exact PassesOwn.never
                    · exact rfl
                    · refine qx ?_
                      · refine Ce ?_ ?_
                        · refine aj ?_ ?_
                          · exact fj hu (ao 4 (pv 4)) (j4 jy (j4 jl (ao 6 (pv 6)) cj) (mj (v9 zu (by rfl) b_len PySem.boot_len (aj (ao 4 (pv 4)) d7)))) (fun _ _=>rfl)
                          · exact aj (fj hu (ao 4 (pv 4)) (j4 jy (j4 jl (ao 6 (pv 6)) cj) (mj (v9 zu (by rfl) b_len PySem.boot_len (aj (ao 4 (pv 4)) d7)))) (fun _ _=>rfl)) d7
                        · exact dj (bf (bf d8)) (by decide)
                    · exact uo 8 (gk nd rfl (Or.inl rfl))
                    · refine d9 ?_ ?_
                      · exact ji 9 (je nd rfl (Or.inl rfl) (fj hu (fj hu (ao 2 (pv 2)) cj (fun _ _=>rfl)) (fj hu (ao 8 (pv 8)) cj (fun _ _=>rfl)) (fun _ _=>rfl))) (fun _ _ _ h=>h)
                      · refine d9 ?_ ?_
                        · refine um ?_ ?_ ?_
                          · exact lu (m8 hq) (j4 jy (j4 jl (ao 6 (pv 6)) cj) cj) cj (jk _)
                          · refine d9 ?_ ?_
                            · exact zy 7 hu (pv 7) (j4 ju j5 (fj hu (ao 9 (pv 9)) cj (fun _ _=>rfl))) (fj hu (ao 9 (pv 9)) cj (fun _ _=>rfl)) rfl
                            · exact iu (um (lu (m8 hq) (fj hu (ao 8 (pv 8)) cj (fun _ _=>rfl)) j5 (jk _))   (iu (zy 7 hu (pv 7) (j4 ju j5 (fj hu (ao 8 (pv 8)) cj (fun _ _=>rfl))) (fj hu (ao 8 (pv 8)) cj (fun _ _=>rfl)) rfl))   m9)
                          · exact m9
                        · exact iu (um (a1t [7] (fun B=>(a0h (Vs (dg d_law_asked hr (by rfl) (aj (ao 2 (pv 2)) (aj (ao 3 (pv 3)) (aj (ao 8 (pv 8)) (aj (ao 7 (pv 7)) d7)))) (cg (cg (cg (cg eq_nil)))))))))   (iu (j9 Nu))   m9)
                    · exact qw
            · exact J5
          · exact iu (j9 Nu)
end
end D
end
noncomputable section
set_option linter.all false
set_option maxRecDepth 100000
set_option autoImplicit false
namespace C
open PySem
theorem Qw {α:Type} {h f:α→T} {g:G} {c:M Bool} {e:M T} {nv:Nat} {cap:List Slot} {sto:List SO} (hcap:cap.map Hi=cap) :
    ∀ (l:List α) (acc:List T) (pre:List Slot),pre.length=nv→acc.length+l.length≤lim →
      (∀ a∈l,∀ pre:List Slot,pre.length=nv→∃ pre',pre'.length=nv∧g (h a) ⟨pre++cap,sto⟩=some ⟨pre'++cap,sto⟩∧c ⟨pre'++cap,sto⟩=some (true,⟨pre'++cap,sto⟩)∧e ⟨pre'++cap,sto⟩=some (f a,⟨pre'++cap,sto⟩)) →
      ∃ s',Eu g c e (l.map h) ⟨pre++cap,sto⟩ acc=some (acc++l.map f,s')∧s'.sto=sto
  | [],acc,pre,hp,hl,H=>⟨⟨pre++cap,sto⟩,by simp [Eu],rfl⟩
  | a::l,acc,pre,hp,hl,H=>by
    obtain ⟨pre',p1,p2,p3,p4⟩:=H a List.mem_cons_self pre hp
    have hlen:acc.length<lim:=by simp at hl ⊢; (clear p4 p3 p2 p1 H hp hcap; omega)
    obtain ⟨s',q1,q2⟩:=Qw hcap l (acc++[f a]) (pre'.map Hi) (by simpa using p1) (by simp at hl ⊢; (clear hlen p4 p3 p2 p1 H hp hcap; omega)) fun b hb=>H b (List.mem_cons_of_mem _ hb)
    refine ⟨s',?_,q2⟩
    rw [List.map_cons,Eu,p2]
    dsimp only
    rw [p3]
    dsimp only
    rw [p4]
    dsimp only
    rw [if_pos hlen,qj]
    dsimp only
    rw [List.map_append,hcap,q1]
    simp
theorem uz {α:Type} (h f:α→T) (l:List α) {g:G} {c:M Bool} {e:M T} {nv:Nat} {ci:List Nat} {it:M (List T)} {s s1:Sta} (env:List Slot) (cap:List Slot) (hit:it s=some (l.map h,s1)) (henv:jj ci s1.env=env) (hci:ci.map (fun i=>(env[i]?).getD none)=cap) (hcap:cap.map Hi=cap) (hl:l.length≤lim)
    (H:∀ a∈l,∀ pre:List Slot,pre.length=nv→∃ pre',pre'.length=nv∧g (h a) ⟨pre++cap,s1.sto⟩=some ⟨pre'++cap,s1.sto⟩∧c ⟨pre'++cap,s1.sto⟩=some (true,⟨pre'++cap,s1.sto⟩)∧e ⟨pre'++cap,s1.sto⟩=some (f a,⟨pre'++cap,s1.sto⟩)) :
    p7 nv ci g it c e s=some (.lst (l.map f),⟨env,s1.sto⟩):=by
  obtain ⟨s',q1,q2⟩:=Qw hcap l [] (List.replicate nv none) (by simp) (by simpa using hl) H
  unfold p7
  rw [hit]
  dsimp only
  rw [henv,hci,q1]
  dsimp only
  rw [q2]; rfl
noncomputable def okS (x:Str):Prop:=PyData.canLay0 (.str x)=true
theorem Nk {x:Str} (h:okS x):dat (.str x)=some (.str x):=by
  unfold okS at h
  simp [dat,h]
theorem Te {a b:Str} (ha:okS a) (hb:okS b):neO (.str a) (.str b)=some (.bl (!(a==b))):=by
  simp [neO,eqT,eqD,Nk ha,Nk hb,PyData.depth,PyData.eqv]
end C
namespace C
open PySem
end C
namespace C
open PySem
theorem Kc {α:Type} (h:α→T) (l:List α) {i:Int} (h0:0≤i) (h1:i<l.length):∃ a∈l,cu (.lst (l.map h)) (.int i)=some (h a):=by
  have hi:i.toNat<l.length:=by omega
  refine ⟨l[i.toNat],List.getElem_mem hi,?_⟩
  simp [cu,ixI,h0,h1,List.getElem?_eq_getElem hi]
theorem V9 {α:Type} (h:α→T) (l:List α) {k:Nat} (hk:k<l.length):cu (.lst (l.map h)) (.int (k:Int))=some (h l[k]):=by
  have h1:(k:Int)<(l.length:Int):=by omega
  simp [cu,ixI,h1,List.getElem?_eq_getElem hk]
end C
end
noncomputable section
set_option linter.all false
set_option maxRecDepth 100000
set_option autoImplicit false
namespace C
open PySem
theorem Py {α σ:Type} {g:G} {b:S} (h:α→T) (R:σ→Sta) (step:σ→α→σ) (P:List α→σ→Prop)
    (H:∀ a r x,P (a::r) x→(∃ s1,g (h a) (R x)=some s1∧b s1=some (.next,R (step x a)))∧P r (step x a)) :
    ∀ (l:List α) (x:σ),P l x→forL g b (l.map h) (R x)=some (.next,R (l.foldl step x))∧P [] (l.foldl step x)
  | [],x,p=>⟨by simp [forL],p⟩
  | a::l,x,p=>by
    obtain ⟨⟨s1,h1,h2⟩,h3⟩:=H a l x p
    obtain ⟨e,q⟩:=Py h R step P H l (step x a) h3
    refine ⟨?_,q⟩
    rw [List.map_cons,forL]; dsimp only; rw [h1]; dsimp only; rw [h2]; dsimp only; exact e
theorem a3p {α σ:Type} {g:G} {b:S} {ts:List T} {s:Sta} {r:Option (Flow × Sta)} (hF:forL g b ts s=r) (h:α→T) (l:List α) (R:σ→Sta) (x0:σ) (step:σ→α→σ) (P:List α→σ→Prop) (ht:ts=l.map h) (hs:s=R x0) (hP:P l x0)
    (H:∀ a r x,P (a::r) x→(∃ s1,g (h a) (R x)=some s1∧b s1=some (.next,R (step x a)))∧P r (step x a)) :
    r=some (.next,R (l.foldl step x0))∧P [] (l.foldl step x0):=by
  subst ht hs
  obtain ⟨e,p⟩:=Py h R step P H l x0 hP
  exact ⟨hF.symm.trans e,p⟩
theorem Dn {α:Type} {h f:α→T} {q:α→Bool} {g:G} {c:M Bool} {e:M T} {nv:Nat} {cap:List Slot} {sto:List SO} (hcap:cap.map Hi=cap) :
    ∀ (l:List α) (acc:List T) (pre:List Slot),pre.length=nv→acc.length+l.length≤lim →
      (∀ a∈l,∀ pre:List Slot,pre.length=nv→∃ pre',pre'.length=nv∧g (h a) ⟨pre++cap,sto⟩=some ⟨pre'++cap,sto⟩∧c ⟨pre'++cap,sto⟩=some (q a,⟨pre'++cap,sto⟩)∧(q a=true→e ⟨pre'++cap,sto⟩=some (f a,⟨pre'++cap,sto⟩))) →
      ∃ s',Eu g c e (l.map h) ⟨pre++cap,sto⟩ acc=some (acc++(l.filter q).map f,s')∧s'.sto=sto
  | [],acc,pre,hp,hl,H=>⟨⟨pre++cap,sto⟩,by simp [Eu],rfl⟩
  | a::l,acc,pre,hp,hl,H=>by
    obtain ⟨pre',p1,p2,p3,p4⟩:=H a List.mem_cons_self pre hp
    have hlen:acc.length<lim:=by simp at hl ⊢; (clear p4 p3 p2 p1 H hp hcap; omega)
    rw [List.map_cons,Eu,p2]
    dsimp only
    rw [p3]
    cases hq:q a with
    | true =>
      obtain ⟨s',q1,q2⟩:=Dn hcap l (acc++[f a]) (pre'.map Hi) (by simpa using p1) (by simp at hl ⊢; (clear hq hlen p4 p3 p2 p1 H hp hcap; omega)) fun b hb=>H b (List.mem_cons_of_mem _ hb)
      refine ⟨s',?_,q2⟩
      dsimp only
      rw [p4 hq]
      dsimp only
      rw [if_pos hlen,qj]
      dsimp only
      rw [List.map_append,hcap,q1]
      simp [hq]
    | false =>
      obtain ⟨s',q1,q2⟩:=Dn hcap l acc (pre'.map Hi) (by simpa using p1) (by simp at hl ⊢; (clear hq hlen p4 p3 p2 p1 H hp hcap; omega)) fun b hb=>H b (List.mem_cons_of_mem _ hb)
      refine ⟨s',?_,q2⟩
      dsimp only
      rw [qj]
      dsimp only
      rw [List.map_append,hcap,q1]
      simp [hq]
theorem Gb {α:Type} {g:G} {c:M Bool} {e:M T} {nv:Nat} {ci:List Nat} {it:M (List T)} {s:Sta} {r:Option (T × Sta)} (hF:p7 nv ci g it c e s=r) (h f:α→T) (q:α→Bool) (l:List α) (s1:Sta) (env cap:List Slot) (hit:it s=some (l.map h,s1)) (henv:jj ci s1.env=env) (hci:ci.map (fun i=>(env[i]?).getD none)=cap) (hcap:cap.map Hi=cap) (hl:l.length≤lim)
    (H:∀ a∈l,∀ pre:List Slot,pre.length=nv→∃ pre',pre'.length=nv∧g (h a) ⟨pre++cap,s1.sto⟩=some ⟨pre'++cap,s1.sto⟩∧c ⟨pre'++cap,s1.sto⟩=some (q a,⟨pre'++cap,s1.sto⟩)∧(q a=true→e ⟨pre'++cap,s1.sto⟩=some (f a,⟨pre'++cap,s1.sto⟩))) :
    r=some (.lst ((l.filter q).map f),⟨env,s1.sto⟩):=by
  obtain ⟨s',q1,q2⟩:=Dn hcap l [] (List.replicate nv none) (by simp) (by simpa using hl) H
  rw [← hF]
  unfold p7
  rw [hit]
  dsimp only
  rw [henv,hci,q1]
  dsimp only
  rw [q2]; rfl
theorem Jx {a b:Int}:eqO (.int a) (.int b)=some (.bl (a==b)):=rfl
theorem a0n {a b:Int}:neO (.int a) (.int b)=some (.bl (!(a==b))):=by simp [neO,eqT,eqD,dat,PyData.depth,PyData.eqv]
theorem a5k {a b:Str} (ha:okS a) (hb:okS b):eqO (.str a) (.str b)=some (.bl (a==b)):=by
  simp [eqO,eqT,eqD,Nk ha,Nk hb,PyData.depth,PyData.eqv]
theorem Kg {xs:List T} {k:Nat} {t:T} (h:xs[k]? = some t):cu (.tup xs) (.int (k:Int))=some t:=by
  have hk:k<xs.length:=(List.getElem?_eq_some_iff.mp h).1
  have h1:(k:Int)<(xs.length:Int):=by omega
  simp [cu,ixI,h1,h]
theorem vg {a:T} {r:List T}:cu (.tup (a::r)) (.int 0)=some a:=Kg (k:=0) rfl
theorem vp {a b:T} {r:List T}:cu (.tup (a::b::r)) (.int 1)=some b:=Kg (k:=1) rfl
theorem Iu {a b c:T} {r:List T}:cu (.tup (a::b::c::r)) (.int 2)=some c:=Kg (k:=2) rfl
theorem Vd {a b c d:T} {r:List T}:cu (.tup (a::b::c::d::r)) (.int 3)=some d:=Kg (k:=3) rfl
theorem J1 {i j:Nat} {x y:T} {s:Sta}:wz [i,j] (.tup [x,y]) s=some (j8 j y false (j8 i x false s)):=by simp [wz]
theorem ig {a b:S} {s s':Sta} (h:a s=some (.next,s')):jd a b s=b s':=by unfold jd; rw [h]
end C
end
noncomputable section
set_option linter.all false
set_option autoImplicit false
namespace K
open C PySem
noncomputable section
variable {a b:M T} {l r:M (List T)} {s s1 s2:Sta} {t u v:T} {ts:List T} {i:Nat} {F:Fn} {z:List SO} {x y:S}
theorem zo {f:T→T→Option T} (h1:a s=some (t,s1)) (h2:b s1=some (u,s2)) (h3:f t u=some v):mOp f a b s=some (v,s2):=by
  unfold mOp; rw [h1]; dsimp only; rw [h2]; dsimp only; rw [h3]
theorem zm {f:List T→Option T} (h:l s=some (ts,s1)) (h2:f ts=some u):iz f l s=some (u,s1):=by
  unfold iz; rw [h]; dsimp only; rw [h2]
theorem zc (h:a s=some (t,s1)) (h2:l s1=some (ts,s2)):ak a l s=some (t::ts,s2):=by
  unfold ak; rw [h]; dsimp only; rw [h2]
theorem zf (h:l s=some (ts,s1)) (h2:F ts s1.sto=some (t,z)):dw F l s=some (t,⟨s1.env,z⟩):=by
  unfold dw; rw [h]; dsimp only; rw [h2]
theorem zs (h:a s=some (t,s1)):m6 i a s=some (.next,j8 i t false s1):=by unfold m6; rw [h]
theorem zn (h:a s=some (t,s1)):sNew i a s=some (.next,j8 i t true s1):=by unfold sNew; rw [h]
theorem zr (h:a s=some (t,s1)):pq a s=some (.ret t,s1):=by unfold pq; rw [h]
theorem zq {q:Option (C.Flow × Sta)} (h:x s=some (.next,s1)) (h2:y s1=q):jd x y s=q:=by unfold jd; rw [h]; exact h2
theorem zt {k:Bool} (h:a s=some (.bl k,s1)):gj a s=some (k,s1):=by unfold gj; rw [h]
theorem zk {c:M Bool} (h:c s=some (true,s1)) {q:Option (C.Flow × Sta)} (h2:x s1=q):sIf c x y s=q:=by unfold sIf; rw [h]; exact h2
theorem ze {c:M Bool} (h:c s=some (false,s1)) {q:Option (C.Flow × Sta)} (h2:y s1=q):sIf c x y s=q:=by unfold sIf; rw [h]; exact h2
theorem ys {s':Sta} (h:a s=some (t,s1)) (e:j8 i t false s1=s'):m6 i a s=some (.next,s'):=by unfold m6; rw [h,← e]
theorem yn {s':Sta} (h:a s=some (t,s1)) (e:j8 i t true s1=s'):sNew i a s=some (.next,s'):=by unfold sNew; rw [h,← e]
theorem md {i j:Int} (h:0<j):ux (.int i) (.int j)=some (.int (i%j)):=if_pos h
theorem a7o {α:Type} {f:α→T} {l:List α}:Ax [.lst (l.map f)]=some (.int l.length):=by show some (T.int ((l.map f).length:Int))=_; rw [List.length_map]
theorem ad {p q:Str} (h:p.length+q.length<lim):uh (.str p) (.str q)=some (.str (p++q)):=if_pos h
theorem zun {f:T→Option T} (h:a s=some (t,s1)) (h2:f t=some u):mUn f a s=some (u,s1):=by unfold mUn; rw [h]; dsimp only; rw [h2]
theorem zis {α:Type} {f:α→T} {k:List α} (h:a s=some (.lst (k.map f),s1)) (hl:k.length<lim):qu a s=some (k.map f,s1):=by
  unfold qu; rw [h]; dsimp only; rw [List.length_map,if_pos hl]
theorem zqr (h:x s=some (.ret t,s1)):jd x y s=some (.ret t,s1):=by unfold jd; rw [h]
theorem a9a {c:M Bool} {k:Bool} (h:c s=some (k,s1)):Dj c s=some (!k,s1):=by unfold Dj; rw [h]
theorem aei {c d:M Bool} (h:c s=some (true,s1)):mOr c d s=some (true,s1):=by unfold mOr; rw [h]
theorem adn {c d:M Bool} {q:Option (Bool × Sta)} (h:c s=some (false,s1)) (h2:d s1=q):mOr c d s=q:=by unfold mOr; rw [h]; exact h2
theorem zb {c:M Bool} {k:Bool} (h:c s=some (k,s1)):rm c s=some (.bl k,s1):=by unfold rm; rw [h]
theorem zgo {g:G} (h:a s=some (t,s1)) (h2:g t s1=some s2):sGo g a s=some (.next,s2):=by unfold sGo; rw [h]; dsimp only; rw [h2]
theorem za {s':Sta} {xs:List T} (h:a s=some (t,s1)) (hx:s1.env[i]? = some (some (.lst xs,true))) (hl:xs.length<lim) (hs:xu i s=true) (e:j8 i (.lst (xs++[t])) true s1=s'):jz i a s=some (.next,s'):=by
  unfold jz; rw [if_pos hs,h]; dsimp only; rw [hx]; dsimp only; rw [if_pos hl,e]
theorem zw {s':Sta} {kv:List (C.Key × T)} {q:C.Key} (h:b s=some (t,s1)) (hd:Jv i s1=true) (h2:a s1=some (u,s2)) (hx:s2.env[i]? = some (some (.dic kv,true))) (hq:keyOf u=some q) (hl:kv.length<lim) (e:j8 i (.dic (Du q t kv)) true s2=s'):qm i a b s=some (.next,s'):=by
  unfold qm; rw [h]; dsimp only; rw [if_pos hd,h2]; dsimp only; rw [hx,hq]; dsimp only; rw [if_pos hl,e]
theorem zoi {kv:List (C.Key × T)} {q:C.Key} (hd:Jv i s=true) (h:a s=some (u,s1)) (hx:s1.env[i]? = some (some (.dic kv,true))) (hq:keyOf u=some q) (hg:Ac q kv=some t):xg i a s=some (t,s1):=by
  unfold xg; rw [if_pos hd,h]; dsimp only; rw [hx]; dsimp only; rw [hq]; show (match Ac q kv with | some t=>some (t,s1) | none=>none)=_; rw [hg]
theorem a1o {α:Type} {f:α→Bool}:∀ {l:List α},abr [.lst (l.map fun r=>.bl (f r))]=some (.bl (l.all f))∧acr [.lst (l.map fun r=>.bl (f r))]=some (.bl (l.any f)):=fun {l}=>by
  have q:∀ l:List α,Im (l.map fun r=>.bl (f r))=some (l.map f):=fun l=>by
    induction l with
    | nil=>rfl
    | cons a l ih=>rw [List.map_cons,Im,ih]; rfl
  refine ⟨?_,?_⟩
  · show (Im (l.map fun r=>.bl (f r))).map _=_
    rw [q]; simp
  · show (Im (l.map fun r=>.bl (f r))).map _=_
    rw [q]; simp
theorem aam {p q:Int} (h:p<q):ltT (.int p) (.int q)=some (.bl true):=by show some (T.bl (decide (p<q)))=_; rw [decide_eq_true h]
theorem a6u {p q:Int} (h:¬ p<q):ltT (.int p) (.int q)=some (.bl false):=by show some (T.bl (decide (p<q)))=_; rw [decide_eq_false h]
theorem aco {c d:M Bool} {j k:Bool} (h1:c s=some (j,s)) (h2:d s=some (k,s)):Dm c d s=some (j&&k,s):=by
  unfold Dm; rw [h1]
  cases j
  · rfl
  · exact h2
theorem eq_i {p q:Int} {k:Bool} (h:(p==q)=k):eqO (.int p) (.int q)=some (.bl k):=by rw [Jx,h]
theorem mu {p q:Int} (h:Ah p=true):Ji (.int p) (.int q)=some (.int (p * q)):=if_pos (by rw [h]; rfl)
theorem mu2 {p q:Int} (h:Ah q=true):Ji (.int p) (.int q)=some (.int (p * q)):=if_pos (by rw [h]; simp)
theorem zf0 (h:l s=some (ts,s1)) (h2:F ts s1.sto=some (t,s1.sto)):dw F l s=some (t,s1):=by
  unfold dw; rw [h]; dsimp only; rw [h2]
theorem zex {s':Sta} {xs zs:List T} (h:a s=some (t,s1)) (hq:Cy t=some zs) (hx:s1.env[i]? = some (some (.lst xs,true))) (hl:xs.length+zs.length<lim) (hs:xu i s=true) (e:j8 i (.lst (xs++zs)) true s1=s'):jx i a s=some (.next,s'):=by
  unfold jx; rw [if_pos hs,h]; dsimp only; rw [hq,hx]; dsimp only; rw [if_pos hl,e]
theorem a2a {g:G} {q:S} {w:List T} (h:g t s=some s1) (hb:q s1=some (.next,s2)):forL g q (t::w) s=forL g q w s2:=by
  rw [forL]; dsimp only; rw [h]; dsimp only; rw [hb]
theorem aaj {g:G} {q:S} {m:M (List T)} {r0:Option (C.Flow × Sta)} (h:m s=some (ts,s1)) (h2:forL g q ts s1=r0):yj g m q s=r0:=by
  unfold yj; rw [h]; exact h2
theorem zrun {n:Nat} {A:List T} {z0:List SO} (h:x ⟨A.map (fun t=>some (t,false))++List.replicate (n - A.length) none,z0⟩=some (.ret t,s1)) (h2:s1.sto=z):jo n x A z0=some (t,z):=by
  unfold jo; rw [h]; dsimp only; rw [h2]
end
end K
end
noncomputable section
set_option linter.all false
set_option autoImplicit false
namespace K
open C PySem
theorem zdp {o v:M T} {ks:M (List T)} {s s1 s2 s3 s':Sta} {t:T} {ts:List T} {n:Nat} {kv:List (List C.Key × T)} {q:List C.Key} (hv:v s=some (t,s1)) (ho:o s1=some (.obj n,s2)) (hk:ks s2=some (ts,s3)) (hs:s3.sto[n]? = some (.dit kv)) (hq:keysOf ts=some q) (hl:kv.length<lim) (e:{ s3 with sto:=s3.sto.set n (.dit (V2 q t kv)) } = s'):Fq o ks v s=some (.next,s'):=by
  unfold Fq; rw [hv]; dsimp only; rw [ho]; dsimp only; rw [hk]; dsimp only; rw [hs,hq]; dsimp only; rw [if_pos hl,e]
end K
namespace K
open C PySem
theorem a7s {α:Type} {a:M T} {s s1:Sta} {f:α→T} {k:List α} (h:a s=some (.tup (k.map f),s1)) (hl:k.length<lim):qu a s=some (k.map f,s1):=by
  unfold qu; rw [h]; dsimp only; rw [List.length_map,if_pos hl]
theorem isL {l:List T}:Oc [.lst l]=some (.bl true):=rfl
theorem adv {α:Type} {f:α→Int} {l:List α}:aad [.lst (l.map fun a=>T.int (f a))]=some (.int (l.map f).sum):=by
  have q:∀ l:List α,X6 (l.map fun a=>T.int (f a))=some (l.map f):=fun l=>by
    induction l with
    | nil=>rfl
    | cons a l ih=>rw [List.map_cons,X6,ih]; rfl
  show (X6 _).map _=_
  rw [q]; rfl
end K
namespace K
open C PySem
theorem zmt {c:M Bool} {a b:M T} {s s1:Sta} {r:Option (T × Sta)} (h:c s=some (true,s1)) (h2:a s1=r):mIf c a b s=r:=by unfold mIf; rw [h]; exact h2
theorem zmf {c:M Bool} {a b:M T} {s s1:Sta} {r:Option (T × Sta)} (h:c s=some (false,s1)) (h2:b s1=r):mIf c a b s=r:=by unfold mIf; rw [h]; exact h2
theorem zrg {a:M T} {s s1:Sta} {m:Nat} (h:a s=some (.int (m:Int),s1)) (hl:m<lim):p8 a s=some ((List.range m).map (fun (k:Nat)=>T.int (k:Int)),s1):=by
  unfold p8; rw [h]; dsimp only; unfold rangeT; simp [hl]
end K
end
noncomputable section
set_option linter.all false
set_option maxRecDepth 100000
set_option autoImplicit false
namespace K
open C PySem
noncomputable abbrev Pr:=Str × Int
noncomputable def pT (p:Pr):T:=.tup [.str p.1,.int p.2]
noncomputable abbrev Sm:=Int × List Pr
noncomputable def smT (s:Sm):T:=.tup [.int s.1,.tup (s.2.map pT)]
noncomputable def dd (d:List Pr):List (C.Key × T):=d.map fun p=>(.inr p.1,.int p.2)
noncomputable def gt:List Pr→Str→Int
  | [],_=>0
  | (k,v)::r,b=>if k=b then v else gt r b
noncomputable def ks (d:List Pr):List Str:=d.map (·.1)
noncomputable def pt (d:List Pr) (b:Str) (v:Int):List Pr:=if b∈ks d then d.map fun p=>if p.1=b then (p.1,v) else p else d++[(b,v)]
theorem Y4 (b:Str):∀ d:List Pr,(Ac (.inr b) (dd d)).getD (.int 0)=.int (gt d b)
  | []=>rfl
  | (k,v)::r=>by
    have ih:=Y4 b r
    unfold dd at ih ⊢
    simp only [List.map_cons,Ac,gt]
    by_cases h:k=b
    · simp [h]
    · rw [if_neg (by simpa using h),if_neg h,ih]
theorem Vw {b:Str}:∀ {d:List Pr},b∈ks d→Ac (.inr b) (dd d)=some (.int (gt d b))
  | [],h=>by simp [ks] at h
  | (k,v)::r,h=>by
    unfold dd
    simp only [List.map_cons,Ac,gt]
    by_cases e:k=b
    · simp [e]
    · rw [if_neg (by simpa using e),if_neg e]
      simp only [ks,List.map_cons,List.mem_cons] at h
      rcases h with h | h
      · exact absurd h.symm e
      · exact Vw (d:=r) h
theorem Rm {b:Str}:∀ {d:List Pr},b∉ks d→gt d b=0
  | [],_=>rfl
  | (k,v)::r,h=>by
    simp only [ks,List.map_cons,List.mem_cons,not_or] at h
    rw [gt,if_neg (fun e=>h.1 e.symm)]
    exact Rm (d:=r) h.2
theorem a6j (b:Str) (v:Int) (d:List Pr):Du (.inr b) (.int v) (dd d)=dd (pt d b v):=by
  have any:((dd d).any fun p=>decide (p.1=Sum.inr b))=decide (b∈ks d):=by
    rw [Bool.eq_iff_iff]
    simp only [List.any_eq_true,decide_eq_true_eq,dd,ks,List.mem_map]
    constructor
    · rintro ⟨x,⟨p,hp,rfl⟩,h⟩
      simp only [Sum.inr.injEq] at h
      exact ⟨p,hp,h⟩
    · rintro ⟨p,hp,h⟩
      exact ⟨_,⟨p,hp,rfl⟩,by simp [h]⟩
  unfold Du pt
  rw [any]
  by_cases h:b∈ks d
  · rw [if_pos (by simpa using h),if_pos h] -- here
    unfold dd
    rw [List.map_map,List.map_map] -- here
    apply List.map_congr_left
    intro p _
    simp only [Function.comp,Sum.inr.injEq]
    split <;> rfl
  · rw [if_neg (by simpa using h),if_neg h] -- here
    unfold dd
    rw [List.map_append]; rfl
theorem a8d (d:List Pr) (b:Str) (v:Int):ks (pt d b v)=if b∈ks d then ks d else ks d++[b]:=by
  unfold pt
  split
  · unfold ks
    rw [List.map_map]
    apply List.map_congr_left
    intro p _
    simp only [Function.comp]
    split <;> rfl
  · unfold ks; rw [List.map_append]; rfl
theorem Ov {b k:Str} {v:Int} {r:List Pr}:b∈ks ((k,v)::r)↔b=k∨b∈ks r:=by simp [ks]
theorem a4x {b:Str} {e:List Pr}:∀ {d:List Pr},gt (d++e) b=if b∈ks d then gt d b else gt e b
  | []=>by simp [ks]
  | (k,v)::r=>by
    simp only [List.cons_append,gt]
    by_cases h:k=b
    · rw [if_pos h,if_pos h,if_pos (Ov.mpr (.inl h.symm))]
    · rw [if_neg h,if_neg h,a4x (d:=r)]
      have hiff:(b∈ks ((k,v)::r))↔b∈ks r:=Ov.trans ⟨fun z=>z.resolve_left fun z=>h z.symm,.inr⟩
      by_cases hr:b∈ks r
      · rw [if_pos hr,if_pos (hiff.mpr hr)]
      · rw [if_neg hr,if_neg (fun z=>hr (hiff.mp z))]
theorem a4o {b c:Str} {v:Int}:∀ {d:List Pr},gt (d.map fun p=>if p.1=b then (p.1,v) else p) c=if c=b∧c∈ks d then v else gt d c
  | []=>by simp [ks,gt]
  | (k,w)::r=>by
    have ih:=a4o (b:=b) (c:=c) (v:=v) (d:=r)
    rw [List.map_cons]
    by_cases h:k=b
    · rw [if_pos h]
      simp only [gt]
      by_cases hc:k=c
      · rw [if_pos hc,if_pos ⟨by rw [← hc,h],Ov.mpr (.inl hc.symm)⟩]
      · rw [if_neg hc,if_neg hc,ih]
        have hb:¬ c=b:=fun z=>hc (by rw [h,z])
        rw [if_neg (fun z=>hb z.1),if_neg (fun z=>hb z.1)]
    · rw [if_neg h]
      simp only [gt]
      by_cases hc:k=c
      · rw [if_pos hc,if_pos hc]
        have hb:¬ c=b:=fun z=>h (by rw [hc,z])
        rw [if_neg (fun z=>hb z.1)]
      · rw [if_neg hc,if_neg hc,ih]
        have hiff:(c∈ks ((k,w)::r))↔c∈ks r:=Ov.trans ⟨fun z=>z.resolve_left fun z=>hc z.symm,.inr⟩
        by_cases hr:c=b∧c∈ks r
        · rw [if_pos hr,if_pos ⟨hr.1,hiff.mpr hr.2⟩]
        · rw [if_neg hr,if_neg (fun z=>hr ⟨z.1,hiff.mp z.2⟩)]
theorem abx {d:List Pr} {b c:Str} {v:Int}:gt (pt d b v) c=if c=b then v else gt d c:=by
  unfold pt
  split
  · rename_i h
    rw [a4o]
    by_cases e:c=b
    · rw [if_pos ⟨e,by rw [e]; exact h⟩,if_pos e]
    · rw [if_neg (fun z=>e z.1),if_neg e]
  · rename_i h
    rw [a4x]
    by_cases e:c=b
    · subst e
      rw [if_neg h,if_pos rfl]; simp [gt]
    · rw [if_neg e]
      split
      · rfl
      · rename_i h2
        have:¬ b=c:=fun z=>e z.symm
        rw [Rm h2]
        simp [gt,this]
noncomputable def tot:List Pr→Str→Int
  | [],_=>0
  | (k,v)::r,b=>(if k=b then v else 0)+tot r b
noncomputable def a0s (l:List Pr) (d:List Pr):List Pr:=l.foldl (fun d p=>pt d p.1 (gt d p.1+p.2)) d
theorem a0w (b:Str):∀ (l d:List Pr),gt (a0s l d) b=gt d b+tot l b
  | [],d=>by simp [a0s,tot]
  | (k,v)::r,d=>by
    have ih:=a0w b r (pt d k (gt d k+v))
    unfold a0s at ih ⊢
    rw [List.foldl_cons,ih,abx,tot]
    by_cases h:b=k
    · subst h; simp; omega
    · have h2:¬ k=b:=fun z=>h z.symm
      rw [if_neg h,if_neg h2]; (clear h2 h ih; omega)
theorem a0l:∀ (l d:List Pr),(ks d).Nodup→(ks (a0s l d)).Nodup∧(∀ b,b∈ks (a0s l d)↔b∈ks d∨b∈ks l)
  | [],d,h=>⟨h,fun b=>by simp [a0s,ks]⟩
  | (k,v)::r,d,h=>by
    have h1:(ks (pt d k (gt d k+v))).Nodup:=by
      rw [a8d]
      split
      · exact h
      · rename_i hn
        rw [List.nodup_append]
        exact ⟨h,by simp,fun a ha b hb=>by simp at hb; subst hb; exact fun z=>hn (by rw [← z]; exact ha)⟩
    obtain ⟨a1,a2⟩:=a0l r (pt d k (gt d k+v)) h1
    unfold a0s at a1 a2 ⊢
    rw [List.foldl_cons]
    refine ⟨a1,fun b=>?_⟩
    rw [a2 b,a8d,Ov]
    by_cases hk:k∈ks d
    · rw [if_pos hk]
      constructor
      · rintro (z | z)
        · exact .inl z
        · exact .inr (.inr z)
      · rintro (z | z | z)
        · exact .inl z
        · subst z; exact .inl hk
        · exact .inr z
    · rw [if_neg hk]
      constructor
      · rintro (z | z)
        · rcases List.mem_append.mp z with z | z
          · exact .inl z
          · simp at z; exact .inr (.inl z)
        · exact .inr (.inr z)
      · rintro (z | z | z)
        · exact .inl (List.mem_append_left _ z)
        · subst z; exact .inl (List.mem_append_right _ (by simp))
        · exact .inr z
structure Uni (U:List Str):Prop where
  len:U.length≤8
  ok:∀ x∈U,okS x
  ins:∀ x∈U,∀ P:Str→Bool,P x=false→Xl x (U.filter P)=U.filter fun b=>P b||b==x
noncomputable def canon (U:List Str) (f:Str→Int):List Pr:=(U.filter fun b=>f b != 0).map fun b=>(b,f b)
theorem Q8 {U:List Str} (u:Uni U):∀ (l:List Str) (P:Str→Bool),l.Nodup→(∀ b∈l,b∈U∧P b=false)→l.foldl (fun acc x=>Xl x acc) (U.filter P)=U.filter fun b=>P b||l.contains b
  | [],P,_,_=>by simp
  | x::l,P,hn,h=>by
    obtain ⟨h1,h2⟩:=List.nodup_cons.mp hn
    rw [List.foldl_cons,u.ins x (h x List.mem_cons_self).1 P (h x List.mem_cons_self).2,Q8 u l _ h2 fun b hb=>⟨(h b (List.mem_cons_of_mem _ hb)).1,by
      rw [(h b (List.mem_cons_of_mem _ hb)).2,Bool.false_or]
      exact beq_eq_false_iff_ne.mpr fun z=>h1 (by rw [← z]; exact hb)⟩]
    congr 1
    funext b
    rw [List.contains_cons,Bool.or_assoc]
theorem Ku {U l:List Str} (u:Uni U) (hn:l.Nodup) (h:∀ b∈l,b∈U):Ci l=U.filter fun b=>l.contains b:=by
  have:=Q8 u l (fun _=>false) hn fun b hb=>⟨h b hb,rfl⟩
  unfold Ci
  rw [show U.filter (fun _=>false)=[] by simp] at this
  rw [this]
  apply List.filter_congr
  intro b _
  simp
theorem Ss {U:List Str} {d:List Pr} (u:Uni U) (hn:(ks d).Nodup) (h:∀ b∈ks d,b∈U):((Ci (ks d)).filter fun b=>gt d b != 0)=U.filter fun b=>gt d b != 0:=by
  rw [Ku u hn h,List.filter_filter]
  apply List.filter_congr
  intro b hb
  by_cases e:b∈ks d
  · simp [e]
  · simp [Rm e]
theorem Ve {U:List Str} {d:List Pr} (u:Uni U) (hn:(ks d).Nodup) (h:∀ b∈ks d,b∈U):d.length≤U.length:=by
  have h1:=List.Nodup.length_le_of_subset hn h
  simpa [ks] using h1
end K
end
noncomputable section
set_option linter.all false
set_option maxRecDepth 100000
set_option autoImplicit false
namespace K
open C PySem
noncomputable section
variable {U:List Str} {sto:List SO}
theorem keys_str:∀ d:List Pr,J3 ((dd d).map fun p=>X8 p.1)=some (ks d)
  | []=>rfl
  | (k,v)::r=>by
    have ih:=keys_str r
    show (J3 ((dd r).map fun p=>X8 p.1)).map (k :: ·)=_
    rw [ih]; rfl
theorem Z7 {d:List Pr} (h:d.length<64):Tj [.dic (dd d)]=some (.lst ((Ci (ks d)).map T.str)):=by
  have h2:(dd d).length<64:=by simpa [dd] using h
  show (if _ then (J3 _).map _ else none)=_
  rw [if_pos h2,keys_str]; rfl
noncomputable def prs (l:List Pr) (s:T):Prop:=s=.lst (l.map pT)∨s=.tup (l.map pT)
theorem a68 {l:List Pr} {s:T} (h:prs l s) (hl:l.length<1000000) {m:M T} {st st':Sta} (e:m st=some (s,st')):qu m st=some (l.map pT,st'):=by
  have h1:l.length<lim:=hl
  rcases h with rfl | rfl <;> simp [qu,e,h1]
theorem a9v {b:Str} {v:Int} {d:List Pr}:Du (.inr b) (.int v) (dd d)=dd (pt d b v):=a6j b v d
theorem a5y {v:Int}:neO (.int v) (.int 0)=some (.bl (v != 0)):=by
  rw [a0n]; rfl
theorem a0b {n:Int} {l:List Pr} {s:T} (u:Uni U) (hs:prs l s) (hl:l.length<1000) (hU:∀ b∈ks l,b∈U):vm [.int n,s] sto=some (smT (n,canon U (tot l)),sto):=by
  have e1:bw 1 ⟨[some (.int n,false),some (s,false),some (.dic (dd []),true),none,none,none],sto⟩=some (s,⟨[some (.int n,false),some (s,false),some (.dic (dd []),true),none,none,none],sto⟩):=rfl
  have is:=a68 hs (by (clear e1 hU hs u; omega)) e1
  obtain ⟨hn,hk⟩:=a0l l [] (by simp [ks])
  have hkU:∀ b∈ks (a0s l []),b∈U:=fun b hb=>by
    rcases (hk b).mp hb with z | z
    · simp [ks] at z
    · exact hU b z
  have hlen:=Ve u hn hkU
  have ul:=u.len
  unfold vm jo
  rw [show ([T.int n,s].map (fun t=>some (t,false))++List.replicate (6 - [T.int n,s].length) none:List Slot)=[some (.int n,false),some (s,false),none,none,none,none] from rfl]
  rw [ig (s':=⟨[some (.int n,false),some (s,false),some (.dic (dd []),true),none,none,none],sto⟩) rfl]
  have loop:(yj (wz [3,4]) (qu (bw 1)) (qm 2 (bw 3) (mOp uh (Hg 2 (bw 3) (au (.int 0))) (bw 4)))) ⟨[some (.int n,false),some (s,false),some (.dic (dd []),true),none,none,none],sto⟩
      = some (.next,⟨[some (.int n,false),some (s,false),some (.dic (dd (a0s l [])),true),(l.foldl (fun (x:List Pr × Slot × Slot) p=>(pt x.1 p.1 (gt x.1 p.1+p.2),some (.str p.1,false),some (.int p.2,false))) ([],none,none)).2.1,(l.foldl (fun (x:List Pr × Slot × Slot) p=>(pt x.1 p.1 (gt x.1 p.1+p.2),some (.str p.1,false),some (.int p.2,false))) ([],none,none)).2.2,none],sto⟩):=by
    unfold yj
    rw [is]
    dsimp only
    generalize hF:forL _ _ _ _=r
    obtain ⟨rfl,_⟩:=a3p hF pT l (fun (x:List Pr × Slot × Slot)=>(⟨[some (.int n,false),some (s,false),some (.dic (dd x.1),true),x.2.1,x.2.2,none],sto⟩:Sta)) ([],none,none)
      (fun x p=>(pt x.1 p.1 (gt x.1 p.1+p.2),some (.str p.1,false),some (.int p.2,false))) (fun r x=>x.1.length+r.length≤l.length) rfl rfl (by simp) (by
        rintro p r x h1
        simp only [List.length_cons] at h1
        have hlt:(dd x.1).length<lim:=by simp only [dd,List.length_map]; show _<1000000; (clear hF ul hlen hkU hk hn is e1 hU hs u; omega)
        refine ⟨⟨_,by unfold pT; exact J1,?_⟩,?_⟩
        · simp [jo,jd,sIf,m6,sNew,pq,vo,sNx,qy,sGo,ur,yj,jz,jx,xu,gj,Dj,Dm,mOr,rm,mIf,mOp,mUn,bw,iz,ak,dh,au,Dl,dw,j8,hName,wz,p8,qu,ltT,leT,Ax,uh,Hu,ux,jr,Ho,Tg,Cy,ql,jj,Hi,qm,Hg,Jv,keyOf,Y4,hlt,a9v]
        · have:(pt x.1 p.1 (gt x.1 p.1+p.2)).length≤x.1.length+1:=by
            unfold pt
            split
            · rw [List.length_map]; (clear hlt h1 hF ul hlen hkU hk hn is e1 hU hl hs u; omega)
            · rw [List.length_append,List.length_singleton]; exact Nat.le_refl _
          dsimp only
          (clear hlt hF ul hlen hkU hk hn is e1 hU hl hs u; omega))
    have fst:∀ (l:List Pr) (x:List Pr × Slot × Slot),(l.foldl (fun (x:List Pr × Slot × Slot) p=>(pt x.1 p.1 (gt x.1 p.1+p.2),some (T.str p.1,false),some (T.int p.2,false))) x).1=a0s l x.1:=fun l=>by
      induction l with
      | nil=>intro x; rfl
      | cons p l ih=>intro x; rw [List.foldl_cons,ih]; rfl
    rw [fst]
  rw [ig loop]
  generalize (l.foldl (fun (x:List Pr × Slot × Slot) p=>(pt x.1 p.1 (gt x.1 p.1+p.2),some (T.str p.1,false),some (T.int p.2,false))) ([],none,none)).2.1=o3
  generalize (l.foldl (fun (x:List Pr × Slot × Slot) p=>(pt x.1 p.1 (gt x.1 p.1+p.2),some (T.str p.1,false),some (T.int p.2,false))) ([],none,none)).2.2=o4
  generalize hd:a0s l []=d at *
  have hso:=Z7 (d:=d) (by (clear loop hkU hk hn hd is e1 hU hl hs u; omega))
  have il:(Ci (ks d)).length<lim:=by
    rw [Ku u hn hkU]
    exact Nat.lt_of_le_of_lt (List.length_filter_le _ _) (by show _<1000000; (clear hso loop hlen hkU hk hn hd is e1 hU hl hs u; omega))
  simp [jo,jd,sIf,m6,sNew,pq,vo,sNx,qy,sGo,ur,yj,jz,jx,xu,gj,Dj,Dm,mOr,rm,mIf,mOp,mUn,bw,iz,ak,dh,au,Dl,dw,j8,hName,wz,p8,qu,ltT,leT,Ax,uh,Hu,ux,jr,Ho,Tg,Cy,ql,jj,Hi]
  generalize hF:p7 1 _ _ _ _ _ _=r
  have e:=Gb hF T.str (fun b=>pT (b,gt d b)) (fun b=>gt d b != 0) (Ci (ks d)) ⟨[some (.int n,false),some (s,false),some (.dic (dd d),false),o3,o4,none],sto⟩ [some (.int n,false),some (s,false),some (.dic (dd d),false),o3,o4,none] [some (.dic (dd d),false)] (by first | exact rfl | simp [jo,jd,sIf,m6,sNew,pq,vo,sNx,qy,sGo,ur,yj,jz,jx,xu,gj,Dj,Dm,mOr,rm,mIf,mOp,mUn,bw,iz,ak,dh,au,Dl,dw,j8,hName,wz,p8,qu,ltT,leT,Ax,uh,Hu,ux,jr,Ho,Tg,Cy,ql,jj,Hi,hso,il]) rfl rfl rfl (Nat.le_of_lt il) (fun b hb pre hp=>by
    have hb2:b∈ks d:=by
      rw [Ku u hn hkU] at hb
      have:=(List.mem_filter.mp hb).2
      simpa using this
    have hg:=Vw hb2
    match pre,hp with
    | [p0],_=>exact ⟨[some (.str b,false)],rfl,by first | exact rfl | simp [jo,jd,sIf,m6,sNew,pq,vo,sNx,qy,sGo,ur,yj,jz,jx,xu,gj,Dj,Dm,mOr,rm,mIf,mOp,mUn,bw,iz,ak,dh,au,Dl,dw,j8,hName,wz,p8,qu,ltT,leT,Ax,uh,Hu,ux,jr,Ho,Tg,Cy,ql,jj,Hi],by first | exact rfl | simp [jo,jd,sIf,m6,sNew,pq,vo,sNx,qy,sGo,ur,yj,jz,jx,xu,gj,Dj,Dm,mOr,rm,mIf,mOp,mUn,bw,iz,ak,dh,au,Dl,dw,j8,hName,wz,p8,qu,ltT,leT,Ax,uh,Hu,ux,jr,Ho,Tg,Cy,ql,jj,Hi,cu,keyOf,hg,a5y],fun _=>by first | exact rfl | simp [jo,jd,sIf,m6,sNew,pq,vo,sNx,qy,sGo,ur,yj,jz,jx,xu,gj,Dj,Dm,mOr,rm,mIf,mOp,mUn,bw,iz,ak,dh,au,Dl,dw,j8,hName,wz,p8,qu,ltT,leT,Ax,uh,Hu,ux,jr,Ho,Tg,Cy,ql,jj,Hi,cu,keyOf,hg,pT]⟩)
  subst e
  rw [Ss u hn hkU]
  have hg:∀ b,gt d b=tot l b:=fun b=>by rw [← hd,a0w]; simp [gt]
  simp [jo,jd,sIf,m6,sNew,pq,vo,sNx,qy,sGo,ur,yj,jz,jx,xu,gj,Dj,Dm,mOr,rm,mIf,mOp,mUn,bw,iz,ak,dh,au,Dl,dw,j8,hName,wz,p8,qu,ltT,leT,Ax,uh,Hu,ux,jr,Ho,Tg,Cy,ql,jj,Hi,Aw,smT,canon]
  simp only [hg]
  rfl
end
end K
end
noncomputable section
set_option linter.all false
set_option maxRecDepth 100000
set_option autoImplicit false
namespace K
open C PySem
noncomputable section
variable {U:List Str} {sto:List SO}
structure Hy (U:List Str) (s:Sm):Prop where
  nd:(ks s.2).Nodup
  sub:∀ b∈ks s.2,b∈U
theorem Vc {f:Str→Int}:ks (canon U f)=U.filter fun b=>f b != 0:=by
  unfold ks canon
  rw [List.map_map]
  exact List.map_id' _
theorem Mt {f:Str→Int} (hU:U.Nodup) {b:Str} (hb:b∈U):gt (canon U f) b=f b:=by
  unfold canon
  induction U with
  | nil=>cases hb
  | cons c U ih =>
    obtain ⟨h1,h2⟩:=List.nodup_cons.mp hU
    rw [List.filter_cons]
    rcases List.mem_cons.mp hb with rfl | hb'
    · by_cases h0:f b=0
      · rw [if_neg (by simp [h0])]
        rw [Rm,h0]
        intro z
        simp only [ks,List.map_map,List.mem_map,List.mem_filter] at z
        obtain ⟨a,⟨ha,_⟩,e⟩:=z
        exact h1 (by rw [← e]; exact ha)
      · rw [if_pos (by simp [h0])]
        simp [gt]
    · have hne:c≠b:=fun z=>h1 (by rw [z]; exact hb')
      split
      · rw [List.map_cons,gt,if_neg hne]; exact ih h2 hb'
      · exact ih h2 hb'
theorem Gw {f:Str→Int} {n:Int} (hU:U.Nodup):Hy U (n,canon U f):=⟨by
  show (ks (canon U f)).Nodup
  rw [Vc]; exact hU.filter _,fun b hb=>by
  have hb:b∈ks (canon U f):=hb
  rw [Vc] at hb; exact (List.mem_filter.mp hb).1⟩
theorem Ql {b:Str}:∀ {l:List Pr},(ks l).Nodup→tot l b=gt l b
  | [],_=>rfl
  | (k,v)::r,h=>by
    obtain ⟨h1,h2⟩:=List.nodup_cons.mp (show (k::ks r).Nodup from h)
    rw [tot,gt,Ql h2]
    by_cases e:k=b
    · subst e; rw [if_pos rfl,if_pos rfl,Rm h1]; (clear h2 h1 h; omega)
    · rw [if_neg e,if_neg e]; (clear e h2 h1 h; omega)
noncomputable def Xk (t:Int) (l:List Pr):List Pr:=l.map fun p=>(p.1,p.2 * t)
theorem a5s {t:Int} {l:List Pr}:ks (Xk t l)=ks l:=by unfold ks Xk; rw [List.map_map]; rfl
theorem Vv {t:Int} {b:Str}:∀ {l:List Pr},tot (Xk t l) b=tot l b * t
  | []=>by simp [Xk,tot]
  | (k,v)::r=>by
    have ih:=Vv (t:=t) (b:=b) (l:=r)
    simp only [Xk,List.map_cons,tot] at ih ⊢
    rw [ih,Int.add_mul]
    by_cases e:k=b
    · simp [e]
    · simp [e]
theorem Wc {s:Sm} (u:Uni U) (h:Hy U s):s.2.length≤8:=Nat.le_trans (Ve u h.nd h.sub) u.len
end
end K
end
noncomputable section
set_option linter.all false
set_option maxRecDepth 100000
set_option autoImplicit false
namespace K
open C PySem
noncomputable def U3:List Str:=["b2","x","y"]
theorem nd3:U3.Nodup:=by decide +kernel
theorem ad9:Uni U3 where
  len:=by decide
  ok:=by unfold okS; decide +kernel
  ins:=by
    intro x hx P hP
    simp only [U3,List.mem_cons,List.not_mem_nil,or_false] at hx
    unfold U3
    rcases hx with rfl | rfl | rfl
    · cases h1:P "x" <;> cases h2:P "y" <;> simp only [List.filter_cons,List.filter_nil,hP,h1,h2] <;> decide +kernel
    · cases h1:P "b2" <;> cases h2:P "y" <;> simp only [List.filter_cons,List.filter_nil,hP,h1,h2] <;> decide +kernel
    · cases h1:P "b2" <;> cases h2:P "x" <;> simp only [List.filter_cons,List.filter_nil,hP,h1,h2] <;> decide +kernel
noncomputable section
variable {U:List Str} {sto:List SO}
theorem Sy {b:Str}:∀ l r:List Pr,tot (l++r) b=tot l b+tot r b
  | [],r=>by simp [tot]
  | (k,v)::l,r=>by rw [List.cons_append,tot,tot,Sy l r]; omega
theorem Bf {f g:Str→Int} (h:∀ b∈U,f b=g b):canon U f=canon U g:=by
  unfold canon
  rw [List.filter_congr (q:=fun b=>g b != 0) fun b hb=>by rw [h b hb]]
  exact List.map_congr_left fun b hb=>by rw [h b (List.mem_filter.mp hb).1]
theorem a7y {l r:List Pr}:ks (l++r)=ks l++ks r:=by simp [ks]
theorem plus {a b:Sm} (u:Uni U) (ha:Hy U a) (hb:Hy U b):Kp [smT a,smT b] sto=some (smT (a.1+b.1,canon U fun c=>gt a.2 c+gt b.2 c),sto):=by
  have l1:=Wc u ha
  have l2:=Wc u hb
  have e:=a0b (sto:=sto) (n:=a.1+b.1) (l:=a.2++b.2) (s:=.tup ((a.2++b.2).map pT)) u (.inr rfl) (by rw [List.length_append]; (clear hb ha u; omega)) (fun c hc=>by
    rw [a7y] at hc
    rcases List.mem_append.mp hc with z | z
    · exact ha.sub c z
    · exact hb.sub c z)
  have hl:a.2.length+b.2.length<lim:=by show _<1000000; (clear e hb ha u; omega)
  rw [Bf (f:=tot (a.2++b.2)) (g:=fun c=>gt a.2 c+gt b.2 c) (fun c _=>by rw [Sy,Ql ha.nd,Ql hb.nd]),List.map_append] at e
  unfold Kp smT
  exact zrun (n:=2) (zr (zf0 (by exact zc (zo (zo rfl rfl vg) (zo rfl rfl vg) rfl) (zc (zo (zo rfl rfl vp) (zo rfl rfl vp) (if_pos (by rw [List.length_map,List.length_map]; exact hl))) rfl)) e)) rfl
theorem by_ {s:Sm} {t:Int} (u:Uni U) (hs:Hy U s) (ht:Ah t=true):Z9 [smT s,.int t] sto=some (smT (s.1 * t,canon U fun c=>gt s.2 c * t),sto):=by
  have l1:=Wc u hs
  have hl:s.2.length<lim:=by show _<1000000; (clear ht hs u; omega)
  have e:=a0b (sto:=sto) (n:=s.1 * t) (l:=Xk t s.2) (s:=.lst ((Xk t s.2).map pT)) u (.inl rfl) (by unfold Xk; rw [List.length_map]; (clear hl ht hs u; omega)) (fun c hc=>by rw [a5s] at hc; exact hs.sub c hc)
  rw [Bf (f:=tot (Xk t s.2)) (g:=fun c=>gt s.2 c * t) (fun c _=>by rw [Vv,Ql hs.nd])] at e
  have co:p7 2 [1] (wz [0,1]) (qu (mOp cu (bw 0) (au (.int 1)))) ql (iz (fun l=>some (.tup l)) (ak (bw 0) (ak (mOp Ji (bw 1) (bw 2)) dh))) ⟨[some (smT s,false),some (.int t,false)],sto⟩=some (.lst ((Xk t s.2).map pT),⟨[some (smT s,false),some (.int t,false)],sto⟩):=by
    unfold Xk
    rw [List.map_map]
    refine uz pT (fun p=>pT (p.1,p.2 * t)) s.2 (s1:=⟨[some (smT s,false),some (.int t,false)],sto⟩) _ [some (.int t,false)] (by unfold smT; exact a7s (zo rfl rfl vp) hl) rfl rfl rfl (Nat.le_of_lt hl) ?_
    intro p hp pre hpre
    obtain ⟨a,b,rfl⟩:∃ a b,pre=[a,b]:=by
      match pre,hpre with
      | [a,b],_=>exact ⟨a,b,rfl⟩
    refine ⟨[some (.str p.1,false),some (.int p.2,false)],rfl,by unfold pT; rw [J1]; rfl,rfl,?_⟩
    exact zm (zc rfl (zc (zo rfl rfl (mu2 ht)) rfl)) rfl
  have e2:mOp Ji (mOp cu (bw 0) (au (.int 0))) (bw 1) ⟨[some (smT s,false),some (.int t,false)],sto⟩=some (.int (s.1 * t),⟨[some (smT s,false),some (.int t,false)],sto⟩):=by
    unfold smT; exact zo (zo rfl rfl vg) rfl (mu2 ht)
  unfold Z9 jo
  show (match pq _ ⟨[some (smT s,false),some (.int t,false)],sto⟩ with | some (.ret t,s)=>some (t,s.sto) | some (.next,s)=>some (.non,s.sto) | _=>none)=_
  simp only [pq,dw,ak,dh,e2,co,e]
theorem b1:Ah (-1)=true:=by decide
theorem minus {a b:Sm} (u:Uni U) (nd:U.Nodup) (ha:Hy U a) (hb:Hy U b):ud [smT a,smT b] sto=some (smT (a.1+b.1 * -1,canon U fun c=>gt a.2 c+gt b.2 c * -1),sto):=by
  have e1:=by_ (sto:=sto) (t:=-1) u hb b1
  have e2:=plus (sto:=sto) u ha (Gw (n:=b.1 * -1) (f:=fun c=>gt b.2 c * -1) nd)
  dsimp only at e2
  have ec:(canon U fun c=>gt a.2 c+gt (canon U fun c=>gt b.2 c * -1) c)=canon U fun c=>gt a.2 c+gt b.2 c * -1:=Bf fun c hc=>by rw [Mt nd hc]
  rw [ec] at e2
  unfold ud jo
  show (match pq _ ⟨[some (smT a,false),some (smT b,false)],sto⟩ with | some (.ret t,s)=>some (t,s.sto) | some (.next,s)=>some (.non,s.sto) | _=>none)=_
  simp only [pq,dw,ak,dh,bw,mUn,Ho,au,List.getElem?_cons_zero,List.getElem?_cons_succ,e1,e2]
noncomputable def a1h (b:Str):Sm:=(0,[(b,1)])
noncomputable def inn (D:List (Str × Sm)) (b:Str):Sm:=match D with
  | []=>a1h b
  | (k,s)::r=>if k=b then s else inn r b
noncomputable def dS (D:List (Str × Sm)):List (C.Key × T):=D.map fun p=>(.inr p.1,smT p.2)
theorem a4t (b:Str):∀ D:List (Str × Sm),(Ac (.inr b) (dS D)).getD (smT (a1h b))=smT (inn D b)
  | []=>rfl
  | (k,s)::r=>by
    show (if (Sum.inr k:C.Key)=.inr b then some (smT s) else Ac (.inr b) (dS r)).getD _=_
    unfold inn
    by_cases e:k=b
    · rw [if_pos (by rw [e]),if_pos e]; rfl
    · rw [if_neg (fun z=>e (Sum.inr.inj z)),if_neg e]; exact a4t b r
theorem a9r {D:List (Str × Sm)} (hD:∀ p∈D,Hy U p.2) {b:Str} (hb:b∈U):Hy U (inn D b):=by
  induction D with
  | nil=>exact ⟨by simp [inn,a1h,ks],fun c hc=>by simp [inn,a1h,ks] at hc; rw [hc]; exact hb⟩
  | cons p r ih =>
    obtain ⟨k,s⟩:=p
    unfold inn
    split
    · exact hD _ List.mem_cons_self
    · exact ih fun q hq=>hD q (List.mem_cons_of_mem _ hq)
noncomputable def pN (D:List (Str × Sm)) (l:List Pr):Int:=(l.map fun p=>(inn D p.1).1 * p.2).sum
noncomputable def pF (D:List (Str × Sm)) (l:List Pr) (c:Str):Int:=(l.map fun p=>gt (inn D p.1).2 c * p.2).sum
theorem ac9 {D:List (Str × Sm)} {b:Str}:aag [.dic (dS D),.str b,.tup [.int 0,.tup [.tup [.str b,.int 1]]]]=some (smT (inn D b)):=by
  have:=a4t b D
  show some _=_
  rw [← this]; rfl
theorem a5b:∀ (D:List (Str × Sm)),Aa (D.map fun p=>.tup [.str p.1,smT p.2])=some (dS D)
  | []=>rfl
  | p::r=>by
    have:=a5b r
    exact Xg rfl this
end
end K
end
noncomputable section
set_option linter.all false
set_option maxRecDepth 100000
set_option autoImplicit false
namespace K
open C PySem
noncomputable section
variable {U:List Str} {sto:List SO} {D:List (Str × Sm)}
theorem a6m {p:Pr} {l:List Pr}:pN D (p::l)=(inn D p.1).1 * p.2+pN D l:=by simp [pN]
theorem a6z {p:Pr} {l:List Pr} {c:Str}:pF D (p::l) c=gt (inn D p.1).2 c * p.2+pF D l c:=by simp [pF]
theorem Z0 {f:Str→Int} (nd:U.Nodup) {c:Str} (hc:c∈U):tot (canon U f) c=f c:=by
  rw [Ql (Gw (n:=0) (f:=f) nd).nd,Mt nd hc]
theorem Jw {f:Str→Int}:(canon U f).length≤U.length:=by
  unfold canon
  rw [List.length_map]
  exact List.length_filter_le _ _
noncomputable abbrev a82:S:=(jd (m6 6 (iz aag (ak (bw 1) (ak (bw 4) (ak (iz (fun l=>some (.tup l)) (ak (au (.int 0)) (ak (iz (fun l=>some (.tup l)) (ak (iz (fun l=>some (.tup l)) (ak (bw 4) (ak (au (.int 1)) dh))) dh)) dh))) dh)))))
  (jd (m6 2 (mOp uh (bw 2) (mOp Ji (bw 5) (mOp cu (bw 6) (au (.int 0))))))
  (jx 3 (mOp cu (dw Z9 (ak (bw 6) (ak (bw 5) dh))) (au (.int 1))))))
noncomputable abbrev qp (s:Sm) (D:List (Str × Sm)) (n:Int) (acc:List Pr) (a b c:Slot) (sto:List SO):Sta:=⟨[some (smT s,false),some (.dic (dS D),false),some (.int n,false),some (.lst (acc.map pT),true),a,b,c],sto⟩
noncomputable def cf (U:List Str) (D:List (Str × Sm)) (p:Pr):List Pr:=canon U fun c=>gt (inn D p.1).2 c * p.2
theorem Rn {s:Sm} (u:Uni U) (hD:∀ p∈D,Hy U p.2):∀ (l acc:List Pr) (n:Int) (o4 o5 o6:Slot),(∀ p∈l,p.1∈U∧Ah p.2=true)→acc.length+8 * l.length<1000 →
    ∃ o4' o5' o6':Slot,forL (wz [4,5]) a82 (l.map pT) (qp s D n acc o4 o5 o6 sto)=some (.next,qp s D (n+pN D l) (acc++l.flatMap (cf U D)) o4' o5' o6' sto)
  | [],acc,n,o4,o5,o6,_,_=>⟨o4,o5,o6,by simp [forL,pN]⟩
  | p::l,acc,n,o4,o5,o6,h,hl=>by
    obtain ⟨hU,hb⟩:=h p List.mem_cons_self
    rw [List.length_cons] at hl
    have cl:(cf U D p).length≤8:=Nat.le_trans Jw u.len
    obtain ⟨a,b,c,ih⟩:=Rn (s:=s) u hD l (acc++cf U D p) (n+p.2 * (inn D p.1).1) (some (.str p.1,false)) (some (.int p.2,false)) (some (smT (inn D p.1),false)) (fun q hq=>h q (List.mem_cons_of_mem _ hq)) (by rw [List.length_append]; (clear hb hU h hD u; omega))
    have al:(acc.map pT).length+((cf U D p).map pT).length<lim:=by rw [List.length_map,List.length_map]; show _<1000000; (clear ih hb hU h hD u; omega)
    have i1:cu (smT ((inn D p.1).1 * p.2,cf U D p)) (.int 1)=some (.tup ((cf U D p).map pT)):=vp
    have st:a82 (qp s D n acc (some (.str p.1,false)) (some (.int p.2,false)) o6 sto)=some (.next,qp s D (n+p.2 * (inn D p.1).1) (acc++cf U D p) (some (.str p.1,false)) (some (.int p.2,false)) (some (smT (inn D p.1),false)) sto) :=
      zq (zs (zm rfl (ac9 (D:=D) (b:=p.1)))) (zq (zs (zo rfl (zo rfl (zo rfl rfl vg) (mu hb)) rfl)) (zex (zo (zf rfl (by_ u (a9r hD hU) hb)) rfl i1) rfl rfl al rfl (by rw [← List.map_append]; rfl)))
    refine ⟨a,b,c,?_⟩
    refine (a2a (t:=pT p) (J1 (x:=.str p.1) (y:=.int p.2)) st).trans ?_
    rw [ih,a6m,List.flatMap_cons,Int.mul_comm p.2,Int.add_assoc,List.append_assoc]
theorem a4s (nd:U.Nodup) {c:Str} (hc:c∈U):∀ l:List Pr,tot (l.flatMap (cf U D)) c=pF D l c
  | []=>rfl
  | p::l=>by rw [List.flatMap_cons,Sy,a4s nd hc l,a6z]; unfold cf; rw [Z0 nd hc]
theorem put {s:Sm} (u:Uni U) (nd:U.Nodup) (hs:Hy U s) (hD:∀ p∈D,Hy U p.2) (hb:∀ p∈s.2,Ah p.2=true) :
    Qj [smT s,.dic (dS D)] sto=some (smT (s.1+pN D s.2,canon U (pF D s.2)),sto):=by
  have ls:=Wc u hs
  have hl:s.2.length<lim:=by show _<1000000; (clear hb hD hs nd u; omega)
  have cl:∀ l:List Pr,(l.flatMap (cf U D)).length≤8 * l.length:=fun l=>by
    induction l with
    | nil=>exact Nat.le_refl _
    | cons p l ih =>
      have:(cf U D p).length≤8:=Nat.le_trans Jw u.len
      rw [List.flatMap_cons,List.length_append,List.length_cons]; (clear hl ls hb hD hs nd u; omega)
  obtain ⟨a,b,c,L⟩:=Rn (sto:=sto) (s:=s) u hD s.2 [] s.1 none none none (fun p hp=>⟨hs.sub _ (List.mem_map.mpr ⟨p,hp,rfl⟩),hb p hp⟩) (by rw [List.length_nil]; (clear cl hl hb hD hs nd u; omega))
  have e:=a0b (sto:=sto) (n:=s.1+pN D s.2) (l:=s.2.flatMap (cf U D)) u (.inl rfl) (by have:=cl s.2; (clear L cl hl hb hD hs nd u; omega)) (fun x hx=>by
    obtain ⟨q,hq,rfl⟩:=List.mem_map.mp hx
    obtain ⟨p,_,hp⟩:=List.mem_flatMap.mp hq
    exact (Gw (n:=0) nd).sub _ (List.mem_map.mpr ⟨q,hp,rfl⟩))
  rw [Bf fun c hc=>a4s (D:=D) nd hc s.2] at e
  have J:qu (mOp cu (bw 0) (au (.int 1))) (qp s D s.1 [] none none none sto)=some (s.2.map pT,qp s D s.1 [] none none none sto):=by
    unfold qu mOp; rw [show bw 0 (qp s D s.1 [] none none none sto)=some (smT s,qp s D s.1 [] none none none sto) from rfl]
    show (if (s.2.map pT).length<lim then some (s.2.map pT,_) else none)=_
    rw [List.length_map,if_pos hl]
  exact zrun (n:=7) (zq (zs (zo rfl rfl vg)) (zq (zn rfl) (zq (aaj J L) (zr (zf rfl e))))) rfl
theorem Zz:∀ (l d:List (Str × Sm)),((d++l).map (·.1)).Nodup→(dS l).foldl (fun d p=>Du p.1 p.2 d) (dS d)=dS (d++l)
  | [],d,_=>by simp [dS]
  | p::l,d,h=>by
    have h1:((d++[p]++l).map (·.1)).Nodup:=by simpa using h
    have ne:∀ x∈d,¬ x.1=p.1:=by
      intro x hx e
      rw [List.map_append,List.nodup_append] at h
      exact h.2.2 x.1 (List.mem_map.mpr ⟨x,hx,rfl⟩) p.1 (by simp) e
    have e:Du (.inr p.1) (smT p.2) (dS d)=dS (d++[p]):=by
      unfold Du
      rw [if_neg]
      · simp [dS]
      · simp only [dS,List.any_map,Bool.not_eq_true]
        rw [List.any_eq_false]
        intro x hx
        simp only [Function.comp,decide_eq_true_eq]
        exact fun z=>ne x hx (Sum.inr.inj z)
    show (dS l).foldl _ (Du (.inr p.1) (smT p.2) (dS d))=_
    rw [e,Zz l (d++[p]) h1,List.append_assoc]; rfl
noncomputable def seT (p:Str × Sm):T:=.tup [.str p.1,smT p.2]
theorem a66 (hl:D.length<1000) (nd:(D.map (·.1)).Nodup):Nb [.tup (D.map seT)]=some (.dic (dS D)):=by
  have h1:(D.map seT).length<lim:=by rw [List.length_map]; show _<1000000; omega
  have e:Aa (D.map seT)=some (dS D):=a5b D
  have f:=Zz D [] (by simpa using nd)
  rw [Zg h1 e]
  rw [show ([]:List (C.Key × T))=dS [] from rfl,f]; rfl
end
end K
end
noncomputable section
set_option linter.all false
set_option maxRecDepth 100000
set_option maxHeartbeats 1000000
set_option autoImplicit false
namespace K
open C PySem
theorem eqC {a b:Str} {c:Bool} (h:(PyData.canLay0 (.str a)&&PyData.canLay0 (.str b)&&((a==b)==c))=true):eqO (.str a) (.str b)=some (.bl c):=by
  simp only [Bool.and_eq_true,beq_iff_eq] at h
  rw [a5k h.1.1 h.1.2,h.2]
theorem inC {w a b:Str} {c:Bool} (h:(PyData.canLay0 (.str w)&&PyData.canLay0 (.str a)&&PyData.canLay0 (.str b)&&((a==w||b==w)==c))=true):inT (.str w) (.tup [.str a,.str b])=some (.bl c):=by
  simp only [Bool.and_eq_true,beq_iff_eq] at h
  obtain ⟨⟨⟨h1,h2⟩,h3⟩,h4⟩:=h -- here
  simp [inT,inL,eqD,dat,h1,h2,h3,PyData.depth,PyData.eqv,← h4]
theorem Cq:eqO (.str "most") (.str "most")=some (.bl true):=eqC (by decide +kernel)
theorem Ye:eqO (.str "most") (.str "at")=some (.bl false):=eqC (by decide +kernel)
theorem Wh:eqO (.str "most") (.str "not")=some (.bl false):=eqC (by decide +kernel)
theorem a7x:inT (.str "most") (.tup [.str "and",.str "or"])=some (.bl false):=inC (by decide +kernel)
theorem Dd:eqO (.str "rest") (.str "most")=some (.bl false):=eqC (by decide +kernel)
theorem Cv:eqO (.str "rest") (.str "rest")=some (.bl true):=eqC (by decide +kernel)
theorem Yk:eqO (.str "rest") (.str "at")=some (.bl false):=eqC (by decide +kernel)
theorem Wk:eqO (.str "rest") (.str "not")=some (.bl false):=eqC (by decide +kernel)
theorem a9q:inT (.str "rest") (.tup [.str "and",.str "or"])=some (.bl false):=inC (by decide +kernel)
theorem Jh:eqO (.str "at") (.str "most")=some (.bl false):=eqC (by decide +kernel)
theorem Ju:eqO (.str "at") (.str "rest")=some (.bl false):=eqC (by decide +kernel)
theorem Nf:eqO (.str "at") (.str "at")=some (.bl true):=eqC (by decide +kernel)
theorem Hl:eqO (.str "not") (.str "most")=some (.bl false):=eqC (by decide +kernel)
theorem Ht:eqO (.str "not") (.str "rest")=some (.bl false):=eqC (by decide +kernel)
theorem Jc:eqO (.str "not") (.str "at")=some (.bl false):=eqC (by decide +kernel)
theorem Fw:eqO (.str "not") (.str "not")=some (.bl true):=eqC (by decide +kernel)
theorem En:eqO (.str "and") (.str "most")=some (.bl false):=eqC (by decide +kernel)
theorem Em:eqO (.str "and") (.str "rest")=some (.bl false):=eqC (by decide +kernel)
theorem G7:eqO (.str "and") (.str "at")=some (.bl false):=eqC (by decide +kernel)
theorem Dt:eqO (.str "and") (.str "not")=some (.bl false):=eqC (by decide +kernel)
theorem Yo:eqO (.str "and") (.str "and")=some (.bl true):=eqC (by decide +kernel)
theorem a3o:eqO (.str "and") (.str "or")=some (.bl false):=eqC (by decide +kernel)
theorem aaq:inT (.str "and") (.tup [.str "and",.str "or"])=some (.bl true):=inC (by decide +kernel)
theorem Gi:eqO (.str "or") (.str "most")=some (.bl false):=eqC (by decide +kernel)
theorem Gn:eqO (.str "or") (.str "rest")=some (.bl false):=eqC (by decide +kernel)
theorem K6:eqO (.str "or") (.str "at")=some (.bl false):=eqC (by decide +kernel)
theorem G4:eqO (.str "or") (.str "not")=some (.bl false):=eqC (by decide +kernel)
theorem a2d:eqO (.str "or") (.str "and")=some (.bl false):=eqC (by decide +kernel)
theorem a73:eqO (.str "or") (.str "or")=some (.bl true):=eqC (by decide +kernel)
theorem ae4:inT (.str "or") (.tup [.str "and",.str "or"])=some (.bl true):=inC (by decide +kernel)
inductive Rem where
  | most (s:Sm) | rest (s:Sm) (m:Int) | pl (h:Str) (p:Int) | all (l:List Rem) | any (l:List Rem) | no (r:Rem)
mutual
noncomputable def j7:Rem→T
  | .most s=>.tup [.str "most",smT s]
  | .rest s m=>.tup [.str "rest",smT s,.int m]
  | .pl h p=>.tup [.str "at",.str h,.int p]
  | .all l=>.tup [.str "and",.tup (X4 l)]
  | .any l=>.tup [.str "or",.tup (X4 l)]
  | .no r=>.tup [.str "not",j7 r]
noncomputable def X4:List Rem→List T
  | []=>[]
  | r::l=>j7 r::X4 l
end
theorem Bb:∀ l:List Rem,X4 l=l.map j7
  | []=>rfl
  | r::l=>by rw [X4,Bb l]; rfl
inductive OkR (Q:Sm→Prop):Nat→Rem→Prop where
  | most {d:Nat} {s:Sm}:Hy U3 s→Q s→OkR Q d (.most s)
  | rest {d:Nat} {s:Sm} {m:Int}:Hy U3 s→Q s→2≤m→m≤12→OkR Q d (.rest s m)
  | pl {d:Nat} {h:Str} {p:Int}:okS h→h.length<100→OkR Q d (.pl h p)
  | all {d:Nat} {l:List Rem}:l.length≤6→(∀ r∈l,OkR Q d r)→OkR Q (d+1) (.all l)
  | any {d:Nat} {l:List Rem}:l.length≤6→(∀ r∈l,OkR Q d r)→OkR Q (d+1) (.any l)
  | no {d:Nat} {r:Rem}:OkR Q d r→OkR Q (d+1) (.no r)
noncomputable def eqF (b:Str) (n:Int):T:=.tup [.str "and",.tup [.tup [.str "most",.tup [.int (-n),.tup [.tup [.str b,.int 1]]]],.tup [.str "most",.tup [.int n,.tup [.tup [.str b,.int (-1)]]]]]]
noncomputable def neF (b:Str) (n:Int):T:=.tup [.str "or",.tup [.tup [.str "most",.tup [.int (1 - n),.tup [.tup [.str b,.int 1]]]],.tup [.str "most",.tup [.int (n+1),.tup [.tup [.str b,.int (-1)]]]]]]
noncomputable def ls (a b:Sm):Sm:=(a.1+b.1 * -1,canon U3 fun c=>gt a.2 c+gt b.2 c * -1)
noncomputable def rests (s:Sm) (m:Int):List T:=(List.range (m - 1).toNat).map fun (k:Nat)=>.tup [.str "rest",smT (ls s (1+(k:Int),[])),.int m]
mutual
noncomputable def pfT:Rem→T
  | .most s=>.tup [.str "most",smT s]
  | .rest s m=>.tup [.str "rest",smT s,.int m]
  | .pl h p=>eqF ("@" ++ h) p
  | .all l=>.tup [.str "and",.tup (pfs l)]
  | .any l=>.tup [.str "or",.tup (pfs l)]
  | .no r=>agT r
noncomputable def agT:Rem→T
  | .most s=>.tup [.str "most",smT (ls (1,[]) s)]
  | .rest s m=>.tup [.str "or",.tup (rests s m)]
  | .pl h p=>neF ("@" ++ h) p
  | .all l=>.tup [.str "or",.tup (ags l)]
  | .any l=>.tup [.str "and",.tup (ags l)]
  | .no r=>pfT r
noncomputable def pfs:List Rem→List T
  | []=>[]
  | r::l=>pfT r::pfs l
noncomputable def ags:List Rem→List T
  | []=>[]
  | r::l=>agT r::ags l
end
theorem Je:∀ l:List Rem,pfs l=l.map pfT
  | []=>by rw [pfs]; rfl
  | r::l=>by rw [pfs,Je l]; rfl
theorem Jp:∀ l:List Rem,ags l=l.map agT
  | []=>by rw [ags]; rfl
  | r::l=>by rw [ags,Jp l]; rfl
noncomputable section
variable {sto:List SO}
theorem a79 {n:Int}:Hy U3 (n,[]):=⟨by simp [ks],fun b hb=>by simp [ks] at hb⟩
theorem Xq {h:Str} (hl:h.length<100):ni [.str h] sto=some (.str ("@" ++ h),sto):=by
  have l1:("@" : Str).length=1:=by decide +kernel
  have:("@" : Str).length+h.length<lim:=by show _<1000000; omega
  exact zrun (n:=1) (zr (zo rfl rfl (ad this))) rfl
theorem a7h {b:Str} {n:Int}:nu [.str b,.int n] sto=some (eqF b n,sto):=(zrun (n:=2) (zr (zm (zc rfl (zc (zm (zc (zm (zc rfl (zc (zm (zc (zun rfl rfl) rfl) rfl) rfl)) rfl) (zc (zm (zc rfl (zc (zm (zc rfl (zc (zm (zc (zm (zc rfl (zc (zun rfl rfl) rfl)) rfl) rfl) rfl) rfl)) rfl) rfl)) rfl) rfl)) rfl) rfl)) rfl)) rfl)
theorem a4y {b:Str} {n:Int}:tu [.str b,.int n] sto=some (neF b n,sto):=(zrun (n:=2) (zr (zm (zc rfl (zc (zm (zc (zm (zc rfl (zc (zm (zc (zo rfl rfl rfl) rfl) rfl) rfl)) rfl) (zc (zm (zc rfl (zc (zm (zc (zo rfl rfl rfl) (zc (zm (zc (zm (zc rfl (zc (zun rfl rfl) rfl)) rfl) rfl) rfl) rfl)) rfl) rfl)) rfl) rfl)) rfl) rfl)) rfl)) rfl)
theorem acn {a b:Sm} (ha:Hy U3 a) (hb:Hy U3 b):ud [smT a,smT b] sto=some (smT (ls a b),sto):=minus ad9 nd3 ha hb
end
end K
end
noncomputable section
set_option linter.all false
set_option maxRecDepth 100000
set_option maxHeartbeats 1000000
set_option autoImplicit false
namespace K
open C PySem
noncomputable section
variable {sto:List SO}
theorem sm0 (n:Int):smT (n,[])=.tup [.int n,.tup []]:=rfl
theorem a91 {s:Sm} (hs:Hy U3 s) (k:Int):ud [smT s,.tup [.int k,.tup []]] sto=some (smT (ls s (k,[])),sto):=by
  have e:=acn (sto:=sto) hs (a79 (n:=k))
  generalize ud=F at *
  exact e
theorem acj {s:Sm} (hs:Hy U3 s):ud [.tup [.int 1,.tup []],smT s] sto=some (smT (ls (1,[]) s),sto):=by
  have e:=acn (sto:=sto) (a79 (n:=1)) hs
  generalize ud=F at *
  exact e
theorem a92 {m:Int} (h:2≤m) (h2:m≤12) {s s1:Sta} {e:M T} (he:e s=some (.int m,s1)):Dq (au (.int 1)) e s=some ((List.range (m - 1).toNat).map fun (k:Nat)=>.int (1+(k:Int)),s1):=by
  have h3:(1:Int).natAbs<lim∧m.natAbs<lim:=by
    refine ⟨by decide,?_⟩
    show _<1000000
    omega
  simp only [Dq,au,he,if_pos h3,Ft]
theorem a0k {f:Fn} {s:Sm} {m:Int} (hf:∀ k:Int,f [smT s,.tup [.int k,.tup []]] sto=some (smT (ls s (k,[])),sto)) (h:2≤m) (h2:m≤12) {o:Slot} :
    p7 1 [0] (hName 0) (Dq (au (.int 1)) (mOp cu (bw 0) (au (.int 2)))) ql (iz (fun l=>some (.tup l)) (ak (au (.str "rest")) (ak (dw f (ak (mOp cu (bw 1) (au (.int 1))) (ak (iz (fun l=>some (.tup l)) (ak (bw 0) (ak (iz (fun l=>some (.tup l)) dh) dh))) dh))) (ak (mOp cu (bw 1) (au (.int 2))) dh)))) ⟨[some (.tup [.str "rest",smT s,.int m],false),o],sto⟩
      = some (.lst (rests s m),⟨[some (.tup [.str "rest",smT s,.int m],false),o],sto⟩):=by
  unfold rests
  refine uz (fun (k:Nat)=>.int (1+(k:Int))) (fun (k:Nat)=>.tup [.str "rest",smT (ls s (1+(k:Int),[])),.int m]) (List.range (m - 1).toNat) (s1:=⟨[some (.tup [.str "rest",smT s,.int m],false),o],sto⟩) _ [some (.tup [.str "rest",smT s,.int m],false)] (a92 h h2 (zo rfl rfl Iu)) rfl rfl rfl (by rw [List.length_range]; show _≤1000000; (clear h hf; omega)) ?_
  intro k _ pre hpre
  match pre,hpre with
  | [a],_ =>
    refine ⟨[some (.int (1+(k:Int)),false)],rfl,rfl,rfl,?_⟩
    have e:=hf (1+(k:Int))
    exact zm (zc rfl (zc (zf0 (by exact zc (zo rfl rfl vp) (zc (zm (zc rfl (zc (zm rfl rfl) rfl)) rfl) rfl)) e) (zc (zo rfl rfl Iu) rfl))) rfl
theorem J7 {F:Fn} {w:Str} {l:List Rem} {g:Rem→T} {o:Slot} (hl:l.length≤6) (h:∀ r∈l,F [j7 r] sto=some (g r,sto)) :
    p7 1 [] (hName 0) (qu (mOp cu (bw 0) (au (.int 1)))) ql (dw F (ak (bw 0) dh)) ⟨[some (.tup [.str w,.tup (l.map j7)],false),o],sto⟩
      = some (.lst (l.map g),⟨[some (.tup [.str w,.tup (l.map j7)],false),o],sto⟩):=by
  have lm:l.length<lim:=by show _<1000000; omega
  refine uz j7 _ l (s1:=⟨[some (.tup [.str w,.tup (l.map j7)],false),o],sto⟩) _ [] (a7s (zo rfl rfl vp) lm) rfl rfl rfl (Nat.le_of_lt lm) ?_
  intro r hr pre hpre
  match pre,hpre with
  | [a],_ =>
    refine ⟨[some (j7 r,false)],rfl,rfl,rfl,?_⟩
    exact zf0 rfl (h r hr)
theorem forms {Q:Sm→Prop} {d:Nat} {r:Rem} (h:OkR Q d r):∀ k,d<k→iy k [j7 r] sto=some (pfT r,sto)∧gb k [j7 r] sto=some (agT r,sto):=by
  induction h with
  | @most d s h _ =>
    intro k hk
    obtain ⟨k,rfl⟩:∃ j,k=j+1:=⟨k - 1,by omega⟩
    have e:=acj (sto:=sto) h
    constructor
    · unfold iy j7 pfT
      exact (zrun (n:=2) (zq (zs (zo rfl rfl rfl)) (zq (ze (zt (zo rfl rfl Ye)) rfl) (zq (ze (zt (zo rfl rfl Wh)) rfl) (zq (ze (zt (zo rfl rfl a7x)) rfl) (zr rfl))))) rfl)
    · unfold gb j7 agT
      exact (zrun (n:=2) (zq (zs (zo rfl rfl rfl)) (zqr (zk (zt (zo rfl rfl Cq)) (zr (zm (zc rfl (zc (zf (zc rfl (zc (zo rfl rfl rfl) rfl)) e) rfl)) rfl))))) rfl)
  | @rest d s m h _ a b =>
    intro k hk
    obtain ⟨k,rfl⟩:∃ j,k=j+1:=⟨k - 1,by (clear b a h; omega)⟩
    constructor
    · unfold iy j7 pfT
      exact (zrun (n:=2) (zq (zs (zo rfl rfl rfl)) (zq (ze (zt (zo rfl rfl Yk)) rfl) (zq (ze (zt (zo rfl rfl Wk)) rfl) (zq (ze (zt (zo rfl rfl a9q)) rfl) (zr rfl))))) rfl)
    · have c1:=a0k (sto:=sto) (f:=ud) (o:=some (.str "rest",false)) (a91 h) a b
      have c2:=c1
      unfold gb j7 agT
      exact (zrun (n:=2) (zq (zs (zo rfl rfl rfl)) (zq (ze (zt (zo rfl rfl Dd)) rfl) (zqr (zk (zt (zo rfl rfl Cv)) (zr (zm (zc rfl (zc (zm (zc c1 rfl) rfl) rfl)) rfl)))))) rfl)
  | @pl d h p ho hl =>
    intro k hk
    obtain ⟨k,rfl⟩:∃ j,k=j+1:=⟨k - 1,by (clear hl ho; omega)⟩
    have l1:("@" : Str).length=1:=by decide +kernel
    have bl:("@" : Str).length+h.length<lim:=by show _<1000000; (clear hk ho; omega)
    have pb:=Xq (sto:=sto) hl
    constructor
    · unfold iy j7 pfT
      exact (zrun (n:=2) (zq (zs (zo rfl rfl rfl)) (zqr (zk (zt (zo rfl rfl Nf)) (zr (zf (zc (zf (zc (zo rfl rfl rfl) rfl) pb) (zc (zo rfl rfl rfl) rfl)) rfl))))) rfl)
    · unfold gb j7 agT
      exact (zrun (n:=2) (zq (zs (zo rfl rfl rfl)) (zq (ze (zt (zo rfl rfl Jh)) rfl) (zq (ze (zt (zo rfl rfl Ju)) rfl) (zqr (zk (zt (zo rfl rfl Nf)) (zr (zf (zc (zf (zc (zo rfl rfl rfl) rfl) pb) (zc (zo rfl rfl rfl) rfl)) rfl))))))) rfl)
  | @all d l hl _ ih =>
    intro k hk
    obtain ⟨k,rfl⟩:∃ j,k=j+1:=⟨k - 1,by (clear ih hl; omega)⟩
    have c1:=J7 (sto:=sto) (F:=iy k) (w := "and") (g:=pfT) (o:=some (.str "and",false)) hl fun r hr=>(ih r hr k (by (clear hr ih hl; omega))).1
    have c2:=J7 (sto:=sto) (F:=gb k) (w := "and") (g:=agT) (o:=some (.str "and",false)) hl fun r hr=>(ih r hr k (by (clear hr c1 ih hl; omega))).2
    constructor
    · unfold iy j7 pfT
      rw [Bb,Je]
      exact (zrun (n:=2) (zq (zs (zo rfl rfl rfl)) (zq (ze (zt (zo rfl rfl G7)) rfl) (zq (ze (zt (zo rfl rfl Dt)) rfl) (zqr (zk (zt (zo rfl rfl aaq)) (zr (zm (zc rfl (zc (zm (zc c1 rfl) rfl) rfl)) rfl))))))) rfl)
    · unfold gb j7 agT
      rw [Bb,Jp]
      exact (zrun (n:=2) (zq (zs (zo rfl rfl rfl)) (zq (ze (zt (zo rfl rfl En)) rfl) (zq (ze (zt (zo rfl rfl Em)) rfl) (zq (ze (zt (zo rfl rfl G7)) rfl) (zq (ze (zt (zo rfl rfl Dt)) rfl) (zr (zm (zc (zun rfl rfl) (zc (zm (zc c2 rfl) rfl) rfl)) rfl))))))) rfl)
  | @any d l hl _ ih =>
    intro k hk
    obtain ⟨k,rfl⟩:∃ j,k=j+1:=⟨k - 1,by (clear ih hl; omega)⟩
    have c1:=J7 (sto:=sto) (F:=iy k) (w := "or") (g:=pfT) (o:=some (.str "or",false)) hl fun r hr=>(ih r hr k (by (clear hr ih hl; omega))).1
    have c2:=J7 (sto:=sto) (F:=gb k) (w := "or") (g:=agT) (o:=some (.str "or",false)) hl fun r hr=>(ih r hr k (by (clear hr c1 ih hl; omega))).2
    constructor
    · unfold iy j7 pfT
      rw [Bb,Je]
      exact (zrun (n:=2) (zq (zs (zo rfl rfl rfl)) (zq (ze (zt (zo rfl rfl K6)) rfl) (zq (ze (zt (zo rfl rfl G4)) rfl) (zqr (zk (zt (zo rfl rfl ae4)) (zr (zm (zc rfl (zc (zm (zc c1 rfl) rfl) rfl)) rfl))))))) rfl)
    · unfold gb j7 agT
      rw [Bb,Jp]
      exact (zrun (n:=2) (zq (zs (zo rfl rfl rfl)) (zq (ze (zt (zo rfl rfl Gi)) rfl) (zq (ze (zt (zo rfl rfl Gn)) rfl) (zq (ze (zt (zo rfl rfl K6)) rfl) (zq (ze (zt (zo rfl rfl G4)) rfl) (zr (zm (zc (zun rfl rfl) (zc (zm (zc c2 rfl) rfl) rfl)) rfl))))))) rfl)
  | @no d r _ ih =>
    intro k hk
    obtain ⟨k,rfl⟩:∃ j,k=j+1:=⟨k - 1,by omega⟩
    obtain ⟨i1,i2⟩:=ih k (by omega)
    constructor
    · unfold iy j7 pfT
      exact (zrun (n:=2) (zq (zs (zo rfl rfl rfl)) (zq (ze (zt (zo rfl rfl Jc)) rfl) (zqr (zk (zt (zo rfl rfl Fw)) (zr (zf (zc (zo rfl rfl rfl) rfl) i2)))))) rfl)
    · unfold gb j7 agT
      exact (zrun (n:=2) (zq (zs (zo rfl rfl rfl)) (zq (ze (zt (zo rfl rfl Hl)) rfl) (zq (ze (zt (zo rfl rfl Ht)) rfl) (zq (ze (zt (zo rfl rfl Jc)) rfl) (zqr (zk (zt (zo rfl rfl Fw)) (zr (zf (zc (zo rfl rfl rfl) rfl) i1)))))))) rfl)
end
end K
end
noncomputable section
set_option linter.all false
set_option maxRecDepth 100000
set_option maxHeartbeats 1000000
set_option autoImplicit false
namespace K
open C PySem
noncomputable def Bd (s:Sm):Prop:=∀ p∈s.2,Ah p.2=true
noncomputable def pu (D:List (Str × Sm)) (s:Sm):Sm:=(s.1+pN D s.2,canon U3 (pF D s.2))
theorem a9d {D:List (Str × Sm)} {s:Sm}:Hy U3 (pu D s):=Gw nd3
mutual
noncomputable def bh (D:List (Str × Sm)) (h:Str) (to:Int):Rem→Rem
  | .most s=>.most (pu D s)
  | .rest s m=>.rest (pu D s) m
  | .pl k p=>if k=h then (if p=to then .all [] else .any []) else .pl k p
  | .all l=>.all (bhs D h to l)
  | .any l=>.any (bhs D h to l)
  | .no r=>.no (bh D h to r)
noncomputable def bhs (D:List (Str × Sm)) (h:Str) (to:Int):List Rem→List Rem
  | []=>[]
  | r::l=>bh D h to r::bhs D h to l
end
theorem Cw {D:List (Str × Sm)} {h:Str} {to:Int}:∀ l:List Rem,bhs D h to l=l.map (bh D h to)
  | []=>by rw [bhs]; rfl
  | r::l=>by rw [bhs,Cw l]; rfl
noncomputable def Tr (_:Sm):Prop:=True
theorem aaz {D:List (Str × Sm)} {h:Str} {to:Int} {d:Nat} {r:Rem} (o:OkR Bd d r):OkR Tr (d+1) (bh D h to r):=by
  induction o with
  | most a b=>unfold bh; exact .most a9d trivial
  | rest a b c e=>unfold bh; exact .rest a9d trivial c e
  | pl a b =>
    unfold bh
    split
    · split
      · exact .all (by simp) (fun r hr=>by cases hr)
      · exact .any (by simp) (fun r hr=>by cases hr)
    · exact .pl a b
  | all a _ ih =>
    unfold bh
    rw [Cw]
    refine .all (by rw [List.length_map]; exact a) fun r hr=>?_
    obtain ⟨x,hx,rfl⟩:=List.mem_map.mp hr
    exact ih x hx
  | any a _ ih =>
    unfold bh
    rw [Cw]
    refine .any (by rw [List.length_map]; exact a) fun r hr=>?_
    obtain ⟨x,hx,rfl⟩:=List.mem_map.mp hr
    exact ih x hx
  | no _ ih=>unfold bh; exact .no ih
theorem a4c {l:List Rem}:j7 (.all l)=.tup [.str "and",.tup (l.map j7)]:=by unfold j7; rw [Bb]
theorem a4e {l:List Rem}:j7 (.any l)=.tup [.str "or",.tup (l.map j7)]:=by unfold j7; rw [Bb]
theorem ae1 {D:List (Str × Sm)} {h:Str} {to:Int} {l:List Rem}:j7 (bh D h to (.all l))=.tup [.str "and",.tup ((l.map (bh D h to)).map j7)]:=by
  have:bh D h to (.all l)=.all (l.map (bh D h to)):=by unfold bh; rw [Cw]
  rw [this,a4c]
theorem aea {D:List (Str × Sm)} {h:Str} {to:Int} {l:List Rem}:j7 (bh D h to (.any l))=.tup [.str "or",.tup ((l.map (bh D h to)).map j7)]:=by
  have:bh D h to (.any l)=.any (l.map (bh D h to)):=by unfold bh; rw [Cw]
  rw [this,a4e]
noncomputable section
variable {sto:List SO} {D:List (Str × Sm)} {h:Str} {to:Int}
theorem Sd {k:Str} {p:Int} (ok:okS k) (oh:okS h):uq [.tup [.str "at",.str k,.int p],.str h,.int to] sto=some (j7 (bh D h to (.pl k p)),sto):=by
  have e:=Te ok oh
  unfold bh
  by_cases c:k=h
  · have c':(k==h)=true:=by rw [c]; exact beq_self_eq_true _
    rw [if_pos c]
    rw [c'] at e
    by_cases q:p=to
    · have q':(p==to)=true:=by rw [q]; exact beq_self_eq_true _
      rw [if_pos q]
      exact (zrun (n:=3) (zq (ze (zt (zo (zo rfl rfl rfl) rfl e)) rfl) (zr (zmt (zt (zo (zo rfl rfl rfl) rfl (eq_i q'))) rfl))) rfl)
    · have q':(p==to)=false:=beq_eq_false_iff_ne.mpr q
      rw [if_neg q]
      exact (zrun (n:=3) (zq (ze (zt (zo (zo rfl rfl rfl) rfl e)) rfl) (zr (zmf (zt (zo (zo rfl rfl rfl) rfl (eq_i q'))) rfl))) rfl)
  · have c':(k==h)=false:=beq_eq_false_iff_ne.mpr c
    rw [if_neg c]
    rw [c'] at e
    exact (zrun (n:=3) (zqr (zk (zt (zo (zo rfl rfl rfl) rfl e)) (zr rfl))) rfl)
theorem Mf {k:Nat} {w:Str} {l:List Rem} (hl:l.length≤6) (ih:∀ r∈l,jc k [j7 r,.str h,.dic (dS D),.int to] sto=some (j7 (bh D h to r),sto)) :
    p7 1 [1,2,3] (hName 0) (qu (mOp cu (bw 0) (au (.int 1)))) ql (dw (jc k) (ak (bw 0) (ak (bw 1) (ak (bw 2) (ak (bw 3) dh))))) ⟨[some (.tup [.str w,.tup (l.map j7)],false),some (.str h,false),some (.dic (dS D),false),some (.int to,false),some (.str w,false)],sto⟩
      = some (.lst ((l.map (bh D h to)).map j7),⟨[some (.tup [.str w,.tup (l.map j7)],false),some (.str h,false),some (.dic (dS D),false),some (.int to,false),some (.str w,false)],sto⟩):=by
  have lm:l.length<lim:=by show _<1000000; omega
  rw [List.map_map]
  refine uz j7 _ l (s1:=⟨[some (.tup [.str w,.tup (l.map j7)],false),some (.str h,false),some (.dic (dS D),false),some (.int to,false),some (.str w,false)],sto⟩) _ [some (.str h,false),some (.dic (dS D),false),some (.int to,false)] (a7s (zo rfl rfl vp) lm) rfl rfl rfl (Nat.le_of_lt lm) ?_
  intro r hr pre hpre
  match pre,hpre with
  | [a],_ =>
    refine ⟨[some (j7 r,false)],rfl,rfl,rfl,?_⟩
    exact zf0 rfl (ih r hr)
theorem T3 (oh:okS h) (hD:∀ p∈D,Hy U3 p.2) {d:Nat} {r:Rem} (o:OkR Bd d r):∀ k,d<k→jc k [j7 r,.str h,.dic (dS D),.int to] sto=some (j7 (bh D h to r),sto):=by
  induction o with
  | @most d s a b =>
    intro k hk
    obtain ⟨k,rfl⟩:∃ j,k=j+1:=⟨k - 1,by (clear b a hD oh; omega)⟩
    have e:=put (sto:=sto) ad9 nd3 a hD b
    unfold jc j7 bh
    exact (zrun (n:=5) (zq (zs (zo rfl rfl rfl)) (zqr (zk (zt (zo rfl rfl Cq)) (zr (zm (zc rfl (zc (zf (zc (zo rfl rfl rfl) rfl) e) rfl)) rfl))))) rfl)
  | @rest d s m a b c f =>
    intro k hk
    obtain ⟨k,rfl⟩:∃ j,k=j+1:=⟨k - 1,by (clear f c b a hD oh; omega)⟩
    have e:=put (sto:=sto) ad9 nd3 a hD b
    unfold jc j7 bh
    exact (zrun (n:=5) (zq (zs (zo rfl rfl rfl)) (zq (ze (zt (zo rfl rfl Dd)) rfl) (zqr (zk (zt (zo rfl rfl Cv)) (zr (zm (zc rfl (zc (zf (zc (zo rfl rfl rfl) rfl) e) (zc (zo rfl rfl rfl) rfl))) rfl)))))) rfl)
  | @pl d k p a b =>
    intro n hk
    obtain ⟨n,rfl⟩:∃ j,n=j+1:=⟨n - 1,by (clear b a hD oh; omega)⟩
    have e:=Sd (sto:=sto) (D:=D) (h:=h) (to:=to) (p:=p) a oh
    generalize j7 (bh D h to (.pl k p))=z at *
    unfold jc j7
    exact (zrun (n:=5) (zq (zs (zo rfl rfl rfl)) (zq (ze (zt (zo rfl rfl Jh)) rfl) (zq (ze (zt (zo rfl rfl Ju)) rfl) (zqr (zk (zt (zo rfl rfl Nf)) (zr (zf rfl e))))))) rfl)
  | @all d l hl _ ih =>
    intro k hk
    obtain ⟨k,rfl⟩:∃ j,k=j+1:=⟨k - 1,by (clear ih hl hD oh; omega)⟩
    have e:=Mf (sto:=sto) (w := "and") hl fun r hr=>ih r hr k (by (clear hr ih hl hD oh; omega))
    rw [a4c,ae1]
    unfold jc
    exact (zrun (n:=5) (zq (zs (zo rfl rfl rfl)) (zq (ze (zt (zo rfl rfl En)) rfl) (zq (ze (zt (zo rfl rfl Em)) rfl) (zq (ze (zt (zo rfl rfl G7)) rfl) (zq (ze (zt (zo rfl rfl Dt)) rfl) (zr (zm (zc rfl (zc (zm (zc e rfl) rfl) rfl)) rfl))))))) rfl)
  | @any d l hl _ ih =>
    intro k hk
    obtain ⟨k,rfl⟩:∃ j,k=j+1:=⟨k - 1,by (clear ih hl hD oh; omega)⟩
    have e:=Mf (sto:=sto) (w := "or") hl fun r hr=>ih r hr k (by (clear hr ih hl hD oh; omega))
    rw [a4e,aea]
    unfold jc
    exact (zrun (n:=5) (zq (zs (zo rfl rfl rfl)) (zq (ze (zt (zo rfl rfl Gi)) rfl) (zq (ze (zt (zo rfl rfl Gn)) rfl) (zq (ze (zt (zo rfl rfl K6)) rfl) (zq (ze (zt (zo rfl rfl G4)) rfl) (zr (zm (zc rfl (zc (zm (zc e rfl) rfl) rfl)) rfl))))))) rfl)
  | @no d r _ ih =>
    intro k hk
    obtain ⟨k,rfl⟩:∃ j,k=j+1:=⟨k - 1,by (clear ih hD oh; omega)⟩
    have e:=ih k (by (clear ih hD oh; omega))
    unfold jc j7 bh
    exact (zrun (n:=5) (zq (zs (zo rfl rfl rfl)) (zq (ze (zt (zo rfl rfl Hl)) rfl) (zq (ze (zt (zo rfl rfl Ht)) rfl) (zq (ze (zt (zo rfl rfl Jc)) rfl) (zqr (zk (zt (zo rfl rfl Fw)) (zr (zm (zc rfl (zc (zf (zc (zo rfl rfl rfl) rfl) e) rfl)) rfl)))))))) rfl)
end
end K
end
noncomputable section
set_option linter.all false
set_option maxRecDepth 100000
set_option maxHeartbeats 1000000
set_option autoImplicit false
namespace K
open C PySem
noncomputable section
variable {sto:List SO} {D:List (Str × Sm)} {h:Str} {to here:Int} {g:T}
theorem a9z {a b c d e:T} {r:List T}:cu (.tup (a::b::c::d::e::r)) (.int 4)=some e:=Kg (k:=4) rfl
noncomputable def stT (h:Str) (here:Int) (g:T) (D:List (Str × Sm)) (to:Int):T:=.tup [.str h,.int here,g,.tup (D.map seT),.int to]
theorem st0:cu (stT h here g D to) (.int 0)=some (.str h):=vg
theorem st1:cu (stT h here g D to) (.int 1)=some (.int here):=vp
theorem st2:cu (stT h here g D to) (.int 2)=some g:=Iu
theorem st3:cu (stT h here g D to) (.int 3)=some (.tup (D.map seT)):=Vd
theorem st4:cu (stT h here g D to) (.int 4)=some (.int to):=a9z
theorem behind (oh:okS h) (hl':D.length<1000) (hn:(D.map (·.1)).Nodup) (hD:∀ p∈D,Hy U3 p.2) {d:Nat} {r:Rem} (o:OkR Bd d r) (hd:d<40):Aj [j7 r,.str h,.tup (D.map seT),.int to] sto=some (j7 (bh D h to r),sto):=by
  have e:=T3 (sto:=sto) (to:=to) oh hD o 40 hd
  have di:=a66 hl' hn
  exact zrun (n:=4) (zr (zf0 (by exact zc rfl (zc rfl (zc (zm (zc rfl rfl) di) (zc rfl rfl)))) e)) rfl
end
end K
end
noncomputable section
set_option linter.all false
set_option maxRecDepth 100000
set_option maxHeartbeats 1000000
set_option autoImplicit false
namespace K
open C PySem
structure Bx where
  nm:Str
  ow:Str
  lo:Int
  hi:Int
  st:Int
noncomputable def bxT (b:Bx):T:=.tup [.str b.nm,.str b.ow,.int b.lo,.int b.hi,.int b.st]
noncomputable def wiT (lo hi:Int) (s:Sm):T:=.tup [.str "and",.tup [.tup [.str "most",smT (ls (lo,[]) s)],.tup [.str "most",smT (ls s (hi,[]))]]]
noncomputable def bAt:List Bx→Str→Int × Int
  | [],_=>(0,0)
  | b::r,x=>if b.nm=x then (b.lo,b.hi) else bAt r x
noncomputable def a9l (p:Int × Int):T:=.tup [.tup [.int p.1,.tup []],.tup [.int p.2,.tup []]]
noncomputable def dE (bs:List Bx):List (C.Key × T):=bs.map fun b=>(.inr b.nm,a9l (b.lo,b.hi))
noncomputable section
variable {sto:List SO} {D:List (Str × Sm)} {bs:List Bx}
theorem Ru {s:Sm} {lo hi:Int} (hs:Hy U3 s):su [smT s,.tup [.int lo,.tup []],.tup [.int hi,.tup []]] sto=some (wiT lo hi s,sto):=by
  have e1:=acn (sto:=sto) (a79 (n:=lo)) hs
  rw [sm0] at e1
  have e2:=a91 (sto:=sto) hs hi
  generalize hm:ud=F at *
  unfold su
  rw [hm]
  exact zrun (n:=3) (zr (zm (zc rfl (zc (zm (zc (zm (zc rfl (zc (zf0 (by exact zc rfl (zc rfl rfl)) e1) rfl)) rfl) (zc (zm (zc rfl (zc (zf0 (by exact zc rfl (zc rfl rfl)) e2) rfl)) rfl) rfl)) rfl) rfl)) rfl)) rfl
theorem a3z {x:Str}:∀ {bs:List Bx},x∈bs.map (·.nm)→Ac (.inr x) (dE bs)=some (a9l (bAt bs x))
  | [],h=>by simp at h
  | b::r,h=>by
    show (if (Sum.inr b.nm:C.Key)=.inr x then some _ else Ac (.inr x) (dE r))=_
    unfold bAt
    by_cases e:b.nm=x
    · rw [if_pos (by rw [e]),if_pos e]
    · rw [if_neg (fun z=>e (Sum.inr.inj z)),if_neg e]
      refine a3z ?_
      rw [List.map_cons] at h
      rcases List.mem_cons.mp h with z | z
      · exact absurd z.symm e
      · exact z
theorem a7u {d:List Bx} {b:Bx} (h:∀ x∈d,¬ x.nm=b.nm):Du (.inr b.nm) (a9l (b.lo,b.hi)) (dE d)=dE (d++[b]):=by
  unfold Du
  rw [if_neg]
  · simp [dE]
  · simp only [dE,List.any_map,Bool.not_eq_true]
    rw [List.any_eq_false]
    intro x hx
    simp only [Function.comp,decide_eq_true_eq]
    exact fun z=>h x hx (Sum.inr.inj z)
theorem a1k {i j k l m:Nat} {a b c d e:T} {s:Sta}:wz [i,j,k,l,m] (.tup [a,b,c,d,e]) s=some (j8 m e false (j8 l d false (j8 k c false (j8 j b false (j8 i a false s))))):=by simp [wz]
noncomputable abbrev sfB:S:=(qm 2 (bw 3) (iz (fun l=>some (.tup l)) (ak (iz (fun l=>some (.tup l)) (ak (bw 5) (ak (iz (fun l=>some (.tup l)) dh) dh))) (ak (iz (fun l=>some (.tup l)) (ak (bw 6) (ak (iz (fun l=>some (.tup l)) dh) dh))) dh))))
noncomputable abbrev W5s:=Slot × Slot × Slot × Slot × Slot
noncomputable abbrev qs (A Z:T) (d:List Bx) (w:W5s) (sto:List SO):Sta:=⟨[some (A,false),some (Z,false),some (.dic (dE d),true),w.1,w.2.1,w.2.2.1,w.2.2.2.1,w.2.2.2.2],sto⟩
theorem a0e {A Z:T}:∀ (l d:List Bx) (w:W5s),((d++l).map (·.nm)).Nodup→d.length+l.length≤3→∃ w':W5s,forL (wz [3,4,5,6,7]) sfB (l.map bxT) (qs A Z d w sto)=some (.next,qs A Z (d++l) w' sto)
  | [],d,w,_,_=>⟨w,by simp [forL]⟩
  | b::l,d,w,nd,hl=>by
    rw [List.length_cons] at hl
    have hne:∀ x∈d,¬ x.nm=b.nm:=by
      intro x hx z
      rw [List.map_append,List.nodup_append] at nd
      exact nd.2.2 x.nm (List.mem_map.mpr ⟨x,hx,rfl⟩) b.nm (by simp) z
    have hp:=a7u hne
    have hlt:(dE d).length<lim:=by unfold dE; rw [List.length_map]; show _<1000000; (clear hp hne nd; omega)
    obtain ⟨w',ih⟩:=a0e (A:=A) (Z:=Z) l (d++[b]) (some (.str b.nm,false),some (.str b.ow,false),some (.int b.lo,false),some (.int b.hi,false),some (.int b.st,false)) (by rw [List.append_assoc]; exact nd) (by rw [List.length_append,List.length_singleton]; (clear hlt hp hne nd; omega))
    rw [List.append_assoc] at ih
    exact ⟨w',(a2a (t:=bxT b) (s1:=qs A Z d (some (.str b.nm,false),some (.str b.ow,false),some (.int b.lo,false),some (.int b.hi,false),some (.int b.st,false)) sto) a1k (zw rfl rfl rfl rfl rfl hlt (by unfold a9l at hp; rw [hp]; rfl))).trans ih⟩
theorem Yp {P Q R:T} (nb:(bs.map (·.nm)).Nodup) (lb:bs.length≤3) (lD:D.length≤3) (hD:∀ p∈D,Hy U3 p.2∧p.1∈bs.map (·.nm)) :
    u6 [.tup [.lst (bs.map bxT),P,Q,R],.tup (D.map seT)] sto=some (.lst (D.map fun p=>wiT (bAt bs p.1).1 (bAt bs p.1).2 p.2),sto):=by
  have l1:bs.length<lim:=by show _<1000000; (clear hD lD nb; omega)
  have l2:D.length<lim:=by show _<1000000; (clear l1 hD lb nb; omega)
  generalize hA:T.tup [.lst (bs.map bxT),P,Q,R]=A
  have iA:cu A (.int 0)=some (.lst (bs.map bxT)):=by rw [← hA]; exact vg
  obtain ⟨w,L⟩:=a0e (sto:=sto) (A:=A) (Z:=.tup (D.map seT)) bs [] (none,none,none,none,none) nb (by rw [List.length_nil]; (clear iA hA l2 l1 hD lD nb; omega))
  have C1:p7 2 [2] (wz [0,1]) (qu (bw 1)) ql (dw su (ak (bw 1) (ak (mOp cu (mOp cu (bw 2) (bw 0)) (au (.int 0))) (ak (mOp cu (mOp cu (bw 2) (bw 0)) (au (.int 1))) dh)))) (qs A (.tup (D.map seT)) bs w sto)=some (.lst (D.map fun p=>wiT (bAt bs p.1).1 (bAt bs p.1).2 p.2),⟨[some (A,false),some (.tup (D.map seT),false),some (.dic (dE bs),false),w.1,w.2.1,w.2.2.1,w.2.2.2.1,w.2.2.2.2],sto⟩):=by
    refine uz seT _ D (s1:=qs A (.tup (D.map seT)) bs w sto) _ [some (.dic (dE bs),false)] (by unfold qu; rw [show bw 1 (qs A (.tup (D.map seT)) bs w sto)=some (.tup (D.map seT),qs A (.tup (D.map seT)) bs w sto) from rfl]; dsimp only; rw [List.length_map,if_pos l2]) rfl rfl rfl (Nat.le_of_lt l2) ?_
    intro p hp pre hpre
    obtain ⟨ok,hm⟩:=hD p hp
    have g:cu (.dic (dE bs)) (.str p.1)=some (a9l (bAt bs p.1)):=a3z hm
    match pre,hpre with
    | [a,b],_=>exact ⟨[some (.str p.1,false),some (smT p.2,false)],rfl,J1 (x:=.str p.1) (y:=smT p.2),rfl,zf0 (zc rfl (zc (zo (zo rfl rfl g) rfl vg) (zc (zo (zo rfl rfl g) rfl vp) rfl))) (Ru ok)⟩
  exact zrun (n:=8) (zq (zn rfl) (zq (aaj (zis (zo rfl rfl iA) l1) L) (zr C1))) rfl
end
end K
end
noncomputable section
set_option linter.all false
set_option maxRecDepth 100000
set_option maxHeartbeats 1000000
set_option autoImplicit false
namespace K
open C PySem
noncomputable abbrev Hd:=Str × Int
noncomputable def hdT (h:Hd):T:=.tup [.str h.1,.int h.2]
noncomputable def prT (bs:List Bx) (hs:List Hd) (ss:List T):T:=.tup [.lst (bs.map bxT),.lst (hs.map hdT),.lst ss,.tup []]
noncomputable section
variable {sto:List SO} {bs:List Bx} {hs:List Hd} {ss:List T} {n:Nat} {kvs:List (List C.Key × T)} {hand:Str} {Q:Sm→Prop} {d:Nat} {r:Rem}
theorem pr0:cu (prT bs hs ss) (.int 0)=some (.lst (bs.map bxT)):=vg
theorem pr1:cu (prT bs hs ss) (.int 1)=some (.lst (hs.map hdT)):=vp
theorem pr2:cu (prT bs hs ss) (.int 2)=some (.lst ss):=Iu
theorem Dw {o k:M T} {s s1 s2:Sta} {ts:List T} {q:List C.Key} {t:T} (ho:o s=some (.obj n,s1)) (hk:k s1=some (.tup ts,s2)) (hs:s2.sto[n]? = some (.dit kvs)) (hq:keysOf ts=some q) (hx:Ef q kvs=some t):jt o k s=some (t,s2):=by
  unfold jt
  rw [ho]; dsimp only; rw [hk]; dsimp only; rw [hs,hq]; dsimp only; rw [hx]
theorem ks2 {x:Str} {i:Int}:keysOf [.str x,.int i]=some [.inr x,.inl i]:=rfl
end
end K
end
noncomputable section
set_option linter.all false
set_option maxRecDepth 100000
set_option maxHeartbeats 1000000
set_option autoImplicit false
namespace K
open C PySem
noncomputable section
variable {sto:List SO} {bs:List Bx} {hs:List Hd} {ss:List T} {n:Nat} {kvs:List (List C.Key × T)} {hand:Str} {Q:Sm→Prop} {d:Nat} {r:Rem}
theorem Cr {u v:S} {s s':Sta} (h:u s=some (.next,s')):jd (sNx u) v s=v s':=by
  unfold jd sNx; rw [h]
theorem a4v {i:Nat} {e:M T} {s s1:Sta} {t:T} {xs ys:List T} (hl:xu i s=true) (h:e s=some (t,s1)) (hq:Cy t=some ys) (hi:s1.env[i]? = some (some (.lst xs,true))) (hz:xs.length+ys.length<1000000):jx i e s=some (.next,j8 i (.lst (xs++ys)) true s1):=by
  unfold jx; rw [if_pos hl,h]; dsimp only; rw [hq,hi]; dsimp only; rw [if_pos hz]
theorem a5c {i:Nat} {e:M T} {s s1:Sta} {t:T} {xs:List T} (h:e s=some (t,s1)) (hi:s1.env[i]? = some (some (.lst xs,true))) (hz:xs.length<1000000) (hl:xu i s=true):jz i e s=some (.next,j8 i (.lst (xs++[t])) true s1):=by
  unfold jz
  first
    | (rw [if_pos hl,h]; dsimp only; rw [hi]; dsimp only; rw [if_pos hz])
    | (rw [h]; dsimp only; rw [hi]; dsimp only; rw [if_pos hz])
theorem a5r {f:Fn} {a:M T} {s s1:Sta} {t u:T} {st:List SO} (h:a s=some (t,s1)) (hf:f [t] s1.sto=some (u,st)):dw f (ak a dh) s=some (u,⟨s1.env,st⟩):=by
  unfold dw ak dh; rw [h]; dsimp only; rw [hf]
end
end K
end
noncomputable section
set_option linter.all false
set_option maxRecDepth 100000
set_option maxHeartbeats 1000000
set_option autoImplicit false
namespace K
open C PySem
noncomputable section
variable {sto:List SO} {bs:List Bx} {hs:List Hd} {ss:List T} {n:Nat} {kvs:List (List C.Key × T)} {hand:Str} {Q:Sm→Prop} {d:Nat} {r:Rem}
theorem Ir {i:Nat} {e:M T} {s s1:Sta} {t:T} (h:e s=some (t,s1)):m6 i e s=some (.next,j8 i t false s1):=by unfold m6; rw [h]
theorem a6t {f:T→T→Option T} {a b:M T} {s s1 s2:Sta} {t u w:T} (h1:a s=some (t,s1)) (h2:b s1=some (u,s2)) (h3:f t u=some w):mOp f a b s=some (w,s2):=by
  unfold mOp; rw [h1]; dsimp only; rw [h2]; dsimp only; rw [h3]
theorem a9u {f:List T→Option T} {a:M T} {s s1:Sta} {t u:T} (h:a s=some (t,s1)) (hf:f [t]=some u):iz f (ak a dh) s=some (u,s1):=by
  unfold iz ak dh; rw [h]; simp [hf]
theorem a9b {e:M T} {s s1:Sta} {t:T} (h:e s=some (t,s1)):pq e s=some (.ret t,s1):=by unfold pq; rw [h]
noncomputable def Vz (bs:List Bx) (D:List (Str × Sm)) (g:Rem) (l:List ((Str × Int) × Rem)):List T:=(l.map fun p=>eqF ("@" ++ p.1.1) p.1.2)++(l.map fun p=>pfT p.2)++[pfT g]++D.map fun p=>wiT (bAt bs p.1).1 (bAt bs p.1).2 p.2
noncomputable def kT (p:(Str × Int) × Rem):T:=.tup [.str p.1.1,.int p.1.2]
structure Okk (kvs:List (List C.Key × T)) (Q:Sm→Prop) (p:(Str × Int) × Rem):Prop where
  s:okS p.1.1
  l:p.1.1.length<100
  x:Ef [.inr p.1.1,.inl p.1.2] kvs=some (j7 p.2)
  r:OkR Q 10 p.2
theorem plain_at {k:Str} {i:Int} (ok:okS k) (hl:k.length<100):iy 40 [.tup [.str "at",.str k,.int i]] sto=some (eqF ("@" ++ k) i,sto):=by
  have e:=(forms (sto:=sto) (Q:=Tr) (OkR.pl (d:=0) (p:=i) ok hl) 40 (by decide)).1
  unfold j7 pfT at e
  exact e
end
end K
end
noncomputable section
set_option linter.all false
set_option maxRecDepth 100000
set_option maxHeartbeats 1000000
set_option autoImplicit false
namespace K
open C PySem
noncomputable section
variable {sto:List SO} {bs:List Bx} {hs:List Hd} {ss:List T} {n:Nat} {kvs:List (List C.Key × T)} {hand:Str} {Q:Sm→Prop} {D:List (Str × Sm)} {here to:Int} {g:Rem}
noncomputable abbrev P0 (bs:List Bx) (hs:List Hd) (ss:List T) (n:Nat) (st:T) (ot:T) (a b:Slot) (sto:List SO):Sta:=⟨[some (prT bs hs ss,false),some (.obj n,false),some (st,false),some (ot,false),a,b],sto⟩
theorem a3k {l:List ((Str × Int) × Rem)} {st ot:T} {b:Slot} (hl:l.length≤2) (ok:∀ p∈l,Okk kvs Q p) :
    p7 2 [] (wz [0,1]) (qu (bw 4)) ql (dw (iy 40) (ak (iz (fun l=>some (.tup l)) (ak (au (.str "at")) (ak (bw 0) (ak (bw 1) dh)))) dh)) (P0 bs hs ss n st ot (some (.lst (l.map kT),false)) b sto)
      = some (.lst (l.map fun p=>eqF ("@" ++ p.1.1) p.1.2),P0 bs hs ss n st ot (some (.lst (l.map kT),false)) b sto):=by
  have l1:l.length<lim:=by show _<1000000; omega
  refine uz kT _ l (s1:=P0 bs hs ss n st ot (some (.lst (l.map kT),false)) b sto) _ [] (zis rfl l1) rfl rfl rfl (Nat.le_of_lt l1) ?_
  intro p hp pre hpre
  match pre,hpre with
  | [x,y],_ =>
    have o:=ok p hp
    refine ⟨[some (.str p.1.1,false),some (.int p.1.2,false)],rfl,J1 (x:=.str p.1.1) (y:=.int p.1.2),rfl,?_⟩
    have e:=plain_at (sto:=sto) (i:=p.1.2) o.s o.l
    exact zf0 (by exact zc rfl rfl) e
theorem Yr {l:List ((Str × Int) × Rem)} {st ot:T} {b:Slot} (hl:l.length≤2) (hs':sto[n]? = some (.dit kvs)) (ok:∀ p∈l,Okk kvs Q p) :
    p7 1 [1] (hName 0) (qu (bw 4)) ql (dw (iy 40) (ak (jt (bw 1) (bw 0)) dh)) (P0 bs hs ss n st ot (some (.lst (l.map kT),false)) b sto)
      = some (.lst (l.map fun p=>pfT p.2),P0 bs hs ss n st ot (some (.lst (l.map kT),false)) b sto):=by
  have l1:l.length<lim:=by show _<1000000; (clear ok hs'; omega)
  refine uz kT _ l (s1:=P0 bs hs ss n st ot (some (.lst (l.map kT),false)) b sto) _ [some (.obj n,false)] (zis rfl l1) rfl rfl rfl (Nat.le_of_lt l1) ?_
  intro p hp pre hpre
  match pre,hpre with
  | [x],_ =>
    have o:=ok p hp
    refine ⟨[some (kT p,false)],rfl,rfl,rfl,?_⟩
    exact a5r (s1:=⟨[some (kT p,false),some (.obj n,false)],sto⟩) (Dw (n:=n) (s1:=⟨[some (kT p,false),some (.obj n,false)],sto⟩) (ts:=[.str p.1.1,.int p.1.2]) rfl rfl hs' ks2 o.x) (forms o.r 40 (by decide)).1
theorem Ug {ot:List ((Str × Int) × Rem)} {r0:Rem} (hl:ot.length≤1) (hs':sto[n]? = some (.dit kvs)) (ok:∀ p∈(((hand,here),r0)::ot),Okk kvs Q p) (og:OkR Q 10 g)
    (nb:(bs.map (·.nm)).Nodup) (lb:bs.length≤3) (lD:D.length≤3) (hD:∀ p∈D,Hy U3 p.2∧p.1∈bs.map (·.nm)) :
    qe [prT bs hs ss,.obj n,stT hand here (j7 g) D to,.lst (ot.map kT)] sto=some (.lst (Vz bs D g (((hand,here),r0)::ot)),sto):=by
  generalize hL:(((hand,here),r0)::ot)=L at *
  have lL:L.length≤2:=by rw [← hL,List.length_cons]; (clear ok hL hD lD lb nb og hs'; omega)
  have A:m6 4 (mOp uh (iz (fun l=>some (.lst l)) (ak (iz (fun l=>some (.tup l)) (ak (mOp cu (bw 2) (au (.int 0))) (ak (mOp cu (bw 2) (au (.int 1))) dh))) dh)) (bw 3)) (P0 bs hs ss n (stT hand here (j7 g) D to) (.lst (ot.map kT)) none none sto)=some (.next,P0 bs hs ss n (stT hand here (j7 g) D to) (.lst (ot.map kT)) (some (.lst (L.map kT),false)) none sto):=by
    have bl:ot.length+1<lim:=by show _<1000000; (clear lL ok hL hD lD lb nb og hs'; omega)
    rw [← hL]
    simp [jo,jd,sIf,m6,sNew,pq,vo,sNx,qy,sGo,ur,yj,jz,jx,xu,gj,Dj,Dm,mOr,rm,mIf,mOp,mUn,bw,iz,ak,dh,au,Dl,dw,j8,hName,wz,p8,qu,ltT,leT,Ax,uh,Hu,ux,jr,Ho,Tg,Cy,ql,jj,Hi,st0,st1,kT,Nat.add_comm]
    rw [if_pos bl]
    rfl
  have B:sNew 5 (p7 2 [] (wz [0,1]) (qu (bw 4)) ql (dw (iy 40) (ak (iz (fun l=>some (.tup l)) (ak (au (.str "at")) (ak (bw 0) (ak (bw 1) dh)))) dh))) (P0 bs hs ss n (stT hand here (j7 g) D to) (.lst (ot.map kT)) (some (.lst (L.map kT),false)) none sto)=some (.next,P0 bs hs ss n (stT hand here (j7 g) D to) (.lst (ot.map kT)) (some (.lst (L.map kT),false)) (some (.lst (L.map fun p=>eqF ("@" ++ p.1.1) p.1.2),true)) sto):=by
    unfold sNew; rw [a3k lL ok]; rfl
  have C':jx 5 (p7 1 [1] (hName 0) (qu (bw 4)) ql (dw (iy 40) (ak (jt (bw 1) (bw 0)) dh))) (P0 bs hs ss n (stT hand here (j7 g) D to) (.lst (ot.map kT)) (some (.lst (L.map kT),false)) (some (.lst (L.map fun p=>eqF ("@" ++ p.1.1) p.1.2),true)) sto)=some (.next,P0 bs hs ss n (stT hand here (j7 g) D to) (.lst (ot.map kT)) (some (.lst (L.map kT),false)) (some (.lst ((L.map fun p=>eqF ("@" ++ p.1.1) p.1.2)++(L.map fun p=>pfT p.2)),true)) sto) :=
    a4v rfl (Yr lL hs' ok) rfl rfl (by simp only [List.length_map]; (clear B A ok hL hD lD lb nb og hs' hl; omega))
  have D':jz 5 (dw (iy 40) (ak (mOp cu (bw 2) (au (.int 2))) dh)) (P0 bs hs ss n (stT hand here (j7 g) D to) (.lst (ot.map kT)) (some (.lst (L.map kT),false)) (some (.lst ((L.map fun p=>eqF ("@" ++ p.1.1) p.1.2)++(L.map fun p=>pfT p.2)),true)) sto)=some (.next,P0 bs hs ss n (stT hand here (j7 g) D to) (.lst (ot.map kT)) (some (.lst (L.map kT),false)) (some (.lst ((L.map fun p=>eqF ("@" ++ p.1.1) p.1.2)++(L.map fun p=>pfT p.2)++[pfT g]),true)) sto) :=
    a5c (a5r (s1:=P0 bs hs ss n (stT hand here (j7 g) D to) (.lst (ot.map kT)) (some (.lst (L.map kT),false)) (some (.lst ((L.map fun p=>eqF ("@" ++ p.1.1) p.1.2)++(L.map fun p=>pfT p.2)),true)) sto) (a6t rfl rfl st2) (forms og 40 (by decide)).1) rfl (by simp only [List.length_append,List.length_map]; (clear C' B A ok hL hD lD lb nb og hs' hl; omega)) rfl
  have E':jx 5 (dw u6 (ak (bw 0) (ak (mOp cu (bw 2) (au (.int 3))) dh))) (P0 bs hs ss n (stT hand here (j7 g) D to) (.lst (ot.map kT)) (some (.lst (L.map kT),false)) (some (.lst ((L.map fun p=>eqF ("@" ++ p.1.1) p.1.2)++(L.map fun p=>pfT p.2)++[pfT g]),true)) sto)=some (.next,P0 bs hs ss n (stT hand here (j7 g) D to) (.lst (ot.map kT)) (some (.lst (L.map kT),false)) (some (.lst (Vz bs D g L),true)) sto):=by
    have e:=Yp (sto:=sto) (P:=.lst (hs.map hdT)) (Q:=.lst ss) (R:=.tup []) nb lb lD hD
    have al:((L.map fun p=>eqF ("@" ++ p.1.1) p.1.2)++(L.map fun p=>pfT p.2)++[pfT g]).length+(D.map fun p=>wiT (bAt bs p.1).1 (bAt bs p.1).2 p.2).length<1000000:=by simp only [List.length_append,List.length_map,List.length_singleton]; (clear e D' C' B A ok hL hD lb nb og hs' hl; omega)
    have hc:dw u6 (ak (bw 0) (ak (mOp cu (bw 2) (au (.int 3))) dh)) (P0 bs hs ss n (stT hand here (j7 g) D to) (.lst (ot.map kT)) (some (.lst (L.map kT),false)) (some (.lst ((L.map fun p=>eqF ("@" ++ p.1.1) p.1.2)++(L.map fun p=>pfT p.2)++[pfT g]),true)) sto)=some (.lst (D.map fun p=>wiT (bAt bs p.1).1 (bAt bs p.1).2 p.2),P0 bs hs ss n (stT hand here (j7 g) D to) (.lst (ot.map kT)) (some (.lst (L.map kT),false)) (some (.lst ((L.map fun p=>eqF ("@" ++ p.1.1) p.1.2)++(L.map fun p=>pfT p.2)++[pfT g]),true)) sto):=by
      have e':u6 [prT bs hs ss,.tup (D.map seT)] sto=_:=e
      generalize u6=F at *
      exact zf0 (by exact zc rfl (zc (zo rfl rfl st3) rfl)) e'
    exact a4v (i:=5) rfl hc rfl rfl al
  unfold qe jo
  show (match jd _ _ (P0 bs hs ss n (stT hand here (j7 g) D to) (.lst (ot.map kT)) none none sto) with | some (.ret t,s)=>some (t,s.sto) | some (.next,s)=>some (.non,s.sto) | _=>none)=_
  rw [Cr A,Cr B,Cr C',Cr D',Cr E']
  rfl
end
end K
end
noncomputable section
set_option linter.all false
set_option maxRecDepth 100000
set_option maxHeartbeats 1000000
set_option autoImplicit false
namespace K
open C PySem
noncomputable abbrev qF (bs:List Bx) (hs:List Hd) (ss:List T) (n:Nat) (hand:Str) (here:Int) (g:Rem) (D:List (Str × Sm)) (to:Int) (ot:List ((Str × Int) × Rem)) (a:Rem) (b:Slot) (sto:List SO):Sta:=⟨[some (prT bs hs ss,false),some (.obj n,false),some (stT hand here (j7 g) D to,false),some (.lst (ot.map kT),false),some (j7 a,false),b],sto⟩
structure Ctx (kvs:List (List C.Key × T)) (bs:List Bx) (D:List (Str × Sm)) (hand:Str) (g:Rem):Prop where
  og:OkR Bd 10 g
  oh:okS hand
  nb:(bs.map (·.nm)).Nodup
  lb:bs.length≤3
  lD:D.length≤3
  nD:(D.map (·.1)).Nodup
  hD:∀ p∈D,Hy U3 p.2∧p.1∈bs.map (·.nm)
noncomputable section
variable {sto:List SO} {bs:List Bx} {hs:List Hd} {ss:List T} {n:Nat} {kvs:List (List C.Key × T)} {hand:Str} {D:List (Str × Sm)} {here to:Int} {g:Rem}
theorem Ma {ot:List ((Str × Int) × Rem)} {r0 a:Rem} (c:Ctx kvs bs D hand g) (hl:ot.length≤1) (hs':sto[n]? = some (.dit kvs)) (ok:∀ p∈(((hand,here),r0)::ot),Okk kvs Bd p) (oa:OkR Bd 10 a) :
    n6 [prT bs hs ss,.obj n,stT hand here (j7 g) D to,.lst (ot.map kT),j7 a] sto=some (.lst (Vz bs D g (((hand,here),r0)::ot)++[agT (bh D hand to a)]),sto):=by
  have G:=Ug (hs:=hs) (ss:=ss) (to:=to) hl hs' ok c.og c.nb c.lb c.lD c.hD
  have Bh:=behind (sto:=sto) (to:=to) c.oh (by have:=c.lD; (clear G oa ok hs' hl c; omega)) c.nD (fun p hp=>(c.hD p hp).1) oa (by decide)
  have F':=(forms (sto:=sto) (aaz (D:=D) (h:=hand) (to:=to) oa) 40 (by decide)).2
  have gl:(Vz bs D g (((hand,here),r0)::ot)).length<1000000:=by
    have:=c.lD
    simp only [Vz,List.length_append,List.length_map,List.length_cons,List.length_nil]
    (clear F' Bh G oa ok hs' c; omega)
  generalize hGv:Vz bs D g (((hand,here),r0)::ot)=GV at *
  have A:sNew 5 (dw qe (ak (bw 0) (ak (bw 1) (ak (bw 2) (ak (bw 3) dh))))) (qF bs hs ss n hand here g D to ot a none sto)=some (.next,qF bs hs ss n hand here g D to ot a (some (.lst GV,true)) sto):=by
    generalize qe=F at *
    exact (yn (zf rfl G) rfl)
  have B1:dw Aj (ak (bw 4) (ak (mOp cu (bw 2) (au (.int 0))) (ak (mOp cu (bw 2) (au (.int 3))) (ak (mOp cu (bw 2) (au (.int 4))) dh)))) (qF bs hs ss n hand here g D to ot a (some (.lst GV,true)) sto)=some (j7 (bh D hand to a),qF bs hs ss n hand here g D to ot a (some (.lst GV,true)) sto):=by
    generalize Aj=F at *
    exact zf0 (by exact zc rfl (zc (zo rfl rfl st0) (zc (zo rfl rfl st3) (zc (zo rfl rfl st4) rfl)))) Bh
  have B:jz 5 (dw (gb 40) (ak (dw Aj (ak (bw 4) (ak (mOp cu (bw 2) (au (.int 0))) (ak (mOp cu (bw 2) (au (.int 3))) (ak (mOp cu (bw 2) (au (.int 4))) dh))))) dh)) (qF bs hs ss n hand here g D to ot a (some (.lst GV,true)) sto)=some (.next,qF bs hs ss n hand here g D to ot a (some (.lst (GV++[agT (bh D hand to a)]),true)) sto) :=
    a5c (a5r B1 F') rfl gl rfl
  unfold n6 jo
  show (match jd _ _ (qF bs hs ss n hand here g D to ot a none sto) with | some (.ret t,s)=>some (t,s.sto) | some (.next,s)=>some (.non,s.sto) | _=>none)=_
  rw [ig A,ig B]
  rfl
end
end K
end
noncomputable section
set_option linter.all false
set_option maxRecDepth 100000
set_option maxHeartbeats 1000000
set_option autoImplicit false
namespace K
open C PySem
theorem aeh:eqO (.str "own") (.str "start")=some (.bl false):=eqC (by decide +kernel)
theorem ae5:eqO (.str "other") (.str "start")=some (.bl false):=eqC (by decide +kernel)
theorem adi:eqO (.str "own") (.str "other")=some (.bl false):=eqC (by decide +kernel)
theorem adx:eqO (.str "other") (.str "other")=some (.bl true):=eqC (by decide +kernel)
theorem aes:eqO (.str "own") (.str "own")=some (.bl true):=eqC (by decide +kernel)
theorem aee:eqO (.str "other") (.str "own")=some (.bl false):=eqC (by decide +kernel)
noncomputable def Cm (i:Int):T:=.tup [.str "own",.int i]
noncomputable def Al (i:Int) (h:Str) (p:Int):T:=.tup [.str "other",.int i,.str h,.int p]
noncomputable section
variable {sto:List SO} {bs:List Bx} {hs:List Hd} {ss:List T} {n:Nat} {kvs:List (List C.Key × T)} {hand h2:Str} {D:List (Str × Sm)} {here to i p2:Int} {g r0 a r2:Rem}
theorem Xb {c:M Bool} {x:S} {s s1:Sta} (h:c s=some (false,s1)):sIf c x vo s=some (.next,s1):=by unfold sIf; rw [h]; rfl
end
end K
end
noncomputable section
set_option linter.all false
set_option maxRecDepth 100000
set_option maxHeartbeats 1000000
set_option autoImplicit false
namespace K
open C PySem
noncomputable abbrev qK (bs:List Bx) (hs:List Hd) (ss:List T) (n:Nat) (o:T) (a b c:Slot) (sto:List SO):Sta:=⟨[some (prT bs hs ss,false),some (.obj n,false),some (o,false),a,b,c],sto⟩
noncomputable abbrev qL (bs:List Bx) (hs:List Hd) (ss:List T) (n:Nat) (o:T) (hand:Str) (here:Int) (g:Rem) (D:List (Str × Sm)) (to:Int) (b c:Slot) (sto:List SO):Sta:=qK bs hs ss n o (some (stT hand here (j7 g) D to,false)) b c sto
noncomputable def a4w (h:Str):T:=.tup [.str "start",.str h]
noncomputable section
variable {sto:List SO} {bs:List Bx} {hs:List Hd} {ss:List T} {n:Nat} {kvs:List (List C.Key × T)} {hand h2:Str} {D:List (Str × Sm)} {here to i p2:Int} {g r0 a r2 r:Rem} {Q:Sm→Prop} {d:Nat}
theorem adu {c:M Bool} {x y:S} {s s1:Sta} (h:c s=some (true,s1)):sIf c x y s=x s1:=by unfold sIf; rw [h]
theorem a1b {u v:S} {s s':Sta} {t:T} (h:u s=some (.ret t,s')):jd u v s=some (.ret t,s'):=by unfold jd; rw [h]
theorem a2w (c:Ctx kvs bs D hand g) (hs':sto[n]? = some (.dit kvs)) (hi:cu (.lst ss) (.int i)=some (stT hand here (j7 g) D to)) (k0:Okk kvs Bd ((hand,here),r0)) (ka:Okk kvs Bd ((hand,to),a)) :
    kh [prT bs hs ss,.obj n,Cm i] sto=some (.lst (Vz bs D g [((hand,here),r0)]++[agT (bh D hand to a)]),sto):=by
  have e:=Ma (sto:=sto) (hs:=hs) (ss:=ss) (n:=n) (here:=here) (to:=to) (ot:=[]) (r0:=r0) (a:=a) c (by simp) hs' (fun p hp=>by rw [List.mem_singleton] at hp; subst hp; exact k0) ka.r
  rw [List.map_nil] at e
  have o0:cu (Cm i) (.int 0)=some (.str "own"):=vg
  have o1:cu (Cm i) (.int 1)=some (.int i):=vp
  have C1:gj (mOp eqO (mOp cu (bw 2) (au (.int 0))) (au (.str "start"))) (qK bs hs ss n (Cm i) none none none sto)=some (false,qK bs hs ss n (Cm i) none none none sto):=(zt (zo (zo rfl rfl rfl) rfl aeh))
  have S3:m6 3 (mOp cu (mOp cu (bw 0) (au (.int 2))) (mOp cu (bw 2) (au (.int 1)))) (qK bs hs ss n (Cm i) none none none sto)=some (.next,qL bs hs ss n (Cm i) hand here g D to none none sto):=(ys (zo (zo rfl rfl rfl) (zo rfl rfl rfl) hi) rfl)
  have C2:gj (mOp eqO (mOp cu (bw 2) (au (.int 0))) (au (.str "own"))) (qL bs hs ss n (Cm i) hand here g D to none none sto)=some (true,qL bs hs ss n (Cm i) hand here g D to none none sto):=(zt (zo (zo rfl rfl rfl) rfl aes))
  have G:jt (bw 1) (iz (fun l=>some (.tup l)) (ak (mOp cu (bw 3) (au (.int 0))) (ak (mOp cu (bw 3) (au (.int 4))) dh))) (qL bs hs ss n (Cm i) hand here g D to none none sto)=some (j7 a,qL bs hs ss n (Cm i) hand here g D to none none sto):=Dw (n:=n) rfl (zm (zc (zo rfl rfl st0) (zc (zo rfl rfl st4) rfl)) rfl) hs' ks2 ka.x
  have S4:m6 4 (jt (bw 1) (iz (fun l=>some (.tup l)) (ak (mOp cu (bw 3) (au (.int 0))) (ak (mOp cu (bw 3) (au (.int 4))) dh)))) (qL bs hs ss n (Cm i) hand here g D to none none sto)=some (.next,qL bs hs ss n (Cm i) hand here g D to (some (j7 a,false)) none sto):=Ir G
  have S5:pq (dw n6 (ak (bw 0) (ak (bw 1) (ak (bw 3) (ak (iz (fun l=>some (.lst l)) dh) (ak (bw 4) dh)))))) (qL bs hs ss n (Cm i) hand here g D to (some (j7 a,false)) none sto)=some (.ret (.lst (Vz bs D g [((hand,here),r0)]++[agT (bh D hand to a)])),qL bs hs ss n (Cm i) hand here g D to (some (j7 a,false)) none sto):=by
    generalize n6=F at *
    exact zr (zf0 (by exact zc rfl (zc rfl (zc rfl (zc (zm rfl rfl) (zc rfl rfl))))) e)
  unfold kh jo
  show (match jd _ _ (qK bs hs ss n (Cm i) none none none sto) with | some (.ret t,s)=>some (t,s.sto) | some (.next,s)=>some (.non,s.sto) | _=>none)=_
  rw [ig (Xb C1),ig S3,a1b ((adu C2).trans ((ig S4).trans S5))]
theorem Wg (c:Ctx kvs bs D hand g) (hs':sto[n]? = some (.dit kvs)) (hi:cu (.lst ss) (.int i)=some (stT hand here (j7 g) D to)) (k0:Okk kvs Bd ((hand,here),r0)) (k2:Okk kvs Bd ((h2,p2),r2)) :
    kh [prT bs hs ss,.obj n,Al i h2 p2] sto=some (.lst (Vz bs D g [((hand,here),r0),((h2,p2),r2)]++[agT (bh D hand to r2)]),sto):=by
  have e:=Ma (sto:=sto) (hs:=hs) (ss:=ss) (n:=n) (here:=here) (to:=to) (ot:=[((h2,p2),r2)]) (r0:=r0) (a:=r2) c (by simp) hs' (fun p hp=>by
    rcases List.mem_cons.mp hp with z | z
    · subst z; exact k0
    · rw [List.mem_singleton] at z; subst z; exact k2) k2.r
  rw [List.map_cons,List.map_nil] at e
  have o0:cu (Al i h2 p2) (.int 0)=some (.str "other"):=vg
  have o1:cu (Al i h2 p2) (.int 1)=some (.int i):=vp
  have o2:cu (Al i h2 p2) (.int 2)=some (.str h2):=Iu
  have o3:cu (Al i h2 p2) (.int 3)=some (.int p2):=Vd
  have C1:gj (mOp eqO (mOp cu (bw 2) (au (.int 0))) (au (.str "start"))) (qK bs hs ss n (Al i h2 p2) none none none sto)=some (false,qK bs hs ss n (Al i h2 p2) none none none sto):=(zt (zo (zo rfl rfl rfl) rfl ae5))
  have S3:m6 3 (mOp cu (mOp cu (bw 0) (au (.int 2))) (mOp cu (bw 2) (au (.int 1)))) (qK bs hs ss n (Al i h2 p2) none none none sto)=some (.next,qL bs hs ss n (Al i h2 p2) hand here g D to none none sto):=(ys (zo (zo rfl rfl rfl) (zo rfl rfl rfl) hi) rfl)
  have C2:gj (mOp eqO (mOp cu (bw 2) (au (.int 0))) (au (.str "own"))) (qL bs hs ss n (Al i h2 p2) hand here g D to none none sto)=some (false,qL bs hs ss n (Al i h2 p2) hand here g D to none none sto):=(zt (zo (zo rfl rfl rfl) rfl aee))
  have S4:m6 5 (iz (fun l=>some (.tup l)) (ak (mOp cu (bw 2) (au (.int 2))) (ak (mOp cu (bw 2) (au (.int 3))) dh))) (qL bs hs ss n (Al i h2 p2) hand here g D to none none sto)=some (.next,qL bs hs ss n (Al i h2 p2) hand here g D to none (some (kT ((h2,p2),r2),false)) sto):=(ys (zm (zc (zo rfl rfl rfl) (zc (zo rfl rfl rfl) rfl)) rfl) rfl)
  have G:jt (bw 1) (bw 5) (qL bs hs ss n (Al i h2 p2) hand here g D to none (some (kT ((h2,p2),r2),false)) sto)=some (j7 r2,qL bs hs ss n (Al i h2 p2) hand here g D to none (some (kT ((h2,p2),r2),false)) sto):=Dw (n:=n) (ts:=[.str h2,.int p2]) rfl rfl hs' ks2 k2.x
  have S5:pq (dw n6 (ak (bw 0) (ak (bw 1) (ak (bw 3) (ak (iz (fun l=>some (.lst l)) (ak (bw 5) dh)) (ak (jt (bw 1) (bw 5)) dh)))))) (qL bs hs ss n (Al i h2 p2) hand here g D to none (some (kT ((h2,p2),r2),false)) sto)=some (.ret (.lst (Vz bs D g [((hand,here),r0),((h2,p2),r2)]++[agT (bh D hand to r2)])),qL bs hs ss n (Al i h2 p2) hand here g D to none (some (kT ((h2,p2),r2),false)) sto):=by
    generalize n6=F at *
    exact zr (zf0 (by exact zc rfl (zc rfl (zc rfl (zc (zm (zc rfl rfl) rfl) (zc G rfl))))) e)
  unfold kh jo
  show (match jd _ _ (qK bs hs ss n (Al i h2 p2) none none none sto) with | some (.ret t,s)=>some (t,s.sto) | some (.next,s)=>some (.non,s.sto) | _=>none)=_
  rw [ig (Xb C1),ig S3,ig (Xb C2),ig S4,S5]
end
end K
end
noncomputable section
set_option linter.all false
set_option maxRecDepth 100000
set_option maxHeartbeats 1000000
set_option autoImplicit false
namespace K
open C PySem
structure Sp where
  hand:Str
  here:Int
  guard:Rem
  sets:List (Str × Sm)
  to:Int
noncomputable def spT (s:Sp):T:=stT s.hand s.here (j7 s.guard) s.sets s.to
inductive Xw (hs:List Hd) (sp:List Sp):T→Prop where
  | sta {h:Hd}:h∈hs→Xw hs sp (a4w h.1)
  | own {i:Nat}:i<sp.length→Xw hs sp (Cm (i:Int))
  | oth {i p:Nat} {h:Hd}:i<sp.length→h∈hs→(p:Int)<h.2→Xw hs sp (Al (i:Int) h.1 (p:Int))
noncomputable section
variable {sto:List SO} {bs:List Bx} {hs:List Hd} {sp:List Sp}
theorem step_at {i:Nat} (hi:i<sp.length):cu (.lst (sp.map spT)) (.int (i:Int))=some (spT sp[i]):=V9 spT sp hi
noncomputable abbrev otB:S:=(sIf (gj (mOp neO (bw 3) (mOp cu (mOp cu (mOp cu (bw 0) (au (.int 2))) (bw 1)) (au (.int 0)))))
  (jx 2 (p7 1 [1,3] (hName 0) (p8 (bw 4)) ql (iz (fun l=>some (.tup l)) (ak (au (.str "other")) (ak (bw 1) (ak (bw 2) (ak (bw 0) dh)))))))
  vo)
noncomputable abbrev qo (P:T) (i:Nat) (acc:List T) (a b:Slot) (sto:List SO):Sta:=⟨[some (P,false),some (.int (i:Int),false),some (.lst acc,true),a,b],sto⟩
theorem a0g {i:Nat} (hi:i<sp.length) (os:∀ s∈sp,okS s.hand) (oh:∀ h∈hs,okS h.1∧h.2≤4∧0≤h.2):∀ (l:List Hd) (acc:List T) (a b:Slot),(∀ h∈l,h∈hs)→(∀ t∈acc,Xw hs sp t)→acc.length+4 * l.length≤16 →
    ∃ (acc':List T) (a' b':Slot),forL (wz [3,4]) otB (l.map hdT) (qo (prT bs hs (sp.map spT)) i acc a b sto)=some (.next,qo (prT bs hs (sp.map spT)) i acc' a' b' sto)∧(∀ t∈acc',Xw hs sp t)∧acc'.length≤16
  | [],acc,a,b,_,h1,h2=>⟨acc,a,b,by simp [forL],h1,by simpa using h2⟩
  | h::l,acc,a,b,hl,h1,h2=>by
    have hh:=hl h List.mem_cons_self
    obtain ⟨x1,x2,x3⟩:=oh h hh
    rw [List.length_cons] at h2
    obtain ⟨m,hm⟩:∃ m:Nat,h.2=(m:Int):=⟨h.2.toNat,by (clear x2 x1 hh h2 h1 hl oh os hi; omega)⟩
    have ne:=Te x1 (os sp[i] (List.getElem_mem hi))
    have C1:gj (mOp neO (bw 3) (mOp cu (mOp cu (mOp cu (bw 0) (au (.int 2))) (bw 1)) (au (.int 0)))) (qo (prT bs hs (sp.map spT)) i acc (some (.str h.1,false)) (some (.int h.2,false)) sto)=some (!(h.1==sp[i].hand),qo (prT bs hs (sp.map spT)) i acc (some (.str h.1,false)) (some (.int h.2,false)) sto):=zt (zo rfl (zo (zo (zo rfl rfl pr2) rfl (step_at hi)) rfl vg) ne)
    have key:∃ acc1:List T,otB (qo (prT bs hs (sp.map spT)) i acc (some (.str h.1,false)) (some (.int h.2,false)) sto)=some (.next,qo (prT bs hs (sp.map spT)) i acc1 (some (.str h.1,false)) (some (.int h.2,false)) sto)∧(∀ t∈acc1,Xw hs sp t)∧acc1.length≤acc.length+4:=by
      cases hq:(h.1==sp[i].hand) with
      | true =>
        rw [hq] at C1
        exact ⟨acc,ze C1 rfl,h1,by (clear hq C1 ne hm x3 x2 x1 hh h2 h1 hl oh os; omega)⟩
      | false =>
        rw [hq] at C1
        have lm:m<lim:=by show _<1000000; (clear hq C1 ne x3 x1 hh h2 h1 hl oh os; omega)
        have co:p7 1 [1,3] (hName 0) (p8 (bw 4)) ql (iz (fun l=>some (.tup l)) (ak (au (.str "other")) (ak (bw 1) (ak (bw 2) (ak (bw 0) dh))))) (qo (prT bs hs (sp.map spT)) i acc (some (.str h.1,false)) (some (.int h.2,false)) sto)=some (.lst ((List.range m).map fun (k:Nat)=>Al (i:Int) h.1 (k:Int)),qo (prT bs hs (sp.map spT)) i acc (some (.str h.1,false)) (some (.int h.2,false)) sto):=by
          refine uz (fun (k:Nat)=>T.int (k:Int)) _ (List.range m) (s1:=qo (prT bs hs (sp.map spT)) i acc (some (.str h.1,false)) (some (.int h.2,false)) sto) _ [some (.int (i:Int),false),some (.str h.1,false)] (by rw [hm]; exact zrg rfl lm) rfl rfl rfl (by rw [List.length_range]; exact Nat.le_of_lt lm) ?_
          intro k hk pre hpre
          match pre,hpre with
          | [x],_=>exact ⟨[some (.int (k:Int),false)],rfl,rfl,rfl,rfl⟩
        refine ⟨acc++(List.range m).map fun (k:Nat)=>Al (i:Int) h.1 (k:Int),zk C1 (zex co rfl rfl (by rw [List.length_map,List.length_range]; show _<1000000; (clear co lm hq C1 ne x3 x1 hh h1 hl oh os; omega)) rfl rfl),fun t ht=>?_,by rw [List.length_append,List.length_map,List.length_range]; (clear co lm hq C1 ne x3 x1 hh h2 h1 hl oh os; omega)⟩
        rcases List.mem_append.mp ht with z | z
        · exact h1 t z
        · obtain ⟨k,hk,rfl⟩:=List.mem_map.mp z
          exact .oth hi hh (by have:=List.mem_range.mp hk; (clear z ht hk co lm hq C1 ne x3 x2 x1 hh h2 h1 hl oh os; omega))
    obtain ⟨acc1,st,k1,k2⟩:=key
    obtain ⟨acc',a',b',ih,e1,e2⟩:=a0g hi os oh l acc1 (some (.str h.1,false)) (some (.int h.2,false)) (fun y hy=>hl y (List.mem_cons_of_mem _ hy)) k1 (by (clear k1 st C1 ne hm x3 x2 x1 hh h1 hl oh os; omega))
    exact ⟨acc',a',b',(a2a (t:=hdT h) (J1 (x:=.str h.1) (y:=.int h.2)) st).trans ih,e1,e2⟩
theorem Zd {i:Nat} (hi:i<sp.length) (os:∀ s∈sp,okS s.hand) (oh:∀ h∈hs,okS h.1∧h.2≤4∧0≤h.2) (lh:hs.length≤4) :
    ∃ l:List T,wg [prT bs hs (sp.map spT),.int (i:Int)] sto=some (.lst l,sto)∧(∀ t∈l,Xw hs sp t)∧l.length≤16:=by
  have l1:hs.length<lim:=by show _<1000000; (clear oh os hi; omega)
  obtain ⟨acc,a,b,L,e1,e2⟩:=a0g (sto:=sto) (bs:=bs) hi os oh hs [] none none (fun h hh=>hh) (fun t ht=>by cases ht) (by rw [List.length_nil]; (clear l1 oh os hi; omega))
  exact ⟨acc,zrun (n:=5) (zq (zn rfl) (zq (aaj (zis (zo rfl rfl pr1) l1) L) (zr rfl))) rfl,e1,e2⟩
end
end K
end
noncomputable section
set_option linter.all false
set_option maxRecDepth 100000
set_option maxHeartbeats 1000000
set_option autoImplicit false
namespace K
open C PySem
noncomputable section
variable {sto:List SO} {bs:List Bx} {hs:List Hd} {sp:List Sp}
noncomputable abbrev qd (P:T) (n:Nat) (acc:List T) (a:Slot) (sto:List SO):Sta:=⟨[some (P,false),some (.lst (rangeT n),false),some (.lst acc,true),a],sto⟩
noncomputable abbrev duB:S:=(jx 2 (dw wg (ak (bw 0) (ak (bw 3) dh))))
theorem a06 (os:∀ s∈sp,okS s.hand) (oh:∀ h∈hs,okS h.1∧h.2≤4∧0≤h.2) (lh:hs.length≤4):∀ (l:List Nat) (acc:List T) (a:Slot),(∀ k∈l,k<sp.length)→(∀ t∈acc,Xw hs sp t)→acc.length+16 * l.length≤100 →
    ∃ (m:List T) (a':Slot),forL (hName 3) duB (l.map fun (k:Nat)=>T.int (k:Int)) (qd (prT bs hs (sp.map spT)) sp.length acc a sto)=some (.next,qd (prT bs hs (sp.map spT)) sp.length (acc++m) a' sto)∧(∀ t∈acc++m,Xw hs sp t)∧(acc++m).length≤100
  | [],acc,a,_,h1,h2=>⟨[],a,by simp [forL],by simpa using h1,by simpa using h2⟩
  | k::l,acc,a,hl,h1,h2=>by
    rw [List.length_cons] at h2
    obtain ⟨m,m1,m2,m3⟩:=Zd (sto:=sto) (bs:=bs) (hl k List.mem_cons_self) os oh lh
    obtain ⟨m',a',ih,e1,e2⟩:=a06 os oh lh l (acc++m) (some (.int (k:Int),false)) (fun y hy=>hl y (List.mem_cons_of_mem _ hy)) (fun t ht=>by
      rcases List.mem_append.mp ht with z | z
      · exact h1 t z
      · exact m2 t z) (by rw [List.length_append]; (clear m2 m1 h1 hl lh oh os; omega))
    rw [List.append_assoc] at ih e1 e2
    have st:duB (qd (prT bs hs (sp.map spT)) sp.length acc (some (.int (k:Int),false)) sto)=some (.next,qd (prT bs hs (sp.map spT)) sp.length (acc++m) (some (.int (k:Int),false)) sto):=zex (zf rfl m1) rfl rfl (show acc.length+m.length<1000000 by (clear e2 e1 ih m2 m1 h1 hl lh oh os; omega)) rfl rfl
    exact ⟨m++m',a',(a2a (t:=.int (k:Int)) rfl st).trans ih,e1,e2⟩
theorem a0x (ls:sp.length≤5) (l0:0<sp.length) (os:∀ s∈sp,okS s.hand) (oh:∀ h∈hs,okS h.1∧h.2≤4∧0≤h.2) (lh:hs.length≤4) :
    ∃ l:List T,vf [prT bs hs (sp.map spT)] sto=some (.lst l,sto)∧(∀ t∈l,Xw hs sp t)∧l.length≤100∧Cm 0∈l:=by
  have l1:hs.length<lim:=by show _<1000000; (clear oh os l0 ls; omega)
  have l2:sp.length<lim:=by show _<1000000; (clear l1 lh oh os l0; omega)
  obtain ⟨acc,hacc⟩:∃ acc:List T,acc=(hs.map fun h=>a4w h.1)++(List.range sp.length).map fun (k:Nat)=>Cm (k:Int):=⟨_,rfl⟩
  obtain ⟨m,a,L,e1,e2⟩:=a06 (sto:=sto) (bs:=bs) os oh lh (List.range sp.length) acc none (fun k hk=>List.mem_range.mp hk) (fun t ht=>by
    rw [hacc] at ht
    rcases List.mem_append.mp ht with z | z
    · obtain ⟨h,hh,rfl⟩:=List.mem_map.mp z
      exact .sta hh
    · obtain ⟨k,hk,rfl⟩:=List.mem_map.mp z
      exact .own (List.mem_range.mp hk)) (by rw [hacc,List.length_append,List.length_map,List.length_map,List.length_range]; (clear hacc l2 l1 oh os l0; omega))
  have B1:p7 2 [] (wz [0,1]) (qu (mOp cu (bw 0) (au (.int 1)))) ql (iz (fun l=>some (.tup l)) (ak (au (.str "start")) (ak (bw 0) dh))) ⟨[some (prT bs hs (sp.map spT),false),some (.lst (rangeT sp.length),false),none,none],sto⟩=some (.lst (hs.map fun h=>a4w h.1),⟨[some (prT bs hs (sp.map spT),false),some (.lst (rangeT sp.length),false),none,none],sto⟩):=by
    refine uz hdT _ hs (s1:=⟨[some (prT bs hs (sp.map spT),false),some (.lst (rangeT sp.length),false),none,none],sto⟩) _ [] (zis (zo rfl rfl pr1) l1) rfl rfl rfl (Nat.le_of_lt l1) ?_
    intro h hh pre hpre
    match pre,hpre with
    | [a,b],_=>exact ⟨[some (.str h.1,false),some (.int h.2,false)],rfl,J1 (x:=.str h.1) (y:=.int h.2),rfl,rfl⟩
  have C1:p7 1 [] (hName 0) (qu (bw 1)) ql (iz (fun l=>some (.tup l)) (ak (au (.str "own")) (ak (bw 0) dh))) (qd (prT bs hs (sp.map spT)) sp.length (hs.map fun h=>a4w h.1) none sto)=some (.lst ((List.range sp.length).map fun (k:Nat)=>Cm (k:Int)),qd (prT bs hs (sp.map spT)) sp.length (hs.map fun h=>a4w h.1) none sto):=by
    refine uz (fun (k:Nat)=>T.int (k:Int)) _ (List.range sp.length) (s1:=qd (prT bs hs (sp.map spT)) sp.length (hs.map fun h=>a4w h.1) none sto) _ [] (zis rfl (by rw [List.length_range]; exact l2)) rfl rfl rfl (by rw [List.length_range]; exact Nat.le_of_lt l2) ?_
    intro k hk pre hpre
    match pre,hpre with
    | [x],_=>exact ⟨[some (.int (k:Int),false)],rfl,rfl,rfl,rfl⟩
  have lr:N8 [.int (sp.length:Int)]=some (.lst (rangeT sp.length)):=by
    have h0:¬ ((sp.length:Int)<0):=by (clear C1 B1 e2 e1 L hacc l2 l1 lh oh os l0 ls; omega)
    simp [N8,l2]
    rfl
  refine ⟨acc++m,?_,e1,e2,List.mem_append_left _ (by rw [hacc]; exact List.mem_append_right _ (List.mem_map.mpr ⟨0,List.mem_range.mpr l0,rfl⟩))⟩
  exact zrun (n:=4) (zq (zs (zm (zc (zm (zc (zo rfl rfl pr2) rfl) a7o) rfl) lr)) (zq (zn B1) (zq (zex C1 rfl rfl (show (hs.map fun h=>a4w h.1).length+((List.range sp.length).map fun (k:Nat)=>Cm (k:Int)).length<1000000 by rw [List.length_map,List.length_map,List.length_range]; (clear lr C1 B1 e2 e1 L hacc l2 l1 oh os l0; omega)) rfl (by rw [← hacc])) (zq (aaj (zis (s1:=qd (prT bs hs (sp.map spT)) sp.length acc none sto) rfl (by rw [List.length_range]; exact l2)) L) (zr rfl))))) rfl
end
end K
end
noncomputable section
set_option linter.all false
set_option maxRecDepth 100000
set_option maxHeartbeats 1000000
set_option autoImplicit false
namespace K
open C PySem
noncomputable def bk (B:List (C.Key × T)) (x:Str):Int:=match Ac (.inr x) B with
  | some (.int v)=>v
  | _=>0
noncomputable def Bk (N:List Str) (B:List (C.Key × T)):Prop:=∀ x∈N,∃ v:Int,Ac (.inr x) B=some (.int v)
noncomputable def val (B:List (C.Key × T)) (s:Sm):Int:=s.1+(s.2.map fun p=>p.2 * bk B p.1).sum
noncomputable def okN (N:List Str) (s:Sm):Prop:=s.2.length≤8∧∀ p∈s.2,p.1∈N∧Ah p.2=true
noncomputable def Cn (k:Int) (s:Sm):Prop:=∃ f:Str→Int,s.2=canon U3 f∧f "b2" = 0∧-k≤f "x" ∧ f "x" ≤ k∧-k≤f "y" ∧ f "y" ≤ k
theorem sbx:¬ (Str.ofString "b2" = Str.ofString "x"):=by decide +kernel
theorem sby:¬ (Str.ofString "b2" = Str.ofString "y"):=by decide +kernel
theorem sxy:¬ (Str.ofString "x" = Str.ofString "y"):=by decide +kernel
theorem syx:¬ (Str.ofString "y" = Str.ofString "x"):=by decide +kernel
noncomputable section
variable {B:List (C.Key × T)} {sto:List SO} {N:List Str}
theorem Bk.at (h:Bk N B) {x:Str} (hx:x∈N):Ac (.inr x) B=some (.int (bk B x)):=by
  obtain ⟨v,e⟩:=h x hx
  rw [e]; unfold bk; rw [e]
theorem csum {f G:Str→Int}:((canon U3 f).map fun p=>p.2 * G p.1).sum=f "b2" * G "b2" + f "x" * G "x" + f "y" * G "y" := by
  unfold canon U3
  by_cases h1:f "b2" = 0 <;> by_cases h2:f "x" = 0 <;> by_cases h3:f "y" = 0 <;> simp [h1,h2,h3] <;> (clear h3 h2 h1; omega)
theorem cgt {f:Str→Int} {c:Str} (h:c∈U3):gt (canon U3 f) c=f c:=Mt nd3 h
theorem u3b:(Str.ofString "b2")∈U3:=by decide +kernel
theorem u3x:(Str.ofString "x")∈U3:=by decide +kernel
theorem u3y:(Str.ofString "y")∈U3:=by decide +kernel
theorem Cn.ok {k:Int} {s:Sm} (h:Cn k s):Hy U3 s:=by
  obtain ⟨n,l⟩:=s
  obtain ⟨f,e,_⟩:=h
  dsimp only at e
  subst e
  exact Gw nd3
theorem a3d {c:Str} (h:c∈U3):c=Str.ofString "b2" ∨ c=Str.ofString "x" ∨ c=Str.ofString "y" := by
  simpa [U3] using h
theorem Cn.okN {k:Int} {s:Sm} (hk:k≤1000) (hx:(Str.ofString "x")∈N) (hy:(Str.ofString "y")∈N) (h:Cn k s):okN N s:=by
  obtain ⟨f,e,e0,h1,h2,h3,h4⟩:=h
  refine ⟨?_,fun p hp=>?_⟩
  · rw [e]
    have:=Jw (U:=U3) (f:=f)
    have h3:U3.length=3:=rfl
    (clear h4 h2 h1 e0 e hy hx hk; omega)
  · rw [e] at hp
    unfold canon at hp
    obtain ⟨c,hc,rfl⟩:=List.mem_map.mp hp
    obtain ⟨hu,hz⟩:=List.mem_filter.mp hc
    rcases a3d hu with rfl | rfl | rfl
    · rw [e0] at hz; cases hz
    · exact ⟨hx,by simp only [Ah,decide_eq_true_eq]; (clear hz hu hp hc h4 h3 e0 e hy hx; omega)⟩
    · exact ⟨hy,by simp only [Ah,decide_eq_true_eq]; (clear hz hu hp hc h2 h1 e0 e hy hx; omega)⟩
theorem Yg {n:Int} {f:Str→Int}:val B (n,canon U3 f)=n+(f "b2" * bk B "b2" + f "x" * bk B "x" + f "y" * bk B "y"):=by
  unfold val; dsimp only; rw [csum (G:=bk B)]
theorem adg {a b:Sm} {f g:Str→Int} (ha:a.2=canon U3 f) (hb:b.2=canon U3 g):(ls a b).2=canon U3 fun c=>f c - g c:=by
  unfold ls
  refine Bf fun c hc=>?_
  rw [ha,hb,cgt hc,cgt hc]; (clear hc hb ha; omega)
theorem Cn.ls {i j:Int} {a b:Sm} (ha:Cn i a) (hb:Cn j b):Cn (i+j) (ls a b):=by
  obtain ⟨f,e,e0,h1,h2,h3,h4⟩:=ha
  obtain ⟨g,q,q0,g1,g2,g3,g4⟩:=hb
  exact ⟨_,adg e q,by (clear g4 g3 g2 g1 q h4 h3 h2 h1 e; omega),by (clear g4 g3 g1 q0 q h4 h3 h2 e0 e; omega),by (clear g4 g3 g2 q0 q h4 h3 h1 e0 e; omega),by (clear g3 g2 g1 q0 q h4 h2 h1 e0 e; omega),by (clear g4 g2 g1 q0 q h3 h2 h1 e0 e; omega)⟩
theorem cn0 {n:Int}:Cn 0 (n,[]):=⟨fun _=>0,rfl,rfl,Int.le_refl _,Int.le_refl _,Int.le_refl _,Int.le_refl _⟩
theorem Cn.up {i j:Int} {s:Sm} (h:Cn i s) (hl:i≤j):Cn j s:=by
  obtain ⟨f,e,e0,h1,h2,h3,h4⟩:=h
  exact ⟨f,e,e0,by (clear h4 h3 h2 e0 e; omega),by (clear h4 h3 h1 e0 e; omega),by (clear h4 h2 h1 e0 e; omega),by (clear h3 h2 h1 e0 e; omega)⟩
theorem Vq {i j:Int} {a b:Sm} (ha:Cn i a) (hb:Cn j b):val B (ls a b)=val B a - val B b:=by
  obtain ⟨f,e,_⟩:=ha
  obtain ⟨g,q,_⟩:=hb
  obtain ⟨n,l⟩:=a
  obtain ⟨m,r⟩:=b
  dsimp only at e q
  have h:ls (n,l) (m,r)=(n+m * -1,canon U3 fun c=>f c - g c):=Prod.ext rfl (adg e q)
  rw [h,e,q,Yg,Yg,Yg]
  simp only [Int.sub_mul]
  (clear h q e; omega)
theorem aa4 {s:Sm} (hs:okN N s):s.2.length<lim:=by
  have:=hs.1; show _<1000000; omega
theorem Uz {s:Sm} (hs:okN N s) (hB:Bk N B):p7 2 [1] (wz [0,1]) (qu (mOp cu (bw 0) (au (.int 1)))) ql (mOp Ji (bw 1) (mOp cu (bw 2) (bw 0))) ⟨[some (smT s,false),some (.dic B,false)],sto⟩
    = some (.lst (s.2.map fun p=>.int (p.2 * bk B p.1)),⟨[some (smT s,false),some (.dic B,false)],sto⟩):=by
  have hl:=aa4 hs
  refine uz pT _ s.2 (s1:=⟨[some (smT s,false),some (.dic B,false)],sto⟩) _ [some (.dic B,false)] (a7s (zo rfl rfl vp) hl) rfl rfl rfl (Nat.le_of_lt hl) ?_
  intro p hp pre hpre
  match pre,hpre with
  | [a,b],_ =>
    obtain ⟨h1,h2⟩:=hs.2 p hp
    refine ⟨[some (.str p.1,false),some (.int p.2,false)],rfl,by unfold pT; rw [J1]; rfl,rfl,?_⟩
    exact zo rfl (zo rfl rfl (show cu (.dic B) (.str p.1)=some (.int (bk B p.1)) from hB.at h1)) (mu h2)
theorem a3b {s:Sm}:cu (smT s) (.int 0)=some (.int s.1):=vg
theorem value {s:Sm} (hs:okN N s) (hB:Bk N B):Eb [smT s,.dic B] sto=some (.int (val B s),sto):=by
  exact zrun (n:=2) (zr (zo (zo rfl rfl a3b) (zm (zc (Uz hs hB) rfl) adv) rfl)) rfl
theorem K5 {s:Sm} (hs:okN N s) (hB:Bk N B):mq [smT s,.dic B] sto=some (.int (val B s),sto):=by
  exact zrun (n:=2) (zr (zo (zo rfl rfl a3b) (zm (zc (Uz hs hB) rfl) adv) rfl)) rfl
end
end K
end
noncomputable section
set_option linter.all false
set_option maxRecDepth 100000
set_option maxHeartbeats 1000000
set_option autoImplicit false
namespace K
open C PySem
mutual
noncomputable def tv (B:List (C.Key × T)):Rem→Bool
  | .most s=>decide (val B s≤0)
  | .rest s m=>val B s%m==0
  | .pl h p=>bk B ("@" ++ h)==p
  | .all l=>Ld B l
  | .any l=>Rq B l
  | .no r=>!tv B r
noncomputable def Ld (B:List (C.Key × T)):List Rem→Bool
  | []=>true
  | r::l=>tv B r&&Ld B l
noncomputable def Rq (B:List (C.Key × T)):List Rem→Bool
  | []=>false
  | r::l=>tv B r||Rq B l
end
inductive Dr (N:List Str) (k:Int):Nat→Rem→Prop where
  | most {d:Nat} {s:Sm}:Cn k s→Dr N k d (.most s)
  | rest {d:Nat} {s:Sm} {m:Int}:Cn k s→2≤m→m≤12→Dr N k d (.rest s m)
  | pl {d:Nat} {h:Str} {p:Int}:("@" ++ h:Str)∈N→okS h→h.length<100→Dr N k d (.pl h p)
  | all {d:Nat} {l:List Rem}:l.length≤6→(∀ r∈l,Dr N k d r)→Dr N k (d+1) (.all l)
  | any {d:Nat} {l:List Rem}:l.length≤6→(∀ r∈l,Dr N k d r)→Dr N k (d+1) (.any l)
  | no {d:Nat} {r:Rem}:Dr N k d r→Dr N k (d+1) (.no r)
inductive Fm (N:List Str):Nat→Rem→Prop where
  | most {d:Nat} {s:Sm}:okN N s→Fm N d (.most s)
  | rest {d:Nat} {s:Sm} {m:Int}:okN N s→2≤m→m≤12→Fm N d (.rest s m)
  | all {d:Nat} {l:List Rem}:l.length≤100→(∀ r∈l,Fm N d r)→Fm N (d+1) (.all l)
  | any {d:Nat} {l:List Rem}:l.length≤100→(∀ r∈l,Fm N d r)→Fm N (d+1) (.any l)
noncomputable section
variable {B:List (C.Key × T)} {sto:List SO} {N:List Str}
theorem Fm.up {d:Nat} {r:Rem} (h:Fm N d r):Fm N (d+1) r:=by
  induction h with
  | most a=>exact .most a
  | rest a b c=>exact .rest a b c
  | all a _ ih=>exact .all a ih
  | any a _ ih=>exact .any a ih
theorem Ao:∀ l:List Rem,Ld B l=l.all (tv B)
  | []=>by rw [Ld]; rfl
  | r::l=>by rw [Ld,Ao l,List.all_cons]
theorem yx:∀ l:List Rem,Rq B l=l.any (tv B)
  | []=>by rw [Rq]; rfl
  | r::l=>by rw [Rq,yx l,List.any_cons]
theorem adw:∀ l:List Rem,(!(l.any fun r=>tv B r==false))=l.all (tv B)
  | []=>rfl
  | r::l=>by rw [List.any_cons,List.all_cons,← adw l]; cases tv B r <;> simp
theorem Vb {a b:Bool}:eqO (.bl a) (.bl b)=some (.bl (a==b)):=by simp [eqO,eqT,eqD,dat,PyData.depth,PyData.eqv]
theorem Uw {k:Nat} {w:Bool} {ms g:T}:∀ (l:List Rem) (o:Slot),(∀ r∈l,uf k [j7 r,.dic B,g] sto=some (.bl (tv B r),sto)) →
    ∃ o',forL (hName 4) (sIf (gj (mOp eqO (dw (uf k) (ak (bw 4) (ak (bw 2) (ak (bw 3) dh)))) (bw 0))) (pq (au (.bl true))) vo) (l.map j7) ⟨[some (.bl w,false),some (ms,false),some (.dic B,false),some (g,false),o],sto⟩
      = some (if (l.any fun r=>tv B r==w) then .ret (.bl true) else .next,⟨[some (.bl w,false),some (ms,false),some (.dic B,false),some (g,false),o'],sto⟩)
  | [],o,_=>⟨o,by simp [forL]⟩
  | r::l,o,h=>by
    have h1:=h r List.mem_cons_self
    obtain ⟨o',e⟩:=Uw (w:=w) (ms:=ms) l (some (j7 r,false)) fun q hq=>h q (List.mem_cons_of_mem _ hq)
    cases hw:(tv B r==w) with
    | true =>
      refine ⟨some (j7 r,false),?_⟩
      rw [List.map_cons,forL]
      simp [jo,jd,sIf,m6,sNew,pq,vo,sNx,qy,sGo,ur,yj,jz,jx,xu,gj,Dj,Dm,mOr,rm,mIf,mOp,mUn,bw,iz,ak,dh,au,Dl,dw,j8,hName,wz,p8,qu,ltT,leT,Ax,uh,Hu,ux,jr,Ho,Tg,Cy,ql,jj,Hi,h1,Vb,hw]
    | false =>
      refine ⟨o',?_⟩
      rw [List.map_cons,forL]
      simp [jo,jd,sIf,m6,sNew,pq,vo,sNx,qy,sGo,ur,yj,jz,jx,xu,gj,Dj,Dm,mOr,rm,mIf,mOp,mUn,bw,iz,ak,dh,au,Dl,dw,j8,hName,wz,p8,qu,ltT,leT,Ax,uh,Hu,ux,jr,Ho,Tg,Cy,ql,jj,Hi,h1,Vb,hw]
      simpa using e
theorem a4r {k:Nat} {w:Bool} {g:T} {l:List Rem} (hl:l.length≤100) (h:∀ r∈l,uf k [j7 r,.dic B,g] sto=some (.bl (tv B r),sto)) :
    zj (k+1) [.bl w,.tup (l.map j7),.dic B,g] sto=some (.bl (l.any fun r=>tv B r==w),sto):=by
  have lm:l.length<lim:=by show _<1000000; omega
  obtain ⟨o',e⟩:=Uw (w:=w) (ms:=.tup (l.map j7)) l none h
  unfold zj
  cases hw:l.any fun r=>tv B r==w
  all_goals
    rw [hw] at e
    simp only [if_true,if_false,Bool.false_eq_true] at e
    simp [jo,jd,yj,qu,bw,lm,e,pq,au]
theorem holds (hB:Bk N B) {g:T} {d:Nat} {r:Rem} (h:Fm N d r):∀ k,2 * d<k→uf k [j7 r,.dic B,g] sto=some (.bl (tv B r),sto):=by
  induction h with
  | most h =>
    intro k hk
    obtain ⟨k,rfl⟩:∃ j,k=j+1:=⟨k - 1,by (clear h hB; omega)⟩
    unfold uf j7 tv
    exact (zrun (n:=4) (zq (zs (zo rfl rfl rfl)) (zqr (zk (zt (zo rfl rfl Cq)) (zr (zo (zf (zc (zo rfl rfl rfl) rfl) (value h hB)) rfl rfl))))) rfl)
  | @rest d s m h a b =>
    intro k hk
    obtain ⟨k,rfl⟩:∃ j,k=j+1:=⟨k - 1,by (clear b a h hB; omega)⟩
    have hm:0<m:=by (clear hk b h hB; omega)
    unfold uf j7 tv
    exact (zrun (n:=4) (zq (zs (zo rfl rfl rfl)) (zq (ze (zt (zo rfl rfl Dd)) rfl) (zqr (zk (zt (zo rfl rfl Cv)) (zr (zo (zo (zf (zc (zo rfl rfl rfl) rfl) (value h hB)) (zo rfl rfl rfl) (md hm)) rfl rfl)))))) rfl)
  | @all d l hl _ ih =>
    intro k hk
    obtain ⟨k,rfl⟩:∃ j,k=j+2:=⟨k - 2,by (clear ih hl hB; omega)⟩
    have e:=a4r (w:=false) (g:=g) hl fun r hr=>ih r hr k (by (clear hr ih hl hB; omega))
    unfold uf tv
    rw [a4c,Ao,← adw]
    exact (zrun (n:=4) (zq (zs (zo rfl rfl rfl)) (zq (ze (zt (zo rfl rfl En)) rfl) (zq (ze (zt (zo rfl rfl Em)) rfl) (zq (ze (zt (zo rfl rfl G7)) rfl) (zq (ze (zt (zo rfl rfl Dt)) rfl) (zqr (zk (zt (zo rfl rfl Yo)) (zr (zb (a9a (zt (zf (zc rfl (zc (zo rfl rfl rfl) rfl)) e)))))))))))) rfl)
  | @any d l hl _ ih =>
    intro k hk
    obtain ⟨k,rfl⟩:∃ j,k=j+2:=⟨k - 2,by (clear ih hl hB; omega)⟩
    have e:=a4r (w:=true) (g:=g) hl fun r hr=>ih r hr k (by (clear hr ih hl hB; omega))
    unfold uf tv
    rw [a4e,yx]
    have e2:zj (k+1) [.bl true,.tup (l.map j7),.dic B,g] sto=some (.bl (l.any (tv B)),sto):=by
      rw [e]
      simp only [beq_true]
    exact (zrun (n:=4) (zq (zs (zo rfl rfl rfl)) (zq (ze (zt (zo rfl rfl Gi)) rfl) (zq (ze (zt (zo rfl rfl Gn)) rfl) (zq (ze (zt (zo rfl rfl K6)) rfl) (zq (ze (zt (zo rfl rfl G4)) rfl) (zq (ze (zt (zo rfl rfl a2d)) rfl) (zr (zf (zc rfl (zc (zo rfl rfl rfl) rfl)) e2)))))))) rfl)
theorem Q6 (hB:Bk N B) {d:Nat} {r:Rem} (h:Fm N d r) (hd:d≤17):m5 [j7 r,.dic B] sto=some (.bl (tv B r),sto):=by
  exact zrun (n:=2) (zr (zf rfl (holds (g:=.dic []) hB h 40 (by (clear h hB; omega))))) rfl
theorem a0z {k:Nat} {w:Str} {l:List Rem} (hl:l.length≤6) (h:∀ r∈l,g8 k [j7 r,.dic B] sto=some (.bl (tv B r),sto)) {o:Slot} :
    p7 1 [1] (hName 0) (qu (mOp cu (bw 0) (au (.int 1)))) ql (dw (g8 k) (ak (bw 0) (ak (bw 1) dh))) ⟨[some (.tup [.str w,.tup (l.map j7)],false),some (.dic B,false),o],sto⟩
      = some (.lst (l.map fun r=>.bl (tv B r)),⟨[some (.tup [.str w,.tup (l.map j7)],false),some (.dic B,false),o],sto⟩):=by
  have lm:l.length<lim:=by show _<1000000; omega
  refine uz j7 _ l (s1:=⟨[some (.tup [.str w,.tup (l.map j7)],false),some (.dic B,false),o],sto⟩) _ [some (.dic B,false)] (a7s (zo rfl rfl vp) lm) rfl rfl rfl (Nat.le_of_lt lm) ?_
  intro r hr pre hpre
  match pre,hpre with
  | [a],_=>exact ⟨[some (j7 r,false)],rfl,rfl,rfl,zf0 rfl (h r hr)⟩
theorem Ek (hB:Bk N B) (hx:(Str.ofString "x")∈N) (hy:(Str.ofString "y")∈N) {kk:Int} (hkk:kk≤1000) {d:Nat} {r:Rem} (h:Dr N kk d r):∀ k,d<k→g8 k [j7 r,.dic B] sto=some (.bl (tv B r),sto):=by
  induction h with
  | most h =>
    intro k hk
    obtain ⟨k,rfl⟩:∃ j,k=j+1:=⟨k - 1,by (clear h hkk hy hx hB; omega)⟩
    unfold g8 j7 tv
    exact (zrun (n:=3) (zqr (zk (zt (zo (zo rfl rfl rfl) rfl Cq)) (zr (zo (zf (zc (zo rfl rfl rfl) rfl) (K5 (h.okN hkk hx hy) hB)) rfl rfl)))) rfl)
  | @rest d s m h a b =>
    intro k hk
    obtain ⟨k,rfl⟩:∃ j,k=j+1:=⟨k - 1,by (clear b a h hkk hy hx hB; omega)⟩
    have hm:0<m:=by (clear hk b h hkk hy hx hB; omega)
    unfold g8 j7 tv
    exact (zrun (n:=3) (zq (ze (zt (zo (zo rfl rfl rfl) rfl Dd)) rfl) (zqr (zk (zt (zo (zo rfl rfl rfl) rfl Cv)) (zr (zo (zo (zf (zc (zo rfl rfl rfl) rfl) (K5 (h.okN hkk hx hy) hB)) (zo rfl rfl rfl) (md hm)) rfl rfl))))) rfl)
  | @pl d h p a b c =>
    intro k hk
    obtain ⟨k,rfl⟩:∃ j,k=j+1:=⟨k - 1,by (clear c b a hkk hy hx hB; omega)⟩
    have hi:=hB.at a
    have hl:(Str.ofString "@").length+h.length<lim:=by
      have:(Str.ofString "@").length=1:=by decide
      show _<1000000; (clear hi hk b a hkk hy hx hB; omega)
    unfold g8 j7 tv
    have id:cu (.dic B) (.str ("@" ++ h))=some (.int (bk B ("@" ++ h))):=hi
    exact (zrun (n:=3) (zq (ze (zt (zo (zo rfl rfl rfl) rfl Jh)) rfl) (zq (ze (zt (zo (zo rfl rfl rfl) rfl Ju)) rfl) (zqr (zk (zt (zo (zo rfl rfl rfl) rfl Nf)) (zr (zo (zo rfl (zo rfl (zo rfl rfl rfl) (ad hl)) id) (zo rfl rfl rfl) rfl)))))) rfl)
  | @all d l hl _ ih =>
    intro k hk
    obtain ⟨k,rfl⟩:∃ j,k=j+1:=⟨k - 1,by (clear ih hl hkk hy hx hB; omega)⟩
    have e:=a0z (B:=B) (sto:=sto) (k:=k) (w := "and") (o:=none) hl fun r hr=>ih r hr k (by (clear hr ih hl hkk hy hx hB; omega))
    unfold g8 tv
    rw [a4c,Ao]
    exact (zrun (n:=3) (zq (ze (zt (zo (zo rfl rfl rfl) rfl En)) rfl) (zq (ze (zt (zo (zo rfl rfl rfl) rfl Em)) rfl) (zq (ze (zt (zo (zo rfl rfl rfl) rfl G7)) rfl) (zq (ze (zt (zo (zo rfl rfl rfl) rfl Dt)) rfl) (zq (zs e) (zr (zo (zm (zc (zm rfl a1o.1) (zc (zm rfl a1o.2) rfl)) rfl) (zm (zc (zo (zo rfl rfl rfl) rfl a3o) rfl) rfl) rfl))))))) rfl)
  | @any d l hl _ ih =>
    intro k hk
    obtain ⟨k,rfl⟩:∃ j,k=j+1:=⟨k - 1,by (clear ih hl hkk hy hx hB; omega)⟩
    have e:=a0z (B:=B) (sto:=sto) (k:=k) (w := "or") (o:=none) hl fun r hr=>ih r hr k (by (clear hr ih hl hkk hy hx hB; omega))
    unfold g8 tv
    rw [a4e,yx]
    exact (zrun (n:=3) (zq (ze (zt (zo (zo rfl rfl rfl) rfl Gi)) rfl) (zq (ze (zt (zo (zo rfl rfl rfl) rfl Gn)) rfl) (zq (ze (zt (zo (zo rfl rfl rfl) rfl K6)) rfl) (zq (ze (zt (zo (zo rfl rfl rfl) rfl G4)) rfl) (zq (zs e) (zr (zo (zm (zc (zm rfl a1o.1) (zc (zm rfl a1o.2) rfl)) rfl) (zm (zc (zo (zo rfl rfl rfl) rfl a73) rfl) rfl) rfl))))))) rfl)
  | @no d r _ ih =>
    intro k hk
    obtain ⟨k,rfl⟩:∃ j,k=j+1:=⟨k - 1,by (clear ih hkk hy hx hB; omega)⟩
    unfold g8 j7 tv
    have ih:=ih k (by (clear ih hkk hy hx hB; omega))
    exact (zrun (n:=3) (zq (ze (zt (zo (zo rfl rfl rfl) rfl Hl)) rfl) (zq (ze (zt (zo (zo rfl rfl rfl) rfl Ht)) rfl) (zq (ze (zt (zo (zo rfl rfl rfl) rfl Jc)) rfl) (zqr (zk (zt (zo (zo rfl rfl rfl) rfl Fw)) (zr (zb (a9a (zt (zf (zc (zo rfl rfl rfl) rfl) ih)))))))))) rfl)
end
end K
end
noncomputable section
set_option linter.all false
set_option maxRecDepth 100000
set_option maxHeartbeats 1000000
set_option autoImplicit false
namespace K
open C PySem
noncomputable def few (s:Sm) (m:Int):List Rem:=(List.range (m - 1).toNat).map fun (k:Nat)=>.rest (ls s (1+(k:Int),[])) m
mutual
noncomputable def fo:Rem→Bool→Rem
  | .most s,g=>.most (if g then ls (1,[]) s else s)
  | .rest s m,g=>if g then .any (few s m) else .rest s m
  | .pl h p,g=>if g then .any [.most (1 - p,[("@" ++ h,1)]),.most (p+1,[("@" ++ h,-1)])] else .all [.most (-p,[("@" ++ h,1)]),.most (p,[("@" ++ h,-1)])]
  | .no r,g=>fo r (!g)
  | .all l,g=>if g then .any (fos l g) else .all (fos l g)
  | .any l,g=>if g then .all (fos l g) else .any (fos l g)
noncomputable def fos:List Rem→Bool→List Rem
  | [],_=>[]
  | r::l,g=>fo r g::fos l g
end
theorem Cu:∀ (l:List Rem) (g:Bool),fos l g=l.map fun r=>fo r g
  | [],_=>by rw [fos]; rfl
  | r::l,g=>by rw [fos,Cu l g]; rfl
noncomputable section
variable {B:List (C.Key × T)} {sto:List SO} {N:List Str} {k:Int}
theorem Dr.up {d:Nat} {r:Rem} (h:Dr N k d r):Dr N k (d+1) r:=by
  induction h with
  | most a=>exact .most a
  | rest a b c=>exact .rest a b c
  | pl a b c=>exact .pl a b c
  | all a _ ih=>exact .all a ih
  | any a _ ih=>exact .any a ih
  | no _ ih=>exact .no ih
theorem Cn.bd {s:Sm} (hk:k≤1000) (h:Cn k s):Bd s:=fun p hp=>((h.okN (N:=["x","y"]) hk (by decide +kernel) (by decide +kernel)).2 p hp).2
theorem Dr.ok {d:Nat} {r:Rem} (hk:k≤1000) (h:Dr N k d r):OkR Bd d r:=by
  induction h with
  | most a=>exact .most a.ok (a.bd hk)
  | rest a b c=>exact .rest a.ok (a.bd hk) b c
  | pl a b c=>exact .pl b c
  | all a _ ih=>exact .all a ih
  | any a _ ih=>exact .any a ih
  | no _ ih=>exact .no ih
theorem aao {Q:Sm→Prop} {d:Nat} {r:Rem} (h:OkR Q d r):j7 (fo r false)=pfT r∧j7 (fo r true)=agT r:=by
  induction h with
  | most a b=>exact ⟨by unfold fo pfT; rfl,by unfold fo agT; rfl⟩
  | @rest d s m a b c e =>
    refine ⟨by unfold fo pfT; rfl,?_⟩
    unfold fo agT rests
    rw [if_pos rfl,a4e]
    unfold few
    rw [List.map_map]
    rfl
  | @pl d h p a b=>exact ⟨by unfold fo pfT eqF; rfl,by unfold fo agT neF; rfl⟩
  | @all d l hl _ ih =>
    refine ⟨?_,?_⟩
    · unfold fo pfT
      rw [if_neg (by simp),a4c,Cu,Je,List.map_map]
      exact congrArg (fun x=>T.tup [.str "and",.tup x]) (List.map_congr_left fun r hr=>(ih r hr).1)
    · unfold fo agT
      rw [if_pos rfl,a4e,Cu,Jp,List.map_map]
      exact congrArg (fun x=>T.tup [.str "or",.tup x]) (List.map_congr_left fun r hr=>(ih r hr).2)
  | @any d l hl _ ih =>
    refine ⟨?_,?_⟩
    · unfold fo pfT
      rw [if_neg (by simp),a4e,Cu,Je,List.map_map]
      exact congrArg (fun x=>T.tup [.str "or",.tup x]) (List.map_congr_left fun r hr=>(ih r hr).1)
    · unfold fo agT
      rw [if_pos rfl,a4c,Cu,Jp,List.map_map]
      exact congrArg (fun x=>T.tup [.str "and",.tup x]) (List.map_congr_left fun r hr=>(ih r hr).2)
  | no _ ih=>exact ⟨by unfold fo pfT; exact ih.2,by unfold fo agT; exact ih.1⟩
theorem Vn {x:Str} {n v:Int} (hx:x∈N) (h:Ah v=true):okN N (n,[(x,v)]):=⟨by show 1≤8; decide,fun p hp=>by
  rw [List.mem_singleton] at hp; subst hp; exact ⟨hx,h⟩⟩
theorem fm2 {d:Nat} {a b:Sm} (ha:okN N a) (hb:okN N b):∀ r∈[Rem.most a,Rem.most b],Fm N d r:=fun r hr=>by
  rcases List.mem_cons.mp hr with rfl | hr
  · exact .most ha
  · rw [List.mem_singleton] at hr; subst hr; exact .most hb
theorem a2b (hk:k≤990) (hx:(Str.ofString "x")∈N) (hy:(Str.ofString "y")∈N) {d:Nat} {r:Rem} (h:Dr N k d r):∀ g,Fm N (d+1) (fo r g):=by
  have b1:Ah 1=true:=by decide
  have b2:Ah (-1)=true:=by decide
  induction h with
  | @most d s a =>
    intro g
    unfold fo
    refine .most ?_
    cases g
    · exact a.okN (by (clear a b2 b1 hy hx; omega)) hx hy
    · exact (cn0.ls a).okN (by (clear a b2 b1 hy hx; omega)) hx hy
  | @rest d s m a b c =>
    intro g
    unfold fo
    cases g
    · exact .rest (a.okN (by (clear c b a b2 b1 hy hx; omega)) hx hy) b c
    · refine .any ?_ fun r hr=>?_
      · unfold few; rw [List.length_map,List.length_range]; (clear b a b2 b1 hy hx hk; omega)
      · unfold few at hr
        obtain ⟨j,hj,rfl⟩:=List.mem_map.mp hr
        exact .rest ((a.ls cn0).okN (by (clear hr hj c b a b2 b1 hy hx; omega)) hx hy) b c
  | @pl d h p a b c =>
    intro g
    unfold fo
    cases g
    · exact .all (by show 2≤100; decide) (fm2 (Vn a b1) (Vn a b2))
    · exact .any (by show 2≤100; decide) (fm2 (Vn a b1) (Vn a b2))
  | @all d l hl _ ih =>
    intro g
    unfold fo
    rw [Cu]
    have q:∀ r∈l.map fun r=>fo r g,Fm N (d+1) r:=fun r hr=>by
      obtain ⟨u,hu,rfl⟩:=List.mem_map.mp hr
      exact ih u hu g
    cases g
    · exact .all (by rw [List.length_map]; (clear q ih b2 b1 hy hx hk; omega)) q
    · exact .any (by rw [List.length_map]; (clear q ih b2 b1 hy hx hk; omega)) q
  | @any d l hl _ ih =>
    intro g
    unfold fo
    rw [Cu]
    have q:∀ r∈l.map fun r=>fo r g,Fm N (d+1) r:=fun r hr=>by
      obtain ⟨u,hu,rfl⟩:=List.mem_map.mp hr
      exact ih u hu g
    cases g
    · exact .any (by rw [List.length_map]; (clear q ih b2 b1 hy hx hk; omega)) q
    · exact .all (by rw [List.length_map]; (clear q ih b2 b1 hy hx hk; omega)) q
  | @no d r _ ih =>
    intro g
    unfold fo
    exact (ih (!g)).up
end
end K
end
noncomputable section
set_option linter.all false
set_option maxRecDepth 100000
set_option maxHeartbeats 1000000
set_option autoImplicit false
namespace K
open C PySem
noncomputable section
variable {B:List (C.Key × T)} {N:List Str} {k:Int}
theorem a9s {s:Sm} {m:Int} (c:Cn k s) (a:2≤m):(few s m).any (tv B)=!(val B s%m==0):=by
  unfold few
  rw [List.any_map]
  have h0:=Int.emod_nonneg (val B s) (show m≠0 by omega)
  have h1:=Int.emod_lt_of_pos (val B s) (show 0<m by (clear h0 c; omega))
  have step:∀ j:Nat,(j:Int)<m - 1→((tv B ∘ fun (k:Nat)=>Rem.rest (ls s (1+(k:Int),[])) m) j=true↔val B s%m=1+(j:Int)):=fun j hj=>by
    rw [Function.comp_apply]
    unfold tv
    rw [Vq c cn0]
    have z:val B (1+(j:Int),[])=1+(j:Int):=by simp [val]
    rw [z]
    simp only [beq_iff_eq]
    have:(val B s - (1+(j:Int)))%m=0↔(val B s)%m=(1+(j:Int))%m:=(Int.emod_eq_emod_iff_emod_sub_eq_zero).symm
    rw [this,Int.emod_eq_of_lt (a:=1+(j:Int)) (by (clear this z hj h1 h0 a c; omega)) (by (clear this z h1 h0 a c; omega))]
  by_cases hz:val B s%m=0
  · have:(val B s%m==0)=true:=by simpa using hz
    rw [this,Bool.not_true,List.any_eq_false]
    intro j hj hq
    have hj':=List.mem_range.mp hj -- here
    have:=(step j (by (clear hq hj this hz step h1 h0 a c; omega))).mp hq
    (clear hj' hq hj step h1 h0 a c; omega)
  · have:(val B s%m==0)=false:=by simpa using hz
    rw [this,Bool.not_false,List.any_eq_true]
    exact ⟨(val B s%m - 1).toNat,List.mem_range.mpr (by (clear this step a c; omega)),(step _ (by (clear this step a c; omega))).mpr (by (clear this step h1 a c; omega))⟩
theorem val_one {x:Str} {n v:Int}:val B (n,[(x,v)])=n+v * bk B x:=by simp [val]
theorem Ks {g:Bool}:∀ {l:List Rem},(∀ r∈l,tv B (fo r g)=(tv B r ^^ g))→((l.map fun r=>fo r g).all (tv B)=l.all fun r=>tv B r ^^ g)∧((l.map fun r=>fo r g).any (tv B)=l.any fun r=>tv B r ^^ g)
  | [],_=>⟨rfl,rfl⟩
  | r::l,h=>by
    obtain ⟨a,b⟩:=Ks fun q hq=>h q (List.mem_cons_of_mem _ hq)
    rw [List.map_cons,List.all_cons,List.any_cons,List.all_cons,List.any_cons,a,b,h r List.mem_cons_self]
    exact ⟨rfl,rfl⟩
theorem U4:∀ {l:List Rem},(l.any fun r=>tv B r ^^ true)=(l.all (tv B) ^^ true)∧(l.all fun r=>tv B r ^^ true)=(l.any (tv B) ^^ true)
  | []=>⟨rfl,rfl⟩
  | r::l=>by
    obtain ⟨a,b⟩:=U4 (l:=l)
    rw [List.any_cons,List.all_cons,List.any_cons,List.all_cons,a,b]
    cases tv B r <;> cases l.all (tv B) <;> cases l.any (tv B) <;> exact ⟨rfl,rfl⟩
theorem a1z {d:Nat} {r:Rem} (h:Dr N k d r):∀ g,tv B (fo r g)=(tv B r ^^ g):=by
  induction h with
  | @most d s c =>
    intro g
    unfold fo tv
    cases g
    · simp
    · have z:val B (1,[])=1:=rfl
      simp only [if_true,Vq cn0 c,Bool.bne_true,z]
      by_cases h:val B s≤0
      · simp only [h,decide_true,Bool.not_true,decide_eq_false_iff_not]; (clear z c; omega)
      · simp only [h,decide_false,Bool.not_false,decide_eq_true_eq]; (clear z c; omega)
  | @rest d s m c a b =>
    intro g
    unfold fo
    cases g
    · simp
    · simp only [if_true]
      unfold tv
      rw [yx,a9s c a]; simp
  | @pl d h p a b c =>
    intro g
    unfold fo
    cases g
    · simp only [Bool.false_eq_true,if_false,tv,Ld,val_one,Bool.bne_false,Bool.and_true]
      by_cases e:bk B ("@" ++ h)=p
      · simp only [e]; simp; (clear e c b a; omega)
      · have:(bk B ("@" ++ h)==p)=false:=by simpa using e
        rw [this]
        simp only [Bool.and_eq_false_iff,decide_eq_false_iff_not]
        (clear this c b a; omega)
    · simp only [if_true,tv,Rq,val_one,Bool.bne_true,Bool.or_false]
      by_cases e:bk B ("@" ++ h)=p
      · simp only [e]; simp; (clear e c b a; omega)
      · have:(bk B ("@" ++ h)==p)=false:=by simpa using e
        rw [this]
        simp only [Bool.not_false,Bool.or_eq_true,decide_eq_true_eq]
        (clear this c b a; omega)
  | @all d l hl _ ih =>
    intro g
    unfold fo
    rw [Cu]
    cases g
    · rw [if_neg (by simp)]
      unfold tv
      rw [Ao,Ao,(Ks fun r hr=>ih r hr false).1]
      simp
    · rw [if_pos rfl]
      unfold tv
      rw [yx,Ao,(Ks fun r hr=>ih r hr true).2,U4.1]
  | @any d l hl _ ih =>
    intro g
    unfold fo
    rw [Cu]
    cases g
    · rw [if_neg (by simp)]
      unfold tv
      rw [yx,yx,(Ks fun r hr=>ih r hr false).2]
      simp
    · rw [if_pos rfl]
      unfold tv
      rw [Ao,yx,(Ks fun r hr=>ih r hr true).1,U4.2]
  | @no d r _ ih =>
    intro g
    unfold fo
    rw [ih (!g),tv]
    cases tv B r <;> cases g <;> rfl
end
end K
end
noncomputable section
set_option linter.all false
set_option maxRecDepth 100000
set_option maxHeartbeats 1000000
set_option autoImplicit false
namespace K
open C PySem
noncomputable section
variable {B B':List (C.Key × T)} {N:List Str} {D:List (Str × Sm)} {h:Str} {to:Int}
theorem abl:Cn 2 (a1h "x"):=⟨fun c=>if c=Str.ofString "x" then 1 else 0,by decide +kernel,by decide +kernel,by decide +kernel,by decide +kernel,by decide +kernel,by decide +kernel⟩
theorem acs:Cn 2 (a1h "y"):=⟨fun c=>if c=Str.ofString "y" then 1 else 0,by decide +kernel,by decide +kernel,by decide +kernel,by decide +kernel,by decide +kernel,by decide +kernel⟩
theorem Yn {b:Str} (hb:Cn 2 (a1h b)):∀ {D:List (Str × Sm)},(∀ p∈D,Cn 2 p.2)→Cn 2 (inn D b)
  | [],_=>hb
  | (k,s)::r,hD=>by
    unfold inn
    by_cases e:k=b
    · rw [if_pos e]; exact hD _ List.mem_cons_self
    · rw [if_neg e]; exact Yn hb fun p hp=>hD p (List.mem_cons_of_mem _ hp)
theorem aai {a b:Int} (h1:-2≤a) (h2:a≤2) (h3:-2≤b) (h4:b≤2):-4≤a * b∧a * b≤4:=by
  obtain e | e | e | e | e:a = -2∨a = -1∨a=0∨a=1∨a=2:=by (clear h4 h3; omega)
  all_goals subst e; (clear h2 h1; omega)
theorem adt {l:List Pr} {G:Str→Int}:(l.map fun p=>G p.1 * p.2)=l.map fun p=>p.2 * G p.1:=List.map_congr_left fun p _=>Int.mul_comm _ _
structure Fx (D:List (Str × Sm)) (s:Sm) (f gx gy:Str→Int):Prop where
  s:s.2=canon U3 f
  s0:f "b2" = 0
  x:(inn D "x").2=canon U3 gx
  x0:gx "b2" = 0
  y:(inn D "y").2=canon U3 gy
  y0:gy "b2" = 0
  b:(-2≤f "x" ∧ f "x" ≤ 2)∧-2≤f "y" ∧ f "y" ≤ 2
  c:(-2≤gx "x" ∧ gx "x" ≤ 2)∧-2≤gx "y" ∧ gx "y" ≤ 2
  d:(-2≤gy "x" ∧ gy "x" ≤ 2)∧-2≤gy "y" ∧ gy "y" ≤ 2
theorem fx (hD:∀ p∈D,Cn 2 p.2) {s:Sm} (c:Cn 2 s):∃ f gx gy,Fx D s f gx gy:=by
  obtain ⟨f,e,e0,h1,h2,h3,h4⟩:=c
  obtain ⟨gx,ex,x0,x1,x2,x3,x4⟩:=Yn abl hD
  obtain ⟨gy,ey,y0,y1,y2,y3,y4⟩:=Yn acs hD
  exact ⟨f,gx,gy,e,e0,ex,x0,ey,y0,⟨⟨h1,h2⟩,h3,h4⟩,⟨⟨x1,x2⟩,x3,x4⟩,⟨⟨y1,y2⟩,y3,y4⟩⟩
theorem a5d {s:Sm} {f gx gy:Str→Int} (q:Fx D s f gx gy) {c:Str} (hc:c∈U3):pF D s.2 c=f "x" * gx c+f "y" * gy c:=by
  unfold pF
  rw [q.s,adt (G:=fun b=>gt (inn D b).2 c),csum (G:=fun b=>gt (inn D b).2 c),q.s0,q.x,q.y,cgt hc,cgt hc]
  (clear hc q; omega)
theorem aew {s:Sm} {f gx gy:Str→Int} (q:Fx D s f gx gy):pN D s.2=f "x" * (inn D "x").1+f "y" * (inn D "y").1:=by
  unfold pN
  rw [q.s,adt (G:=fun b=>(inn D b).1),csum (G:=fun b=>(inn D b).1),q.s0]
  omega
theorem a9t (hD:∀ p∈D,Cn 2 p.2) {s:Sm} (c:Cn 2 s):Cn 8 (pu D s):=by
  obtain ⟨f,gx,gy,q⟩:=fx hD c
  obtain ⟨⟨h1,h2⟩,h3,h4⟩:=q.b
  obtain ⟨⟨x1,x2⟩,x3,x4⟩:=q.c
  obtain ⟨⟨y1,y2⟩,y3,y4⟩:=q.d
  have a1:=aai h1 h2 x1 x2
  have a2:=aai h1 h2 x3 x4
  have a3:=aai h3 h4 y1 y2
  have a4:=aai h3 h4 y3 y4
  refine ⟨pF D s.2,rfl,?_,?_,?_,?_,?_⟩
  · rw [a5d q u3b,q.x0,q.y0]; (clear a4 a3 a2 a1 y4 y3 y2 y1 x4 x3 x2 x1 h4 h3 h2 h1 q c hD; omega)
  · rw [a5d q u3x]; (clear a4 a2 y4 y3 y2 y1 x4 x3 x2 x1 h4 h3 h2 h1 q c hD; omega)
  · rw [a5d q u3x]; (clear a4 a2 y4 y3 y2 y1 x4 x3 x2 x1 h4 h3 h2 h1 q c hD; omega)
  · rw [a5d q u3y]; (clear a3 a1 y4 y3 y2 y1 x4 x3 x2 x1 h4 h3 h2 h1 q c hD; omega)
  · rw [a5d q u3y]; (clear a3 a1 y4 y3 y2 y1 x4 x3 x2 x1 h4 h3 h2 h1 q c hD; omega)
theorem Zm {s:Sm} {f:Str→Int} (e:s.2=canon U3 f):val B s=s.1+(f "b2" * bk B "b2" + f "x" * bk B "x" + f "y" * bk B "y"):=by
  obtain ⟨n,l⟩:=s
  dsimp only at e
  subst e
  exact Yg
structure Beh (D:List (Str × Sm)) (h:Str) (to:Int) (B B':List (C.Key × T)):Prop where
  x:bk B' "x" = val B (inn D "x")
  y:bk B' "y" = val B (inn D "y")
  a:bk B' ("@" ++ h)=to
  o:∀ k:Str,¬ k=h→bk B' ("@" ++ k)=bk B ("@" ++ k)
theorem a4j (b:Beh D h to B B') (hD:∀ p∈D,Cn 2 p.2) {s:Sm} (c:Cn 2 s):val B (pu D s)=val B' s:=by
  obtain ⟨f,gx,gy,q⟩:=fx hD c
  have e:val B (pu D s)=(s.1+pN D s.2)+(pF D s.2 "b2" * bk B "b2" + pF D s.2 "x" * bk B "x" + pF D s.2 "y" * bk B "y"):=Yg
  rw [e,aew q,a5d q u3b,a5d q u3x,a5d q u3y,Zm q.s,b.x,b.y,Zm q.x,Zm q.y,q.s0,q.x0,q.y0]
  simp only [Int.add_mul,Int.mul_add,Int.mul_assoc,Int.zero_mul,Int.mul_zero]
  (clear e q c hD b; omega)
theorem ab3 (hD:∀ p∈D,Cn 2 p.2) {d:Nat} {r:Rem} (o:Dr N 2 d r):Dr N 8 (d+1) (bh D h to r):=by
  induction o with
  | most a=>unfold bh; exact .most (a9t hD a)
  | rest a b c=>unfold bh; exact .rest (a9t hD a) b c
  | @pl d k p a b c =>
    unfold bh
    split
    · split
      · exact .all (by show 0≤6; (clear c b a hD; omega)) fun r hr=>by cases hr
      · exact .any (by show 0≤6; (clear c b a hD; omega)) fun r hr=>by cases hr
    · exact .pl a b c
  | @all d l a _ ih =>
    unfold bh
    rw [Cw]
    refine .all (by rw [List.length_map]; exact a) fun r hr=>?_
    obtain ⟨u,hu,rfl⟩:=List.mem_map.mp hr
    exact ih u hu
  | @any d l a _ ih =>
    unfold bh
    rw [Cw]
    refine .any (by rw [List.length_map]; exact a) fun r hr=>?_
    obtain ⟨u,hu,rfl⟩:=List.mem_map.mp hr
    exact ih u hu
  | no _ ih=>unfold bh; exact .no ih
theorem Tz {f g:Rem→Bool}:∀ {l:List Rem},(∀ r∈l,f r=g r)→l.all f=l.all g∧l.any f=l.any g
  | [],_=>⟨rfl,rfl⟩
  | r::l,h=>by
    obtain ⟨a,b⟩:=Tz fun q hq=>h q (List.mem_cons_of_mem _ hq)
    rw [List.all_cons,List.any_cons,List.all_cons,List.any_cons,a,b,h r List.mem_cons_self]
    exact ⟨rfl,rfl⟩
theorem ab4 (b:Beh D h to B B') (hD:∀ p∈D,Cn 2 p.2) {d:Nat} {r:Rem} (o:Dr N 2 d r):tv B (bh D h to r)=tv B' r:=by
  induction o with
  | most a=>unfold bh tv; rw [a4j b hD a]
  | rest a _ _=>unfold bh tv; rw [a4j b hD a]
  | @pl d k p _ _ _ =>
    unfold bh
    by_cases e:k=h
    · subst e
      rw [if_pos rfl]
      by_cases q:p=to
      · subst q
        rw [if_pos rfl]
        unfold tv
        rw [b.a,Ld]; simp
      · rw [if_neg q]
        unfold tv
        rw [b.a,Rq]
        exact (beq_eq_false_iff_ne.mpr (fun z=>q z.symm)).symm
    · rw [if_neg e]
      unfold tv
      rw [b.o k e]
  | @all d l a _ ih =>
    unfold bh tv
    rw [Cw,Ao,Ao,List.all_map]
    exact (Tz (f:=tv B ∘ bh D h to) fun r hr=>ih r hr).1
  | @any d l a _ ih =>
    unfold bh tv
    rw [Cw,yx,yx,List.any_map]
    exact (Tz (f:=tv B ∘ bh D h to) fun r hr=>ih r hr).2
  | no _ ih=>unfold bh tv; rw [ih]
end
end K
end
noncomputable section
set_option linter.all false
set_option maxRecDepth 100000
set_option maxHeartbeats 1000000
set_option autoImplicit false
namespace K
open C PySem
theorem Bc {g:G} {b:S} {t:T} {r:List T} {s s1 s2:Sta} (h:g t s=some s1) (hb:b s1=some (.next,s2)):forL g b (t::r) s=forL g b r s2:=by
  rw [forL]; dsimp only; rw [h]; dsimp only; rw [hb]
theorem J8 {q k:C.Key} {t:T}:∀ kvs:List (C.Key × T),Ac q (Du k t kvs)=if q=k then some t else Ac q kvs:=by
  intro kvs
  have hmap:∀ l:List (C.Key × T),Ac q (l.map fun p=>if p.1=k then (p.1,t) else p)=if q=k then (Ac q l).map (fun _=>t) else Ac q l:=fun l=>by
    induction l with
    | nil=>simp [Ac]
    | cons p l ih =>
      obtain ⟨a,v⟩:=p
      rw [List.map_cons]
      by_cases h1:a=k
      · subst h1
        simp only [if_true,Ac,ih]
        by_cases h2:a=q
        · subst h2; simp
        · simp only [if_neg h2]
      · simp only [if_neg h1,Ac,ih]
        by_cases h2:a=q
        · subst h2; simp [h1]
        · simp only [if_neg h2]
  have happ:∀ l:List (C.Key × T),(l.any fun p=>decide (p.1=k))=false→Ac q (l++[(k,t)])=if q=k then some t else Ac q l:=fun l=>by
    induction l with
    | nil=>intro _; simp [Ac,eq_comm]
    | cons p l ih =>
      obtain ⟨a,v⟩:=p
      intro h
      rw [List.any_cons,Bool.or_eq_false_iff] at h
      have h1:¬ a=k:=by simpa using h.1
      rw [List.cons_append,Ac,Ac,ih h.2]
      by_cases h2:a=q
      · subst h2; simp [h1]
      · simp only [if_neg h2]
  have hany:∀ l:List (C.Key × T),(l.any fun p=>decide (p.1=k))=true→∃ v,Ac k l=some v:=fun l=>by
    induction l with
    | nil=>intro h; cases h
    | cons p l ih =>
      obtain ⟨a,v⟩:=p
      intro h
      rw [Ac]
      by_cases e:a=k
      · exact ⟨v,if_pos e⟩
      · rw [if_neg e]; refine ih ?_
        rw [List.any_cons] at h; simpa [e] using h
  unfold Du
  split
  · rename_i h
    rw [hmap]
    by_cases e:q=k
    · subst e
      obtain ⟨v,hv⟩:=hany _ h
      simp [hv]
    · simp [e]
  · rename_i h
    exact happ _ (Bool.eq_false_iff.mpr h)
noncomputable def pt1 (B:List (C.Key × T)) (d:List (C.Key × T)) (p:Str × Sm):List (C.Key × T):=Du (.inr p.1) (.int (val B p.2)) d
noncomputable def beh (D:List (Str × Sm)) (h:Str) (to:Int) (B:List (C.Key × T)):List (C.Key × T):=Du (.inr ("@" ++ h)) (.int to) (D.foldl (pt1 B) B)
noncomputable def inB (d:List (C.Key × T)) (b:Bx):Bool:=decide (b.lo≤bk d b.nm)&&decide (bk d b.nm≤b.hi)
theorem Fd {x y:Str} {v:Int} {d:List (C.Key × T)}:bk (Du (.inr y) (.int v) d) x=if x=y then v else bk d x:=by
  unfold bk
  rw [J8]
  by_cases e:x=y
  · rw [if_pos e,if_pos (by rw [e])]
  · rw [if_neg e,if_neg (fun z=>e (Sum.inr.inj z))]
theorem Bk.put {N:List Str} {d:List (C.Key × T)} (h:Bk N d) {y:Str} {v:Int}:Bk N (Du (.inr y) (.int v) d):=fun x hx=>by
  rw [J8]
  by_cases e:(Sum.inr x:C.Key)=.inr y
  · exact ⟨v,by rw [if_pos e]⟩
  · obtain ⟨w,hw⟩:=h x hx
    exact ⟨w,by rw [if_neg e]; exact hw⟩
theorem Bk.puts {N:List Str} {B:List (C.Key × T)}:∀ {D:List (Str × Sm)} {d:List (C.Key × T)},Bk N d→Bk N (D.foldl (pt1 B) d)
  | [],_,h=>h
  | p::D,d,h=>Bk.puts (D:=D) (d:=pt1 B d p) h.put
noncomputable section
variable {B d:List (C.Key × T)} {N:List Str} {D:List (Str × Sm)} {h:Str} {to:Int} {sto:List SO}
theorem S7 {x:Str}:∀ {D:List (Str × Sm)} {d:List (C.Key × T)},(D.map (·.1)).Nodup→bk (D.foldl (pt1 B) d) x=if x∈D.map (·.1) then val B (inn D x) else bk d x
  | [],d,_=>by simp
  | (k,s)::D,d,nd=>by
    rw [List.map_cons,List.nodup_cons] at nd
    have iq:inn ((k,s)::D) x=if k=x then s else inn D x:=by rw [inn]
    rw [List.foldl_cons,S7 nd.2,iq]
    by_cases e:x=k
    · subst e
      rw [if_neg nd.1,if_pos (by simp),if_pos rfl]
      unfold pt1
      rw [Fd,if_pos rfl]
    · have ne:¬ k=x:=fun z=>e z.symm
      rw [List.map_cons,if_neg ne]
      by_cases m:x∈D.map (·.1)
      · rw [if_pos m,if_pos (List.mem_cons_of_mem _ m)]
      · rw [if_neg m,if_neg (by simp only [List.mem_cons,not_or]; exact ⟨e,m⟩)]
        unfold pt1
        rw [Fd,if_neg e]
theorem Sw {x:Str}:∀ {D:List (Str × Sm)},x∉D.map (·.1)→inn D x=a1h x
  | [],_=>rfl
  | (k,s)::D,h=>by
    rw [List.map_cons,List.mem_cons,not_or] at h
    unfold inn
    rw [if_neg (fun z=>h.1 z.symm)]
    exact Sw h.2
theorem Vu {x:Str}:val B (a1h x)=bk B x:=by simp [val,a1h]
theorem Ze {x:Str} (nd:(D.map (·.1)).Nodup):bk (D.foldl (pt1 B) B) x=val B (inn D x):=by
  rw [S7 nd]
  by_cases m:x∈D.map (·.1)
  · rw [if_pos m]
  · rw [if_neg m,Sw m,Vu]
theorem a8q {x y:Str} (h:("@" ++ x:Str) = "@" ++ y):x=y:=by
  have:(Str.ofString "@").cps++x.cps=(Str.ofString "@").cps++y.cps:=congrArg Str.cps h
  have e:=congrArg Array.toList this
  rw [Array.toList_append,Array.toList_append] at e
  have:=List.append_cancel_left e
  cases x; cases y
  exact congrArg Str.mk (Array.toList_inj.mp this)
theorem Tt {x y:Str} (h:x=Str.ofString "x" ∨ x=Str.ofString "y"):¬ x = "@" ++ y:=fun e=>by
  have:(("@" ++ y:Str).cps.toList)[0]? = some 64:=by
    show ((Str.ofString "@").cps++y.cps).toList[0]? = some 64
    rw [Array.toList_append]; rfl
  rw [← e] at this
  rcases h with rfl | rfl <;> (revert this; decide +kernel)
end
end K
end
noncomputable section
set_option linter.all false
set_option maxRecDepth 100000
set_option maxHeartbeats 1000000
set_option autoImplicit false
namespace K
open C PySem
theorem aa5 {g:G} {b:S} {t v:T} {r:List T} {s s1 s2:Sta} (h:g t s=some s1) (hb:b s1=some (.ret v,s2)):forL g b (t::r) s=some (.ret v,s2):=by
  rw [forL]; dsimp only; rw [h]; dsimp only; rw [hb]
theorem O1 {k:C.Key} {t:T} {d:List (C.Key × T)}:(Du k t d).length≤d.length+1:=by
  unfold Du
  split
  · rw [List.length_map]; omega
  · rw [List.length_append]; exact Nat.le_refl _
theorem Ut {B:List (C.Key × T)}:∀ {D:List (Str × Sm)} {d:List (C.Key × T)},(D.foldl (pt1 B) d).length≤d.length+D.length
  | [],d=>Nat.le_refl _
  | p::D,d=>by
    have a:=Ut (B:=B) (D:=D) (d:=pt1 B d p)
    have b:(pt1 B d p).length≤d.length+1:=O1
    rw [List.foldl_cons,List.length_cons]; omega
noncomputable abbrev qB (P S:T) (B d:List (C.Key × T)) (f:Bool) (a b c e g h i:Slot) (sto:List SO):Sta:=⟨[some (P,false),some (S,false),some (.dic B,false),some (.dic d,f),a,b,c,e,g,h,i],sto⟩
noncomputable section
variable {B d:List (C.Key × T)} {N:List Str} {D:List (Str × Sm)} {h:Str} {to:Int} {sto:List SO} {P S:T}
theorem Vt {c e g h' i:Slot} (hB:Bk N B):∀ (D:List (Str × Sm)) (d:List (C.Key × T)) (a b:Slot),(∀ p∈D,okN N p.2)→d.length+D.length≤1000 →
    ∃ a' b':Slot,forL (wz [4,5]) (qm 3 (bw 4) (dw mq (ak (bw 5) (ak (bw 2) dh)))) (D.map seT) (qB P S B d true a b c e g h' i sto)=some (.next,qB P S B (D.foldl (pt1 B) d) true a' b' c e g h' i sto)
  | [],d,a,b,_,_=>⟨a,b,by simp [forL]⟩
  | p::D,d,a,b,hD,hl=>by
    rw [List.length_cons] at hl
    have pl:(pt1 B d p).length≤d.length+1:=O1
    obtain ⟨a',b',ih⟩:=Vt hB D (pt1 B d p) (some (.str p.1,false)) (some (smT p.2,false)) (fun q hq=>hD q (List.mem_cons_of_mem _ hq)) (by (clear hD hB; omega))
    have dl:d.length<lim:=by show _<1000000; omega
    have v:=K5 (sto:=sto) (hD p List.mem_cons_self) hB
    refine ⟨a',b',?_⟩
    rw [List.map_cons,Bc (s1:=qB P S B d true (some (.str p.1,false)) (some (smT p.2,false)) c e g h' i sto) (s2:=qB P S B (pt1 B d p) true (some (.str p.1,false)) (some (smT p.2,false)) c e g h' i sto) (J1 (x:=.str p.1) (y:=smT p.2)) ?_]
    · exact ih
    · generalize mq=F at *
      exact zw (zf rfl v) rfl rfl rfl rfl dl rfl
theorem Yz {a b:Slot} (hd:Bk N d):∀ (l:List Bx) (c e g h i:Slot),(∀ b∈l,b.nm∈N) →
    ∃ (f:Bool) (c' e' g' h' i':Slot),forL (wz [6,7,8,9,10]) (sIf (mOr (gj (mOp ltT (xg 3 (bw 6)) (bw 8))) (gj (mOp ltT (bw 9) (xg 3 (bw 6))))) (pq (iz (fun l=>some (.tup l)) (ak (bw 3) (ak (au (.bl false)) dh)))) vo) (l.map bxT) (qB P S B d true a b c e g h i sto)
      = some (if l.all (inB d) then .next else .ret (.tup [.dic d,.bl false]),qB P S B d f a b c' e' g' h' i' sto)∧(l.all (inB d)=true→f=true)
  | [],c,e,g,h,i,_=>⟨true,c,e,g,h,i,by simp [forL],fun _=>rfl⟩
  | x::l,c,e,g,h,i,hl=>by
    have hx:=hd.at (hl x List.mem_cons_self)
    have g1:wz [6,7,8,9,10] (bxT x) (qB P S B d true a b c e g h i sto)=some (qB P S B d true a b (some (.str x.nm,false)) (some (.str x.ow,false)) (some (.int x.lo,false)) (some (.int x.hi,false)) (some (.int x.st,false)) sto):=a1k
    cases hw:inB d x with
    | true =>
      obtain ⟨f,c',e',g',h',i',ih,q⟩:=Yz hd l (some (.str x.nm,false)) (some (.str x.ow,false)) (some (.int x.lo,false)) (some (.int x.hi,false)) (some (.int x.st,false)) fun y hy=>hl y (List.mem_cons_of_mem _ hy)
      refine ⟨f,c',e',g',h',i',?_,by rw [List.all_cons,hw,Bool.true_and]; exact q⟩
      rw [List.all_cons,hw,Bool.true_and,List.map_cons,Bc g1 (s2:=qB P S B d true a b (some (.str x.nm,false)) (some (.str x.ow,false)) (some (.int x.lo,false)) (some (.int x.hi,false)) (some (.int x.st,false)) sto) ?_]
      · exact ih
      · unfold inB at hw
        simp only [Bool.and_eq_true,decide_eq_true_eq] at hw
        have u1:¬ bk d x.nm<x.lo:=by (clear q ih g1 hx hl hd; omega)
        have u2:¬ x.hi<bk d x.nm:=by (clear u1 q ih g1 hx hl hd; omega)
        exact ze (adn (zt (zo (zoi rfl rfl rfl rfl hx) rfl (a6u u1))) (zt (zo rfl (zoi rfl rfl rfl rfl hx) (a6u u2)))) rfl
    | false =>
      refine ⟨false,some (.str x.nm,false),some (.str x.ow,false),some (.int x.lo,false),some (.int x.hi,false),some (.int x.st,false),?_,by rw [List.all_cons,hw]; intro z; cases z⟩
      rw [List.all_cons,hw,List.map_cons,Bool.false_and,if_neg (by simp)]
      refine aa5 g1 ?_
      unfold inB at hw
      simp only [Bool.and_eq_false_iff,decide_eq_false_iff_not] at hw
      by_cases u1:bk d x.nm<x.lo
      · exact zk (aei (zt (zo (zoi rfl rfl rfl rfl hx) rfl (aam u1)))) (zr rfl)
      · have u2:x.hi<bk d x.nm:=by (clear g1 hx hl hd; omega)
        exact zk (adn (zt (zo (zoi rfl rfl rfl rfl hx) rfl (a6u u1))) (zt (zo rfl (zoi rfl rfl rfl rfl hx) (aam u2)))) (zr rfl)
end
end K
end
noncomputable section
set_option linter.all false
set_option maxRecDepth 100000
set_option maxHeartbeats 1000000
set_option autoImplicit false
namespace K
open C PySem
noncomputable section
variable {B d:List (C.Key × T)} {N:List Str} {D:List (Str × Sm)} {h:Str} {here to:Int} {g:T} {sto:List SO} {bs:List Bx} {hs:List Hd} {ss:List T}
theorem a4h (hB:Bk N B):Bk N (beh D h to B):=by
  unfold beh; exact (hB.puts).put
theorem aa6 (nd:(D.map (·.1)).Nodup) (hD:∀ p∈D,p.1=Str.ofString "x" ∨ p.1=Str.ofString "y"):Beh D h to B (beh D h to B):=by
  unfold beh
  refine ⟨?_,?_,?_,fun k hk=>?_⟩
  · rw [Fd,if_neg (Tt (.inl rfl)),Ze nd]
  · rw [Fd,if_neg (Tt (.inr rfl)),Ze nd]
  · rw [Fd,if_pos rfl]
  · have hn:¬ (("@" ++ k:Str) = "@" ++ h):=fun e=>hk (a8q e)
    rw [Fd,if_neg hn,S7 nd,if_neg (fun m=>?_)]
    obtain ⟨p,hp,e⟩:=List.mem_map.mp m
    exact Tt (hD p hp) e
theorem Wv (hB:Bk N B) (hD:∀ p∈D,okN N p.2) (lD:D.length≤3) (lB:B.length≤100) (hb:∀ b∈bs,b.nm∈N) (lb:bs.length≤3) (hl:h.length<100) :
    nq [prT bs hs ss,stT h here g D to,.dic B] sto=some (.tup [.dic (beh D h to B),.bl (bs.all (inB (beh D h to B)))],sto):=by
  obtain ⟨a',b',L1⟩:=Vt (sto:=sto) (P:=prT bs hs ss) (S:=stT h here g D to) (c:=none) (e:=none) (g:=none) (h':=none) (i:=none) hB D B none none hD (by (clear hl lb hb hD hB; omega))
  obtain ⟨f,c',e',g',h',i',L2,q⟩:=Yz (sto:=sto) (P:=prT bs hs ss) (S:=stT h here g D to) (B:=B) (a:=a') (b:=b') (a4h (D:=D) (h:=h) (to:=to) hB) bs none none none none none hb
  have l1:D.length<lim:=by show _<1000000; (clear q L2 L1 hl lb hb lB hD hB; omega)
  have l2:bs.length<lim:=by show _<1000000; (clear l1 q L2 L1 hl hb lB lD hD hB; omega)
  have pl:=Ut (B:=B) (D:=D) (d:=B)
  have l3:(D.foldl (pt1 B) B).length<lim:=by show _<1000000; (clear l2 l1 q L2 L1 hl lb hb hD hB; omega)
  have hc:(Str.ofString "@").length+h.length<lim:=by
    have:(Str.ofString "@").length=1:=by decide
    show _<1000000; (clear l3 pl l2 l1 q L2 L1 lb hb lB lD hD hB; omega)
  have A:sNew 3 (iz Nb (ak (bw 2) dh)) ⟨[some (prT bs hs ss,false),some (stT h here g D to,false),some (.dic B,false),none,none,none,none,none,none,none,none],sto⟩=some (.next,qB (prT bs hs ss) (stT h here g D to) B B true none none none none none none none sto):=rfl
  have L1':yj (wz [4,5]) (qu (mOp cu (bw 1) (au (.int 3)))) (qm 3 (bw 4) (dw mq (ak (bw 5) (ak (bw 2) dh)))) (qB (prT bs hs ss) (stT h here g D to) B B true none none none none none none none sto)=some (.next,qB (prT bs hs ss) (stT h here g D to) B (D.foldl (pt1 B) B) true a' b' none none none none none sto):=by
    have J:qu (mOp cu (bw 1) (au (.int 3))) (qB (prT bs hs ss) (stT h here g D to) B B true none none none none none none none sto)=some (D.map seT,qB (prT bs hs ss) (stT h here g D to) B B true none none none none none none none sto):=by
      unfold qu mOp; rw [show bw 1 (qB (prT bs hs ss) (stT h here g D to) B B true none none none none none none none sto)=some (stT h here g D to,qB (prT bs hs ss) (stT h here g D to) B B true none none none none none none none sto) from rfl]
      show (if (D.map seT).length<lim then some (D.map seT,_) else none)=_
      rw [List.length_map,if_pos l1]
    unfold yj; rw [J]; exact L1
  have C':qm 3 (mOp uh (au (.str "@")) (mOp cu (bw 1) (au (.int 0)))) (mOp cu (bw 1) (au (.int 4))) (qB (prT bs hs ss) (stT h here g D to) B (D.foldl (pt1 B) B) true a' b' none none none none none sto)=some (.next,qB (prT bs hs ss) (stT h here g D to) B (beh D h to B) true a' b' none none none none none sto):=by
    exact zw (zo rfl rfl st4) rfl (zo rfl (zo rfl rfl st0) (ad hc)) rfl rfl l3 rfl
  have L2':yj (wz [6,7,8,9,10]) (qu (mOp cu (bw 0) (au (.int 0)))) (sIf (mOr (gj (mOp ltT (xg 3 (bw 6)) (bw 8))) (gj (mOp ltT (bw 9) (xg 3 (bw 6))))) (pq (iz (fun l=>some (.tup l)) (ak (bw 3) (ak (au (.bl false)) dh)))) vo) (qB (prT bs hs ss) (stT h here g D to) B (beh D h to B) true a' b' none none none none none sto)=some (if bs.all (inB (beh D h to B)) then .next else .ret (.tup [.dic (beh D h to B),.bl false]),qB (prT bs hs ss) (stT h here g D to) B (beh D h to B) f a' b' c' e' g' h' i' sto):=by
    have J:qu (mOp cu (bw 0) (au (.int 0))) (qB (prT bs hs ss) (stT h here g D to) B (beh D h to B) true a' b' none none none none none sto)=some (bs.map bxT,qB (prT bs hs ss) (stT h here g D to) B (beh D h to B) true a' b' none none none none none sto):=(zis (zo rfl rfl rfl) ‹_›)
    unfold yj; rw [J]; exact L2
  unfold nq jo
  show (match jd _ _ ⟨[some (prT bs hs ss,false),some (stT h here g D to,false),some (.dic B,false),none,none,none,none,none,none,none,none],sto⟩ with | some (.ret t,s)=>some (t,s.sto) | some (.next,s)=>some (.non,s.sto) | _=>none)=_
  rw [ig A,ig L1',ig C']
  cases hw:bs.all (inB (beh D h to B)) with
  | true =>
    rw [hw,if_pos rfl] at L2'
    rw [ig L2']
    have:=q hw
    subst this
    rfl
  | false =>
    rw [hw,if_neg (by simp)] at L2'
    rw [a1b L2']
end
end K
end
noncomputable section
set_option linter.all false
set_option maxRecDepth 100000
set_option maxHeartbeats 1000000
set_option autoImplicit false
namespace K
open C PySem
noncomputable section
variable {B d:List (C.Key × T)} {N:List Str} {D:List (Str × Sm)} {hand:Str} {here to:Int} {sto:List SO} {bs:List Bx} {g a:Rem} {l:List ((Str × Int) × Rem)}
noncomputable def wi (bs:List Bx) (p:Str × Sm):Rem:=.all [.most (ls ((bAt bs p.1).1,[]) p.2),.most (ls p.2 ((bAt bs p.1).2,[]))]
noncomputable def gv (bs:List Bx) (D:List (Str × Sm)) (g:Rem) (l:List ((Str × Int) × Rem)):List Rem:=(l.map fun p=>fo (.pl p.1.1 p.1.2) false)++(l.map fun p=>fo p.2 false)++[fo g false]++D.map (wi bs)
theorem Fm.le {d e:Nat} {r:Rem} (h:Fm N d r) (hd:d≤e):Fm N e r:=by
  induction hd with
  | refl=>exact h
  | step _ ih=>exact ih.up
theorem aef (hl:∀ p∈l,Dr N 2 3 p.2∧okS p.1.1∧p.1.1.length<100) (hg:Dr N 2 3 g):(gv bs D g l).map j7=Vz bs D g l:=by
  have f1:∀ p∈l,j7 (fo (.pl p.1.1 p.1.2) false)=eqF ("@" ++ p.1.1) p.1.2:=fun p hp=>by
    have:=(aao (OkR.pl (Q:=Bd) (d:=0) (p:=p.1.2) (hl p hp).2.1 (hl p hp).2.2)).1
    rw [this]; unfold pfT; rfl
  have f2:∀ p∈l,j7 (fo p.2 false)=pfT p.2:=fun p hp=>(aao ((hl p hp).1.ok (by decide))).1
  have f3:j7 (fo g false)=pfT g:=(aao (hg.ok (by decide))).1
  have f4:∀ p∈D,j7 (wi bs p)=wiT (bAt bs p.1).1 (bAt bs p.1).2 p.2:=fun p _=>by unfold wi wiT; rw [a4c]; rfl
  unfold gv Vz
  rw [List.map_append,List.map_append,List.map_append,List.map_map,List.map_map,List.map_map,List.map_cons,List.map_nil,f3]
  have e1:l.map (j7 ∘ fun p=>fo (.pl p.1.1 p.1.2) false)=l.map fun p=>eqF ("@" ++ p.1.1) p.1.2:=List.map_congr_left f1
  have e2:l.map (j7 ∘ fun p=>fo p.2 false)=l.map fun p=>pfT p.2:=List.map_congr_left f2
  have e4:D.map (j7 ∘ wi bs)=D.map fun p=>wiT (bAt bs p.1).1 (bAt bs p.1).2 p.2:=List.map_congr_left f4
  rw [e1,e2,e4]
theorem abt (hx:(Str.ofString "x")∈N) (hy:(Str.ofString "y")∈N) (hl:∀ p∈l,Dr N 2 3 p.2∧okS p.1.1∧p.1.1.length<100) (hm:∀ p∈l,("@" ++ p.1.1:Str)∈N) (hg:Dr N 2 3 g) (hD:∀ p∈D,Cn 2 p.2):∀ f∈gv bs D g l,Fm N 6 f:=by
  intro f hf
  unfold gv at hf
  rw [List.mem_append,List.mem_append,List.mem_append,List.mem_singleton] at hf
  rcases hf with ((hf | hf) | hf) | hf
  · obtain ⟨p,hp,rfl⟩:=List.mem_map.mp hf
    exact (a2b (d:=3) (k:=2) (by decide) hx hy (.pl (hm p hp) (hl p hp).2.1 (hl p hp).2.2) false).le (by decide)
  · obtain ⟨p,hp,rfl⟩:=List.mem_map.mp hf
    exact (a2b (by decide) hx hy (hl p hp).1 false).le (by decide)
  · subst hf
    exact (a2b (by decide) hx hy hg false).le (by decide)
  · obtain ⟨p,hp,rfl⟩:=List.mem_map.mp hf
    have c:=hD p hp
    exact .all (by show 2≤100; decide) (fm2 ((cn0.ls c).okN (by decide) hx hy) ((c.ls cn0).okN (by decide) hx hy))
noncomputable def win (B:List (C.Key × T)) (bs:List Bx) (p:Str × Sm):Bool:=decide ((bAt bs p.1).1≤val B p.2)&&decide (val B p.2≤(bAt bs p.1).2)
theorem acd {p:Str × Sm} (c:Cn 2 p.2):tv B (wi bs p)=win B bs p:=by
  unfold wi win tv
  rw [Ld,Ld,Ld,tv,tv,Vq cn0 c,Vq c cn0]
  have z:∀ n:Int,val B (n,[])=n:=fun n=>by simp [val]
  rw [z,z,Bool.and_true]
  congr 1
  · exact decide_eq_decide.mpr (by (clear z c; omega))
  · exact decide_eq_decide.mpr (by (clear z c; omega))
theorem all_map' {α:Type} {f:α→Rem} {q:α→Bool}:∀ {l:List α},(∀ x∈l,tv B (f x)=q x)→(l.map f).all (tv B)=l.all q
  | [],_=>rfl
  | x::l,h=>by rw [List.map_cons,List.all_cons,List.all_cons,all_map' fun y hy=>h y (List.mem_cons_of_mem _ hy),h x List.mem_cons_self]
theorem ace (hl:∀ p∈l,Dr N 2 3 p.2∧okS p.1.1∧p.1.1.length<100) (hm:∀ p∈l,("@" ++ p.1.1:Str)∈N) (hg:Dr N 2 3 g) (hD:∀ p∈D,Cn 2 p.2) :
    (gv bs D g l).all (tv B)=((((l.all fun p=>bk B ("@" ++ p.1.1)==p.1.2)&&l.all fun p=>tv B p.2)&&tv B g)&&D.all (win B bs)):=by
  unfold gv
  rw [List.all_append,List.all_append,List.all_append,List.all_cons,List.all_nil,Bool.and_true]
  rw [all_map' (q:=fun p:(Str × Int) × Rem=>bk B ("@" ++ p.1.1)==p.1.2) (fun p hp=>by
      rw [a1z (Dr.pl (d:=3) (k:=2) (hm p hp) (hl p hp).2.1 (hl p hp).2.2) false,Bool.xor_false]; unfold tv; rfl)]
  rw [all_map' (q:=fun p:(Str × Int) × Rem=>tv B p.2) (fun p hp=>by rw [a1z (hl p hp).1 false,Bool.xor_false])]
  rw [all_map' (f:=wi bs) (q:=win B bs) (fun p hp=>acd (hD p hp)),a1z hg false,Bool.xor_false]
theorem T6 {b:Bx}:∀ {bs:List Bx},(bs.map (·.nm)).Nodup→b∈bs→bAt bs b.nm=(b.lo,b.hi)
  | [],_,h=>by cases h
  | x::bs,nd,h=>by
    rw [List.map_cons,List.nodup_cons] at nd
    unfold bAt
    rcases List.mem_cons.mp h with e | h -- here
    · subst e; rw [if_pos rfl]
    · have ne:¬ x.nm=b.nm:=fun e=>nd.1 (e ▸ List.mem_map.mpr ⟨b,h,rfl⟩)
      rw [if_neg ne]; exact T6 nd.2 h
theorem Sx {p:Str × Sm}:∀ {D:List (Str × Sm)},(D.map (·.1)).Nodup→p∈D→inn D p.1=p.2
  | [],_,h=>by cases h
  | (k,s)::D,nd,h=>by
    rw [List.map_cons,List.nodup_cons] at nd
    have iq:inn ((k,s)::D) p.1=if k=p.1 then s else inn D p.1:=by rw [inn]
    rw [iq]
    rcases List.mem_cons.mp h with e | h -- here
    · subst e; rw [if_pos rfl]
    · have ne:¬ k=p.1:=fun e=>nd.1 (e ▸ List.mem_map.mpr ⟨p,h,rfl⟩)
      rw [if_neg ne]; exact Sx nd.2 h
theorem inside (nb:(bs.map (·.nm)).Nodup) (nD:(D.map (·.1)).Nodup) (hD:∀ p∈D,p.1∈bs.map (·.nm)) (hb:∀ b∈bs,b.nm=Str.ofString "x" ∨ b.nm=Str.ofString "y") (hi:∀ b∈bs,inB B b=true) :
    bs.all (inB (beh D hand to B))=D.all (win B bs):=by
  have e:∀ b∈bs,bk (beh D hand to B) b.nm=val B (inn D b.nm):=fun b h=>by
    unfold beh
    rw [Fd,if_neg (Tt (hb b h)),Ze nD]
  rw [Bool.eq_iff_iff,List.all_eq_true,List.all_eq_true] -- here
  refine ⟨fun h p hp=>?_,fun h b hm=>?_⟩
  · obtain ⟨b,hm,q⟩:=List.mem_map.mp (hD p hp)
    have z:=h b hm
    unfold inB at z
    rw [e b hm,q,Sx nD hp] at z
    unfold win
    rw [← q,T6 nb hm]
    exact z
  · unfold inB
    rw [e b hm]
    by_cases m:b.nm∈D.map (·.1)
    · obtain ⟨p,hp,q⟩:=List.mem_map.mp m
      have z:=h p hp
      unfold win at z
      rw [q,T6 nb hm] at z
      rw [← q,Sx nD hp]
      exact z
    · rw [Sw m,Vu]
      exact hi b hm
end
end K
end
noncomputable section
set_option linter.all false
set_option maxRecDepth 100000
set_option maxHeartbeats 1000000
set_option autoImplicit false
namespace K
open C PySem
noncomputable abbrev qQ (P:T) (n:Nat) (t:T) (B:List (C.Key × T)) (a b c d e f g:Slot) (sto:List SO):Sta:=⟨[some (P,false),some (.obj n,false),some (t,false),some (.dic B,false),a,b,c,d,e,f,g],sto⟩
noncomputable abbrev a8o:S:=(jd (sGo (wz [7,8]) (dw nq (ak (bw 0) (ak (bw 4) (ak (bw 3) dh)))))
  (jd (m6 9 (rm (Dm (gj (bw 5)) (gj (rm (Dm (gj (dw (g8 40) (ak (mOp cu (bw 4) (au (.int 2))) (ak (bw 3) dh)))) (gj (rm (Dm (gj (bw 8)) (gj (rm (Dj (gj (dw (g8 40) (ak (bw 6) (ak (bw 7) dh))))))))))))))))
  (jd (m6 10 (dw kh (ak (bw 0) (ak (bw 1) (ak (bw 2) dh)))))
  (jd (sIf (mOr (Dj (gj (iz Oc (ak (bw 10) dh)))) (gj (mOp eqO (dw m5 (ak (mOp cu (bw 10) (mUn Ho (au (.int 1)))) (ak (bw 3) dh))) (dw (g8 40) (ak (bw 6) (ak (bw 7) dh))))))
  (pq (au (.bl false)))
  vo)
  (pq (mOp eqO (mOp eqO (iz Ax (ak (p7 1 [3] (hName 0) (qu (bw 10)) (Dj (gj (dw m5 (ak (bw 0) (ak (bw 1) dh))))) (au (.int 1))) dh)) (au (.int 0))) (bw 9)))))))
noncomputable abbrev qR (P:T) (n:Nat) (t:T) (B:List (C.Key × T)) (S:T) (st:Bool) (a:Rem) (B':List (C.Key × T)) (ins:Bool) (f g:Slot) (sto:List SO):Sta:=qQ P n t B (some (S,false)) (some (.bl st,false)) (some (j7 a,false)) (some (.dic B',false)) (some (.bl ins,false)) f g sto
noncomputable section
variable {B B':List (C.Key × T)} {sto:List SO} {P S t:T} {n:Nat} {g a z:Rem} {G:List Rem} {st ins:Bool}
theorem a4p:∀ l:List Rem,(((l.filter fun r=>!tv B r).length:Int)==0)=l.all (tv B)
  | []=>rfl
  | r::l=>by
    have ih:=a4p l
    rw [List.all_cons,← ih]
    cases h:tv B r
    · simp only [List.filter_cons,h,Bool.not_false,if_true,List.length_cons,Bool.false_and,beq_eq_false_iff_ne]; (clear h ih; omega)
    · simp [List.filter_cons,h]
theorem a8e {L:List T} {x:T} (hl:L.length<1000):cu (.lst (L++[x])) (.int (-1))=some x:=by
  have h1:(L++[x]).length=L.length+1:=by rw [List.length_append]; rfl
  have e:ixI (L++[x]).length (-1)=some L.length:=by
    unfold ixI
    rw [h1,if_neg (by (clear h1 hl; omega)),if_pos (by (clear h1 hl; omega))]
    congr 1; (clear h1 hl; omega)
  show (ixI (L++[x]).length (-1)).bind ((L++[x])[·]?)=some x
  rw [e]
  show (L++[x])[L.length]? = some x
  rw [List.getElem?_append_right (Nat.le_refl _),Nat.sub_self]
  rfl
theorem a2h (lb:nq [P,S,.dic B] sto=some (.tup [.dic B',.bl ins],sto)) (s2:cu S (.int 2)=some (j7 g)) (lg:g8 40 [j7 g,.dic B] sto=some (.bl (tv B g),sto)) (la:g8 40 [j7 a,.dic B'] sto=some (.bl (tv B' a),sto))
    (df:kh [P,.obj n,t] sto=some (.lst (G.map j7++[j7 z]),sto)) (ft:∀ f∈G++[z],m5 [j7 f,.dic B] sto=some (.bl (tv B f),sto)) (hz:tv B z=!tv B' a) (lG:G.length≤100)
    (hq:(G++[z]).all (tv B)=(st&&(tv B g&&(ins && !tv B' a)))) :
    ∃ s',a8o (qQ P n t B (some (S,false)) (some (.bl st,false)) (some (j7 a,false)) none none none none sto)=some (.ret (.bl true),s')∧s'.sto=sto:=by
  generalize hw:(st&&(tv B g&&(ins && !tv B' a)))=w at hq
  have A:sGo (wz [7,8]) (dw nq (ak (bw 0) (ak (bw 4) (ak (bw 3) dh)))) (qQ P n t B (some (S,false)) (some (.bl st,false)) (some (j7 a,false)) none none none none sto)=some (.next,qR P n t B S st a B' ins none none sto):=by
    generalize nq=F at *
    exact zgo (zf rfl lb) rfl
  have Bq:m6 9 (rm (Dm (gj (bw 5)) (gj (rm (Dm (gj (dw (g8 40) (ak (mOp cu (bw 4) (au (.int 2))) (ak (bw 3) dh)))) (gj (rm (Dm (gj (bw 8)) (gj (rm (Dj (gj (dw (g8 40) (ak (bw 6) (ak (bw 7) dh)))))))))))))) ) (qR P n t B S st a B' ins none none sto)=some (.next,qR P n t B S st a B' ins (some (.bl w,false)) none sto):=by
    generalize g8 40=F at *
    subst hw
    exact ys (zb (aco (zt rfl) (zt (zb (aco (zt (zf0 (zc (zo rfl rfl s2) rfl) lg)) (zt (zb (aco (zt rfl) (zt (zb (a9a (zt (zf0 rfl la))))))))))))) rfl
  have C':m6 10 (dw kh (ak (bw 0) (ak (bw 1) (ak (bw 2) dh)))) (qR P n t B S st a B' ins (some (.bl w,false)) none sto)=some (.next,qR P n t B S st a B' ins (some (.bl w,false)) (some (.lst (G.map j7++[j7 z]),false)) sto):=by
    generalize kh=F at *
    exact (ys (zf rfl df) rfl)
  have fz:=ft z (List.mem_append_right _ (List.mem_singleton.mpr rfl))
  have li:=a8e (L:=G.map j7) (x:=j7 z) (by rw [List.length_map]; (clear fz C' Bq A hq hw hz ft df la lg s2 lb; omega))
  have dq:∀ b:Bool,((!b)==b)=false:=fun b=>by cases b <;> rfl
  have D':mOr (Dj (gj (iz Oc (ak (bw 10) dh)))) (gj (mOp eqO (dw m5 (ak (mOp cu (bw 10) (mUn Ho (au (.int 1)))) (ak (bw 3) dh))) (dw (g8 40) (ak (bw 6) (ak (bw 7) dh))))) (qR P n t B S st a B' ins (some (.bl w,false)) (some (.lst (G.map j7++[j7 z]),false)) sto)=some (false,qR P n t B S st a B' ins (some (.bl w,false)) (some (.lst (G.map j7++[j7 z]),false)) sto):=by
    have eq0:eqO (.bl (tv B z)) (.bl (tv B' a))=some (.bl false):=by rw [hz,Vb,dq]
    generalize g8 40=F at *
    generalize m5=F2 at *
    simp [jo,jd,sIf,m6,sNew,pq,vo,sNx,qy,sGo,ur,yj,jz,jx,xu,gj,Dj,Dm,mOr,rm,mIf,mOp,mUn,bw,iz,ak,dh,au,Dl,dw,j8,hName,wz,p8,qu,ltT,leT,Ax,uh,Hu,ux,jr,Ho,Tg,Cy,ql,jj,Hi,isL,li,fz,la,eq0]
  have lm2:G.length+1<lim:=by show _+1<1000000; (clear D' dq li fz C' Bq A hq hw hz ft df la lg s2 lb; omega)
  have lm:(G++[z]).length<lim:=by rw [List.length_append]; show _+1<1000000; (clear D' dq li fz C' Bq A hq hw lG hz ft df la lg s2 lb; omega)
  have E:p7 1 [3] (hName 0) (qu (bw 10)) (Dj (gj (dw m5 (ak (bw 0) (ak (bw 1) dh))))) (au (.int 1)) (qR P n t B S st a B' ins (some (.bl w,false)) (some (.lst (G.map j7++[j7 z]),false)) sto)=some (.lst (((G++[z]).filter fun r=>!tv B r).map fun _=>.int 1),qR P n t B S st a B' ins (some (.bl w,false)) (some (.lst (G.map j7++[j7 z]),false)) sto):=by
    have mm:G.map j7++[j7 z]=(G++[z]).map j7:=by rw [List.map_append]; rfl
    rw [mm]
    generalize hF:p7 1 _ _ _ _ _ _=res
    exact Gb hF j7 (fun _=>.int 1) (fun r=>!tv B r) (G++[z]) (qR P n t B S st a B' ins (some (.bl w,false)) (some (.lst ((G++[z]).map j7),false)) sto) _ [some (.dic B,false)] (by simp [jo,jd,sIf,m6,sNew,pq,vo,sNx,qy,sGo,ur,yj,jz,jx,xu,gj,Dj,Dm,mOr,rm,mIf,mOp,mUn,bw,iz,ak,dh,au,Dl,dw,j8,hName,wz,p8,qu,ltT,leT,Ax,uh,Hu,ux,jr,Ho,Tg,Cy,ql,jj,Hi,lm2]) rfl rfl rfl (Nat.le_of_lt lm) (fun r hr pre hp=>by
      match pre,hp with
      | [p0],_=>exact ⟨[some (j7 r,false)],rfl,rfl,by
          have:=ft r hr
          generalize m5=F2 at *
          exact a9a (zt (zf0 rfl this)),fun _=>rfl⟩)
  have eqq:(((((G++[z]).filter fun r=>!tv B r).length:Int)==0)==w)=true:=by rw [a4p,hq]; simp
  have R:pq (mOp eqO (mOp eqO (iz Ax (ak (p7 1 [3] (hName 0) (qu (bw 10)) (Dj (gj (dw m5 (ak (bw 0) (ak (bw 1) dh))))) (au (.int 1))) dh)) (au (.int 0))) (bw 9)) (qR P n t B S st a B' ins (some (.bl w,false)) (some (.lst (G.map j7++[j7 z]),false)) sto)=some (.ret (.bl true),qR P n t B S st a B' ins (some (.bl w,false)) (some (.lst (G.map j7++[j7 z]),false)) sto) :=
    a9b (a6t (a6t (a9u E (show Ax [.lst _]=some (.int _) from rfl)) rfl Jx) rfl (by rw [List.length_map,Vb,eqq]))
  refine ⟨qR P n t B S st a B' ins (some (.bl w,false)) (some (.lst (G.map j7++[j7 z]),false)) sto,?_,rfl⟩
  unfold a8o
  rw [ig A,ig Bq,ig C',ig (Xb D'),R]
end
end K
end
noncomputable section
set_option linter.all false
set_option maxRecDepth 100000
set_option maxHeartbeats 1000000
set_option autoImplicit false
namespace K
open C PySem
structure Bok (N:List Str) (bs:List Bx) (B:List (C.Key × T)):Prop where
  bk:Bk N B
  len:B.length≤100
  x:(Str.ofString "x")∈N
  y:(Str.ofString "y")∈N
  hb:∀ b∈bs,b.nm∈N∧(b.nm=Str.ofString "x" ∨ b.nm=Str.ofString "y")∧inB B b=true
structure Sok (N:List Str) (D:List (Str × Sm)) (hand:Str) (g:Rem):Prop where
  g:Dr N 2 3 g
  D:∀ p∈D,Cn 2 p.2
  h:("@" ++ hand:Str)∈N
  l:hand.length<100
noncomputable section
variable {B:List (C.Key × T)} {sto:List SO} {t:T} {n:Nat} {g a r0 r2:Rem} {l:List ((Str × Int) × Rem)} {st:Bool} {N:List Str} {bs:List Bx} {hs:List Hd} {ss:List T} {D:List (Str × Sm)} {hand h2:Str} {here to i p2:Int} {kvs:List (List C.Key × T)}
theorem Xy (c:Ctx kvs bs D hand g) (E:Bok N bs B) (e:Sok N D hand g) (hl:∀ p∈l,Dr N 2 3 p.2∧okS p.1.1∧p.1.1.length<100) (hm:∀ p∈l,("@" ++ p.1.1:Str)∈N) (ll:l.length≤2) (da:Dr N 2 3 a)
    (df:kh [prT bs hs ss,.obj n,t] sto=some (.lst (Vz bs D g l++[agT (bh D hand to a)]),sto)) (hst:st=((l.all fun p=>bk B ("@" ++ p.1.1)==p.1.2)&&l.all fun p=>tv B p.2)) :
    ∃ s',a8o (qQ (prT bs hs ss) n t B (some (stT hand here (j7 g) D to,false)) (some (.bl st,false)) (some (j7 a,false)) none none none none sto)=some (.ret (.bl true),s')∧s'.sto=sto:=by
  have hx:=E.x
  have hy:=E.y
  have oD:∀ p∈D,okN N p.2:=fun p hp=>(e.D p hp).okN (by decide) hx hy
  have nD:∀ p∈D,p.1=Str.ofString "x" ∨ p.1=Str.ofString "y" := fun p hp=>by
    obtain ⟨b,hb,q⟩:=List.mem_map.mp (c.hD p hp).2
    rw [← q]; exact (E.hb b hb).2.1
  have be:Beh D hand to B (beh D hand to B):=aa6 c.nD nD
  have lb:=Wv (sto:=sto) (hs:=hs) (ss:=ss) (here:=here) (g:=j7 g) (to:=to) E.bk oD c.lD E.len (fun b hb=>(E.hb b hb).1) c.lb e.l
  rw [inside c.nb c.nD (fun p hp=>(c.hD p hp).2) (fun b hb=>(E.hb b hb).2.1) (fun b hb=>(E.hb b hb).2.2)] at lb
  have bd:=ab3 (h:=hand) (to:=to) e.D da
  have zt:tv B (fo (bh D hand to a) true)=!tv (beh D hand to B) a:=by
    rw [a1z bd true,ab4 be e.D da,Bool.xor_true]
  have dT:Vz bs D g l++[agT (bh D hand to a)]=(gv bs D g l).map j7++[j7 (fo (bh D hand to a) true)]:=by
    rw [aef hl e.g,(aao (bd.ok (by decide))).2]
  rw [dT] at df
  refine a2h lb st2 (Ek E.bk hx hy (by decide) e.g 40 (by decide)) (Ek (a4h E.bk) hx hy (by decide) da 40 (by decide)) df (fun f hf=>?_) zt ?_ ?_
  · rcases List.mem_append.mp hf with hf | hf
    · exact Q6 E.bk (abt hx hy hl hm e.g e.D f hf) (by decide)
    · rw [List.mem_singleton] at hf
      subst hf
      exact Q6 E.bk (a2b (by decide) hx hy bd true) (by decide)
  · have:=c.lD
    unfold gv
    simp only [List.length_append,List.length_map,List.length_cons,List.length_nil]
    (clear dT zt bd lb be nD oD hy hx hst df da hm hl e E c; omega)
  · rw [List.all_append,ace hl hm e.g e.D,List.all_cons,List.all_nil,Bool.and_true,zt,hst]
    simp only [Bool.and_assoc]
theorem Vf {c d:M Bool} {s:Sta} {x y:Bool} (h1:c s=some (x,s)) (h2:d s=some (y,s)):Dm c d s=some (x&&y,s):=by
  unfold Dm; rw [h1]
  cases x
  · rfl
  · exact h2
theorem O6 {c:M Bool} {s s1:Sta} {b:Bool} (h:c s=some (b,s1)):rm c s=some (.bl b,s1):=by unfold rm; rw [h]
theorem Jy {m:M T} {s s1:Sta} {b:Bool} (h:m s=some (.bl b,s1)):gj m s=some (b,s1):=by unfold gj; rw [h]
theorem call2 {f:Fn} {a b:M T} {s s1 s2:Sta} {t u w:T} (h:a s=some (t,s1)) (h2:b s1=some (u,s2)) (hf:f [t,u] s2.sto=some (w,s2.sto)):dw f (ak a (ak b dh)) s=some (w,s2):=by
  unfold dw ak; rw [h]; dsimp only; rw [h2]; dsimp only; unfold dh; dsimp only; rw [hf]
theorem Td {x:Str} (E:Bk N B) (h:("@" ++ x:Str)∈N):cu (.dic B) (.str ("@" ++ x))=some (.int (bk B ("@" ++ x))):=E.at h
theorem Lz {x:Str} (h:x.length<100):(Str.ofString "@").length+x.length<lim:=by
  have:(Str.ofString "@").length=1:=by decide
  show _<1000000; omega
theorem a09 (c:Ctx kvs bs D hand g) (E:Bok N bs B) (e:Sok N D hand g) (hs':sto[n]? = some (.dit kvs)) (hi:cu (.lst ss) (.int i)=some (stT hand here (j7 g) D to)) (k0:Okk kvs Bd ((hand,here),r0)) (ka:Okk kvs Bd ((hand,to),a)) (d0:Dr N 2 3 r0) (da:Dr N 2 3 a) :
    qb [prT bs hs ss,.obj n,Cm i,.dic B] sto=some (.bl true,sto):=by
  have o0:cu (Cm i) (.int 0)=some (.str "own"):=vg
  have o1:cu (Cm i) (.int 1)=some (.int i):=vp
  have hx:=E.x
  have hy:=E.y
  have hc:=Lz e.l
  have ai:=Td E.bk e.h
  have lh:=Ek (sto:=sto) E.bk hx hy (by decide) d0 40 (by decide)
  obtain ⟨s',T1,T2⟩:=Xy (st:=(bk B ("@" ++ hand)==here)&&tv B r0) (hs:=hs) (here:=here) c E e (l:=[((hand,here),r0)]) (fun p hp=>by rw [List.mem_singleton] at hp; subst hp; exact ⟨d0,k0.s,k0.l⟩) (fun p hp=>by rw [List.mem_singleton] at hp; subst hp; exact e.h) (by show 1≤2; decide) da (a2w c hs' hi k0 ka) (by simp)
  have S4:m6 4 (mOp cu (mOp cu (bw 0) (au (.int 2))) (mOp cu (bw 2) (au (.int 1)))) (qQ (prT bs hs ss) n (Cm i) B none none none none none none none sto)=some (.next,qQ (prT bs hs ss) n (Cm i) B (some (stT hand here (j7 g) D to,false)) none none none none none none sto):=(ys (zo (zo rfl rfl rfl) (zo rfl rfl rfl) hi) rfl)
  have G5:jt (bw 1) (iz (fun l=>some (.tup l)) (ak (mOp cu (bw 4) (au (.int 0))) (ak (mOp cu (bw 4) (au (.int 1))) dh))) (qQ (prT bs hs ss) n (Cm i) B (some (stT hand here (j7 g) D to,false)) none none none none none none sto)=some (j7 r0,qQ (prT bs hs ss) n (Cm i) B (some (stT hand here (j7 g) D to,false)) none none none none none none sto):=Dw (n:=n) rfl (zm (zc (zo rfl rfl st0) (zc (zo rfl rfl st1) rfl)) rfl) hs' ks2 k0.x
  have S5:m6 5 (rm (Dm (gj (mOp eqO (mOp cu (bw 3) (mOp uh (au (.str "@")) (mOp cu (bw 4) (au (.int 0))))) (mOp cu (bw 4) (au (.int 1))))) (gj (dw (g8 40) (ak (jt (bw 1) (iz (fun l=>some (.tup l)) (ak (mOp cu (bw 4) (au (.int 0))) (ak (mOp cu (bw 4) (au (.int 1))) dh)))) (ak (bw 3) dh)))))) (qQ (prT bs hs ss) n (Cm i) B (some (stT hand here (j7 g) D to,false)) none none none none none none sto)=some (.next,qQ (prT bs hs ss) n (Cm i) B (some (stT hand here (j7 g) D to,false)) (some (.bl ((bk B ("@" ++ hand)==here)&&tv B r0),false)) none none none none none sto) :=
    Ir (O6 (Vf (zt (zo (zo rfl (zo rfl (zo rfl rfl st0) (ad hc)) ai) (zo rfl rfl st1) Jx)) (Jy (call2 G5 rfl lh))))
  have G6:jt (bw 1) (iz (fun l=>some (.tup l)) (ak (mOp cu (bw 4) (au (.int 0))) (ak (mOp cu (bw 4) (au (.int 4))) dh))) (qQ (prT bs hs ss) n (Cm i) B (some (stT hand here (j7 g) D to,false)) (some (.bl ((bk B ("@" ++ hand)==here)&&tv B r0),false)) none none none none none sto)=some (j7 a,qQ (prT bs hs ss) n (Cm i) B (some (stT hand here (j7 g) D to,false)) (some (.bl ((bk B ("@" ++ hand)==here)&&tv B r0),false)) none none none none none sto):=Dw (n:=n) rfl (zm (zc (zo rfl rfl st0) (zc (zo rfl rfl st4) rfl)) rfl) hs' ks2 ka.x
  have S6:m6 6 (jt (bw 1) (iz (fun l=>some (.tup l)) (ak (mOp cu (bw 4) (au (.int 0))) (ak (mOp cu (bw 4) (au (.int 4))) dh)))) (qQ (prT bs hs ss) n (Cm i) B (some (stT hand here (j7 g) D to,false)) (some (.bl ((bk B ("@" ++ hand)==here)&&tv B r0),false)) none none none none none sto)=some (.next,qQ (prT bs hs ss) n (Cm i) B (some (stT hand here (j7 g) D to,false)) (some (.bl ((bk B ("@" ++ hand)==here)&&tv B r0),false)) (some (j7 a,false)) none none none none sto):=Ir G6
  have C7:gj (mOp eqO (mOp cu (bw 2) (au (.int 0))) (au (.str "other"))) (qQ (prT bs hs ss) n (Cm i) B (some (stT hand here (j7 g) D to,false)) (some (.bl ((bk B ("@" ++ hand)==here)&&tv B r0),false)) (some (j7 a,false)) none none none none sto)=some (false,qQ (prT bs hs ss) n (Cm i) B (some (stT hand here (j7 g) D to,false)) (some (.bl ((bk B ("@" ++ hand)==here)&&tv B r0),false)) (some (j7 a,false)) none none none none sto):=(zt (zo (zo rfl rfl rfl) rfl adi))
  unfold qb jo
  show (match jd _ _ (qQ (prT bs hs ss) n (Cm i) B none none none none none none none sto) with | some (.ret t,s)=>some (t,s.sto) | some (.next,s)=>some (.non,s.sto) | _=>none)=_
  rw [ig S4,ig S5,ig S6,ig (Xb C7)]
  unfold a8o at T1
  rw [T1]
  dsimp only
  rw [T2]
theorem Sv (c:Ctx kvs bs D hand g) (E:Bok N bs B) (e:Sok N D hand g) (hs':sto[n]? = some (.dit kvs)) (hi:cu (.lst ss) (.int i)=some (stT hand here (j7 g) D to)) (k0:Okk kvs Bd ((hand,here),r0)) (ka:Okk kvs Bd ((hand,to),a)) (k2:Okk kvs Bd ((h2,p2),r2)) (d0:Dr N 2 3 r0) (d2:Dr N 2 3 r2) (hm:("@" ++ h2:Str)∈N) :
    qb [prT bs hs ss,.obj n,Al i h2 p2,.dic B] sto=some (.bl true,sto):=by
  have o0:cu (Al i h2 p2) (.int 0)=some (.str "other"):=vg
  have o1:cu (Al i h2 p2) (.int 1)=some (.int i):=vp
  have o2:cu (Al i h2 p2) (.int 2)=some (.str h2):=Iu
  have o3:cu (Al i h2 p2) (.int 3)=some (.int p2):=Vd
  have hx:=E.x
  have hy:=E.y
  have hc:=Lz e.l
  have hc2:=Lz k2.l
  have ai:=Td E.bk e.h
  have ai2:=Td E.bk hm
  have lh:=Ek (sto:=sto) E.bk hx hy (by decide) d0 40 (by decide)
  have lh2:=Ek (sto:=sto) E.bk hx hy (by decide) d2 40 (by decide)
  obtain ⟨st,hst⟩:∃ st:Bool,((bk B ("@" ++ hand)==here)&&tv B r0)=st:=⟨_,rfl⟩
  obtain ⟨s',T1,T2⟩:=Xy (st:=st&&((bk B ("@" ++ h2)==p2)&&tv B r2)) (hs:=hs) (here:=here) c E e (l:=[((hand,here),r0),((h2,p2),r2)]) (fun p hp=>by
      rcases List.mem_cons.mp hp with z | z
      · subst z; exact ⟨d0,k0.s,k0.l⟩
      · rw [List.mem_singleton] at z; subst z; exact ⟨d2,k2.s,k2.l⟩) (fun p hp=>by
      rcases List.mem_cons.mp hp with z | z
      · subst z; exact e.h
      · rw [List.mem_singleton] at z; subst z; exact hm) (by show 2≤2; decide) d2 (Wg c hs' hi k0 k2) (by
      rw [← hst]
      simp only [List.all_cons,List.all_nil,Bool.and_true]
      cases (bk B ("@" ++ hand)==here) <;> cases tv B r0 <;> cases (bk B ("@" ++ h2)==p2) <;> cases tv B r2 <;> rfl)
  have S4:m6 4 (mOp cu (mOp cu (bw 0) (au (.int 2))) (mOp cu (bw 2) (au (.int 1)))) (qQ (prT bs hs ss) n (Al i h2 p2) B none none none none none none none sto)=some (.next,qQ (prT bs hs ss) n (Al i h2 p2) B (some (stT hand here (j7 g) D to,false)) none none none none none none sto):=(ys (zo (zo rfl rfl rfl) (zo rfl rfl rfl) hi) rfl)
  have G5:jt (bw 1) (iz (fun l=>some (.tup l)) (ak (mOp cu (bw 4) (au (.int 0))) (ak (mOp cu (bw 4) (au (.int 1))) dh))) (qQ (prT bs hs ss) n (Al i h2 p2) B (some (stT hand here (j7 g) D to,false)) none none none none none none sto)=some (j7 r0,qQ (prT bs hs ss) n (Al i h2 p2) B (some (stT hand here (j7 g) D to,false)) none none none none none none sto):=Dw (n:=n) rfl (zm (zc (zo rfl rfl st0) (zc (zo rfl rfl st1) rfl)) rfl) hs' ks2 k0.x
  have S5:m6 5 (rm (Dm (gj (mOp eqO (mOp cu (bw 3) (mOp uh (au (.str "@")) (mOp cu (bw 4) (au (.int 0))))) (mOp cu (bw 4) (au (.int 1))))) (gj (dw (g8 40) (ak (jt (bw 1) (iz (fun l=>some (.tup l)) (ak (mOp cu (bw 4) (au (.int 0))) (ak (mOp cu (bw 4) (au (.int 1))) dh)))) (ak (bw 3) dh)))))) (qQ (prT bs hs ss) n (Al i h2 p2) B (some (stT hand here (j7 g) D to,false)) none none none none none none sto)=some (.next,qQ (prT bs hs ss) n (Al i h2 p2) B (some (stT hand here (j7 g) D to,false)) (some (.bl st,false)) none none none none none sto):=by
    rw [← hst]
    exact Ir (O6 (Vf (zt (zo (zo rfl (zo rfl (zo rfl rfl st0) (ad hc)) ai) (zo rfl rfl st1) Jx)) (Jy (call2 G5 rfl lh))))
  have G6:jt (bw 1) (iz (fun l=>some (.tup l)) (ak (mOp cu (bw 4) (au (.int 0))) (ak (mOp cu (bw 4) (au (.int 4))) dh))) (qQ (prT bs hs ss) n (Al i h2 p2) B (some (stT hand here (j7 g) D to,false)) (some (.bl st,false)) none none none none none sto)=some (j7 a,qQ (prT bs hs ss) n (Al i h2 p2) B (some (stT hand here (j7 g) D to,false)) (some (.bl st,false)) none none none none none sto):=Dw (n:=n) rfl (zm (zc (zo rfl rfl st0) (zc (zo rfl rfl st4) rfl)) rfl) hs' ks2 ka.x
  have S6:m6 6 (jt (bw 1) (iz (fun l=>some (.tup l)) (ak (mOp cu (bw 4) (au (.int 0))) (ak (mOp cu (bw 4) (au (.int 4))) dh)))) (qQ (prT bs hs ss) n (Al i h2 p2) B (some (stT hand here (j7 g) D to,false)) (some (.bl st,false)) none none none none none sto)=some (.next,qQ (prT bs hs ss) n (Al i h2 p2) B (some (stT hand here (j7 g) D to,false)) (some (.bl st,false)) (some (j7 a,false)) none none none none sto):=Ir G6
  have C7:gj (mOp eqO (mOp cu (bw 2) (au (.int 0))) (au (.str "other"))) (qQ (prT bs hs ss) n (Al i h2 p2) B (some (stT hand here (j7 g) D to,false)) (some (.bl st,false)) (some (j7 a,false)) none none none none sto)=some (true,qQ (prT bs hs ss) n (Al i h2 p2) B (some (stT hand here (j7 g) D to,false)) (some (.bl st,false)) (some (j7 a,false)) none none none none sto):=(zt (zo (zo rfl rfl rfl) rfl adx))
  have G8:jt (bw 1) (iz (fun l=>some (.tup l)) (ak (mOp cu (bw 2) (au (.int 2))) (ak (mOp cu (bw 2) (au (.int 3))) dh))) (qQ (prT bs hs ss) n (Al i h2 p2) B (some (stT hand here (j7 g) D to,false)) (some (.bl st,false)) (some (j7 a,false)) none none none none sto)=some (j7 r2,qQ (prT bs hs ss) n (Al i h2 p2) B (some (stT hand here (j7 g) D to,false)) (some (.bl st,false)) (some (j7 a,false)) none none none none sto):=Dw (n:=n) rfl (zm (zc (zo rfl rfl o2) (zc (zo rfl rfl o3) rfl)) rfl) hs' ks2 k2.x
  have S8:m6 6 (jt (bw 1) (iz (fun l=>some (.tup l)) (ak (mOp cu (bw 2) (au (.int 2))) (ak (mOp cu (bw 2) (au (.int 3))) dh)))) (qQ (prT bs hs ss) n (Al i h2 p2) B (some (stT hand here (j7 g) D to,false)) (some (.bl st,false)) (some (j7 a,false)) none none none none sto)=some (.next,qQ (prT bs hs ss) n (Al i h2 p2) B (some (stT hand here (j7 g) D to,false)) (some (.bl st,false)) (some (j7 r2,false)) none none none none sto):=Ir G8
  have S9:m6 5 (rm (Dm (gj (bw 5)) (gj (rm (Dm (gj (mOp eqO (mOp cu (bw 3) (mOp uh (au (.str "@")) (mOp cu (bw 2) (au (.int 2))))) (mOp cu (bw 2) (au (.int 3))))) (gj (dw (g8 40) (ak (bw 6) (ak (bw 3) dh))))))))) (qQ (prT bs hs ss) n (Al i h2 p2) B (some (stT hand here (j7 g) D to,false)) (some (.bl st,false)) (some (j7 r2,false)) none none none none sto)=some (.next,qQ (prT bs hs ss) n (Al i h2 p2) B (some (stT hand here (j7 g) D to,false)) (some (.bl (st&&((bk B ("@" ++ h2)==p2)&&tv B r2)),false)) (some (j7 r2,false)) none none none none sto) :=
    Ir (O6 (Vf (Jy rfl) (Jy (O6 (Vf (zt (zo (zo rfl (zo rfl (zo rfl rfl o2) (ad hc2)) ai2) (zo rfl rfl o3) Jx)) (Jy (call2 rfl rfl lh2)))))))
  unfold qb jo
  show (match jd _ _ (qQ (prT bs hs ss) n (Al i h2 p2) B none none none none none none none sto) with | some (.ret t,s)=>some (t,s.sto) | some (.next,s)=>some (.non,s.sto) | _=>none)=_
  rw [ig S4,ig S5,ig S6,ig ((adu C7).trans ((ig S8).trans S9))]
  unfold a8o at T1
  rw [T1]
  dsimp only
  rw [T2]
end
end K
end
noncomputable section
set_option linter.all false
set_option maxRecDepth 100000
set_option maxHeartbeats 1000000
set_option autoImplicit false
namespace K
open C PySem
noncomputable abbrev scr (cs:List Int):T:=.lst (cs.map .int)
noncomputable def cell (cs:List Int) (k:Nat):Int:=cs.getD k 0
theorem Zc {cs:List Int} {k:Nat} {sto:List SO}:gn [scr cs,.int (k:Int)] sto=some (.int (cell cs k),sto):=by
  unfold cell
  by_cases h:k<cs.length
  · have h':(k:Int)<(cs.length:Int):=by omega
    have e:=V9 T.int cs h
    rw [List.getD_eq_getElem?_getD,List.getElem?_eq_getElem h]
    exact zrun (n:=2) (zqr (zk (zt (zo rfl (zm (zc rfl rfl) a7o) (aam h'))) (zr (zo rfl rfl e)))) rfl
  · have h':¬ (k:Int)<(cs.length:Int):=by omega
    rw [List.getD_eq_getElem?_getD,List.getElem?_eq_none (Nat.le_of_not_lt h)]
    exact zrun (n:=2) (zq (ze (zt (zo rfl (zm (zc rfl rfl) a7o) (a6u h'))) rfl) (zr rfl)) rfl
theorem Vp {cs:List Int} {k:Nat} {i:Int} {sto:List SO} (h:i=(k:Int)):gn [scr cs,.int i] sto=some (.int (cell cs k),sto):=by
  subst h; exact Zc
noncomputable section
variable {sto:List SO} {cs:List Int} {N:List Str} {x y:Int}
theorem Mj {k:Nat} {b:Bool}:∃ v:Int,jm [scr cs,.int (k:Int),.bl b] sto=some (.int v,sto):=by
  have e:=Zc (cs:=cs) (k:=k) (sto:=sto)
  generalize cell cs k=c at *
  have b1:Ah 48271=true:=by decide
  have b2:Ah 69621=true:=by decide
  have b3:Ah 2147483647=true:=by decide
  cases b with
  | true=>exact ⟨c,by unfold jm; generalize gn=F at *; exact (zrun (n:=4) (zq (zs (zf rfl e)) (zqr (zk (zt rfl) (zr rfl)))) rfl)⟩
  | false=>exact ⟨c * 48271%2147483647+c * 69621%2147483629 * 2147483647,by unfold jm; generalize gn=F at *; exact (zrun (n:=4) (zq (zs (zf rfl e)) (zq (ze (zt rfl) rfl) (zr (zo (zo (zo rfl rfl (mu2 b1)) rfl rfl) (zo (zo (zo rfl rfl (mu2 b1)) rfl rfl) rfl (mu2 b1)) rfl)))) rfl)⟩
noncomputable def fxy (a b:Int) (c:Str):Int:=if c=Str.ofString "x" then a else if c=Str.ofString "y" then b else 0
theorem adk {a b:Int}:fxy a b "b2" = 0:=by unfold fxy; rw [if_neg sbx,if_neg sby]
theorem acg {a b:Int}:fxy a b "x" = a:=by unfold fxy; rw [if_pos rfl]
theorem ab9 {a b:Int}:fxy a b "y" = b:=by unfold fxy; rw [if_neg syx,if_pos rfl]
theorem a2j {a b:Int}:([("x",a),("y",b)]:List Pr).filter (fun p=>p.2 != 0)=canon U3 (fxy a b):=by
  have h1:=adk (a:=a) (b:=b)
  have h2:=acg (a:=a) (b:=b)
  have h3:=ab9 (a:=a) (b:=b)
  generalize fxy a b=f at *
  unfold canon U3
  by_cases ha:a=0 <;> by_cases hb:b=0 <;> simp [h1,h2,h3,ha,hb,List.filter_cons]
theorem abj {n a b:Int} (h1:-2≤a) (h2:a≤2) (h3:-2≤b) (h4:b≤2):Cn 2 (n,canon U3 (fxy a b)):=⟨_,rfl,adk,by rw [acg]; exact h1,by rw [acg]; exact h2,by rw [ab9]; exact h3,by rw [ab9]; exact h4⟩
theorem a6v {a b:Int} {s:Sta} {m:M T} (hm:m s=some (.lst [.tup [.str "x",.int a],.tup [.str "y",.int b]],s)):p7 1 [] (hName 0) (qu m) (gj (mOp neO (mOp cu (bw 0) (au (.int 1))) (au (.int 0)))) (bw 0) s=some (.lst ((canon U3 (fxy a b)).map pT),s):=by
  generalize hF:p7 1 _ _ _ _ _ _=res
  have l2:2<lim:=by decide
  have:=Gb hF pT pT (fun p=>p.2 != 0) ([("x",a),("y",b)]:List Pr) s s.env [] (by unfold qu; rw [hm]; exact if_pos l2) rfl rfl rfl (by show 2≤lim; exact Nat.le_of_lt l2) (fun r hr pre hp=>by
    match pre,hp with
    | [p0],_=>exact ⟨[some (pT r,false)],rfl,rfl,by
      have i1:cu (pT r) (.int 1)=some (.int r.2):=vp
      exact zt (zo (zo rfl rfl i1) rfl a0n),fun _=>rfl⟩)
  rw [this,a2j]
theorem N7 {v:Int}:∃ s:Sm,ou [.int v,.int x,.int y] sto=some (smT s,sto)∧Cn 2 s:=by
  have b1:Ah (v%5 - 2)=true:=by simp only [Ah,decide_eq_true_eq]; omega
  have b2:Ah (v / 5%5 - 2)=true:=by simp only [Ah,decide_eq_true_eq]; omega
  refine ⟨(v / 25%9 - 4 - (v%5 - 2) * x - (v / 5%5 - 2) * y,canon U3 (fxy (v%5 - 2) (v / 5%5 - 2))),?_,abj (by (clear b2 b1; omega)) (by (clear b2 b1; omega)) (by (clear b2 b1; omega)) (by (clear b2 b1; omega))⟩
  have m1:Ji (.int (v%5 - 2)) (.int x)=some (.int ((v%5 - 2) * x)):=mu b1
  have m2:Ji (.int (v / 5%5 - 2)) (.int y)=some (.int ((v / 5%5 - 2) * y)):=mu b2
  generalize hs:(⟨[some (.int v,false),some (.int x,false),some (.int y,false),some (.tup [.int (v%5 - 2),.int (v / 5%5 - 2)],false),some (.int (v / 25%9 - 4 - (v%5 - 2) * x - (v / 5%5 - 2) * y),false)],sto⟩:Sta)=s
  have c:=a6v (a:=v%5 - 2) (b:=v / 5%5 - 2) (s:=s) (m:=iz (fun l=>some (.lst l)) (ak (iz (fun l=>some (.tup l)) (ak (au (.str "x")) (ak (mOp cu (bw 3) (au (.int 0))) dh))) (ak (iz (fun l=>some (.tup l)) (ak (au (.str "y")) (ak (mOp cu (bw 3) (au (.int 1))) dh))) dh))) (by subst hs; exact zm (zc (zm (zc rfl (zc (zo rfl rfl rfl) rfl)) rfl) (zc (zm (zc rfl (zc (zo rfl rfl rfl) rfl)) rfl) rfl)) rfl)
  subst hs
  exact (zrun (n:=5) (zq (zs (zm (zc (zo (zo rfl rfl rfl) rfl rfl) (zc (zo (zo (zo rfl rfl rfl) rfl rfl) rfl rfl) rfl)) rfl)) (zq (zs (zo (zo (zo (zo (zo rfl rfl rfl) rfl rfl) rfl rfl) (zo (zo rfl rfl rfl) rfl m1) rfl) (zo (zo rfl rfl rfl) rfl m2) rfl)) (zr (zm (zc rfl (zc (zm (zc c rfl) rfl) rfl)) rfl)))) rfl)
end
end K
end
noncomputable section
set_option linter.all false
set_option maxRecDepth 100000
set_option maxHeartbeats 1000000
set_option autoImplicit false
namespace K
open C PySem
structure Hs (hs:List Hd):Prop where
  n2:2≤hs.length
  n4:hs.length≤4
  hh:∀ h∈hs,okS h.1∧h.1.length<100∧1≤h.2∧h.2≤4
  p:(Str.ofString "p")∈hs.map (·.1)
  q:(Str.ofString "q")∈hs.map (·.1)
  r:2<hs.length→(Str.ofString "r")∈hs.map (·.1)
noncomputable def nn (hs:List Hd):List Str := "x" :: "y" :: hs.map fun h => "@" ++ h.1
noncomputable section
variable {sto:List SO} {hs:List Hd} {x y:Int}
theorem adp:(Str.ofString "x")∈nn hs:=List.mem_cons_self
theorem ade:(Str.ofString "y")∈nn hs:=List.mem_cons_of_mem _ List.mem_cons_self
theorem acp {n:Str} (h:n∈hs.map (·.1)):("@" ++ n:Str)∈nn hs:=by
  obtain ⟨d,hd,rfl⟩:=List.mem_map.mp h
  exact List.mem_cons_of_mem _ (List.mem_cons_of_mem _ (List.mem_map.mpr ⟨d,hd,rfl⟩))
theorem a0q (E:Hs hs) {n:Str} (h:n∈hs.map (·.1)) {p:Int}:Dr (nn hs) 2 0 (.pl n p):=by
  obtain ⟨d,hd,rfl⟩:=List.mem_map.mp h
  exact .pl (acp h) (E.hh d hd).1 (E.hh d hd).2.1
theorem Nr {v:Int} (E:Hs hs):∃ r:Rem,qg [.int v,.int x,.int y,.int (hs.length:Int)] sto=some (j7 r,sto)∧Dr (nn hs) 2 0 r:=by
  by_cases h2:v%4<2
  · obtain ⟨s,e,o⟩:=N7 (sto:=sto) (x:=x) (y:=y) (v:=v / 4)
    refine ⟨.most s,?_,.most o⟩
    unfold qg j7
    generalize ou=F at *
    exact (zrun (n:=5) (zq (zs (zo rfl rfl rfl)) (zqr (zk (zt (zo rfl rfl (aam h2))) (zr (zm (zc rfl (zc (zf (zc (zo rfl rfl rfl) rfl) e) rfl)) rfl))))) rfl)
  by_cases h3:v%4=2
  · obtain ⟨s,e,o⟩:=N7 (sto:=sto) (x:=x) (y:=y) (v:=v / 44)
    refine ⟨.rest s (2+v / 4%11),?_,.rest o (by (clear o e h3 h2 E; omega)) (by (clear o e h3 h2 E; omega))⟩
    have hq:(v%4==2)=true:=by rw [h3]; rfl
    unfold qg j7
    generalize ou=F at *
    exact (zrun (n:=5) (zq (zs (zo rfl rfl rfl)) (zq (ze (zt (zo rfl rfl (a6u h2))) rfl) (zqr (zk (zt (zo rfl rfl (eq_i hq))) (zr (zm (zc rfl (zc (zf (zc (zo rfl rfl rfl) rfl) e) (zc (zo rfl (zo (zo rfl rfl rfl) rfl rfl) rfl) rfl))) rfl)))))) rfl)
  · have hq:(v%4==2)=false:=beq_eq_false_iff_ne.mpr h3
    have b2:Ah 2=true:=by decide
    have gt2:gtT (.int (hs.length:Int)) (.int 2)=some (.bl (decide ((hs.length:Int) > 2))):=rfl
    by_cases hm:(hs.length:Int) > 2
    · have key:∃ n:Str,n∈hs.map (·.1)∧cu (.lst [.str "p",.str "q",.str "p",.str "r"]) (.int (v / 4%4))=some (.str n):=by
        have:v / 4%4=0∨v / 4%4=1∨v / 4%4=2∨v / 4%4=3:=by (clear hm gt2 b2 hq h3 h2 E; omega)
        rcases this with e | e | e | e <;> rw [e]
        · exact ⟨_,E.p,rfl⟩
        · exact ⟨_,E.q,rfl⟩
        · exact ⟨_,E.p,rfl⟩
        · exact ⟨_,E.r (by (clear e gt2 b2 hq h3 h2 E; omega)),rfl⟩
      obtain ⟨n,hn,hi⟩:=key
      refine ⟨.pl n (v / 16%2),?_,a0q E hn⟩
      rw [decide_eq_true hm] at gt2
      unfold qg j7
      exact (zrun (n:=5) (zq (zs (zo rfl rfl rfl)) (zq (ze (zt (zo rfl rfl (a6u h2))) rfl) (zq (ze (zt (zo rfl rfl (eq_i hq))) rfl) (zr (zm (zc rfl (zc (zo rfl (zo (zo rfl rfl rfl) (zo rfl (zo rfl (zm (zc (zo rfl rfl gt2) rfl) rfl) rfl) rfl) rfl) hi) (zc (zo (zo rfl rfl rfl) rfl rfl) rfl))) rfl))))) rfl)
    · have key:∃ n:Str,n∈hs.map (·.1)∧cu (.lst [.str "p",.str "q",.str "p",.str "r"]) (.int (v / 4%2))=some (.str n):=by
        have:v / 4%2=0∨v / 4%2=1:=by (clear hm gt2 b2 hq h3 h2 E; omega)
        rcases this with e | e <;> rw [e]
        · exact ⟨_,E.p,rfl⟩
        · exact ⟨_,E.q,rfl⟩
      obtain ⟨n,hn,hi⟩:=key
      refine ⟨.pl n (v / 16%2),?_,a0q E hn⟩
      rw [decide_eq_false hm] at gt2
      unfold qg j7
      exact (zrun (n:=5) (zq (zs (zo rfl rfl rfl)) (zq (ze (zt (zo rfl rfl (a6u h2))) rfl) (zq (ze (zt (zo rfl rfl (eq_i hq))) rfl) (zr (zm (zc rfl (zc (zo rfl (zo (zo rfl rfl rfl) (zo rfl (zo rfl (zm (zc (zo rfl rfl gt2) rfl) rfl) rfl) rfl) rfl) hi) (zc (zo (zo rfl rfl rfl) rfl rfl) rfl))) rfl))))) rfl)
theorem Mg {v:Int} (E:Hs hs):∃ r:Rem,jw [.int v,.int x,.int y,.int (hs.length:Int)] sto=some (j7 r,sto)∧Dr (nn hs) 2 3 r:=by
  obtain ⟨a,ea,oa⟩:=Nr (sto:=sto) (x:=x) (y:=y) (v:=v / 8) E
  obtain ⟨b,eb,ob⟩:=Nr (sto:=sto) (x:=x) (y:=y) (v:=v / 8000) E
  obtain ⟨c,ec,oc⟩:=Nr (sto:=sto) (x:=x) (y:=y) (v:=v / 200) E
  have two:∀ {u w:Rem} {d:Nat},Dr (nn hs) 2 d u→Dr (nn hs) 2 d w→∀ r∈[u,w],Dr (nn hs) 2 d r:=by
    intro u w d h1 h2 r hr
    simp only [List.mem_cons,List.not_mem_nil,or_false] at hr
    rcases hr with rfl | rfl
    · exact h1
    · exact h2
  have oks:∀ r∈([a,a,.no a,.all [a,b],.any [a,b],.no (.all [b,a]),.all [a,.no b,.all [],c],.any [.no a,b,a,c]]:List Rem),Dr (nn hs) 2 3 r:=by
    intro r hr
    simp only [List.mem_cons,List.not_mem_nil,or_false] at hr
    rcases hr with rfl | rfl | rfl | rfl | rfl | rfl | rfl | rfl
    · exact oa.up.up.up
    · exact oa.up.up.up
    · exact (Dr.no oa).up.up
    · exact (Dr.all (by simp) (two oa ob)).up.up
    · exact (Dr.any (by simp) (two oa ob)).up.up
    · exact (Dr.no (.all (by simp) (two ob oa))).up
    · refine (Dr.all (d:=1) (by simp) fun r hr=>?_).up
      simp only [List.mem_cons,List.not_mem_nil,or_false] at hr
      rcases hr with rfl | rfl | rfl | rfl
      · exact oa.up
      · exact .no ob
      · exact .all (by simp) fun r hr=>by cases hr
      · exact oc.up
    · refine (Dr.any (d:=1) (by simp) fun r hr=>?_).up
      simp only [List.mem_cons,List.not_mem_nil,or_false] at hr
      rcases hr with rfl | rfl | rfl | rfl
      · exact .no oa
      · exact ob.up
      · exact oa.up
      · exact oc.up
  obtain ⟨r,hm,hi⟩:=Kc j7 ([a,a,.no a,.all [a,b],.any [a,b],.no (.all [b,a]),.all [a,.no b,.all [],c],.any [.no a,b,a,c]]:List Rem) (i:=v%8) (by (clear oks two oc ec ob eb oa ea E; omega)) (by simp; (clear oks two oc ec ob eb oa ea E; omega))
  refine ⟨r,?_,oks r hm⟩
  have l8:(6:Nat)+2<lim:=by decide
  simp only [List.map_cons,List.map_nil,j7,X4] at hi
  unfold jw
  generalize qg=F at *
  exact (zrun (n:=10) (zq (zs (zo rfl rfl rfl)) (zq (zs (zf (zc (zo rfl rfl rfl) rfl) ea)) (zq (zs (zf (zc (zo rfl rfl rfl) rfl) eb)) (zq (zs (zf (zc (zo rfl rfl rfl) rfl) ec)) (zq (zs rfl) (zq (zs rfl) (zr (zo (zo rfl rfl rfl) rfl hi)))))))) rfl)
end
end K
end
noncomputable section
set_option linter.all false
set_option maxRecDepth 100000
set_option maxHeartbeats 1000000
set_option autoImplicit false
namespace K
open C PySem
noncomputable abbrev W6:=Slot × Slot × Slot × Slot × Slot × Slot
noncomputable abbrev qS (cs:List Int) (b:Bool) (fi:Slot) (x y:Int) (bx:T) (hs:List Hd) (acc:List Sp) (o8 o9 o10 o11 o12 o13 o14:Slot) (sto:List SO):Sta:=⟨[some (scr cs,false),some (.bl b,false),fi,some (.int x,false),some (.int y,false),some (bx,false),some (.lst (hs.map hdT),false),some (.lst (acc.map spT),true),o8,o9,o10,o11,o12,o13,o14],sto⟩
structure Kd (hs:List Hd) (s:Sp):Prop where
  h:∃ h∈hs,s.hand=h.1∧(∃ i:Nat,s.here=(i:Int)∧(i:Int)<h.2)∧∃ j:Nat,s.to=(j:Int)∧(j:Int)<h.2
  g:Dr (nn hs) 2 3 s.guard
  n:(s.sets.map (·.1)).Sublist ([Str.ofString "x",Str.ofString "y"]:List Str)
  d:∀ p∈s.sets,Cn 2 p.2
noncomputable abbrev aal:S:=(sIf (gj (mOp gtT (mOp ux (mOp jr (bw 9) (au (.int 24))) (au (.int 3))) (au (.int 0))))
  (jd (m6 13 (dw ou (ak (mOp jr (bw 9) (au (.int 72))) (ak (bw 3) (ak (bw 4) dh)))))
  (jz 12 (iz (fun l=>some (.tup l)) (ak (au (.str "x")) (ak (iz (fun l=>some (.tup l)) (ak (mOp uh (mOp cu (bw 13) (au (.int 0))) (bw 3)) (ak (mOp cu (bw 13) (au (.int 1))) dh))) dh)))))
  vo)
noncomputable abbrev aak:S:=(sIf (gj (mOp gtT (mOp ux (mOp jr (bw 9) (au (.int 24))) (au (.int 3))) (au (.int 1))))
  (jd (m6 13 (dw ou (ak (mOp jr (bw 9) (au (.int 144))) (ak (bw 3) (ak (bw 4) dh)))))
  (jz 12 (iz (fun l=>some (.tup l)) (ak (au (.str "y")) (ak (iz (fun l=>some (.tup l)) (ak (mOp uh (mOp cu (bw 13) (au (.int 0))) (bw 4)) (ak (mOp cu (bw 13) (au (.int 1))) dh))) dh)))))
  vo)
noncomputable abbrev a2o:S:=(jd (m6 9 (dw jm (ak (bw 0) (ak (mOp uh (au (.int 9)) (bw 8)) (ak (bw 1) dh)))))
  (jd (sGo (wz [10,11]) (mOp cu (bw 6) (mOp ux (bw 9) (iz Ax (ak (bw 6) dh)))))
  (jd (sNew 12 (iz (fun l=>some (.lst l)) dh))
  (jd aal
  (jd aak
  (jd (m6 14 (dw jw (ak (mOp jr (bw 9) (au (.int 100000))) (ak (bw 3) (ak (bw 4) (ak (iz Ax (ak (bw 6) dh)) dh))))))
  (jz 7 (iz (fun l=>some (.tup l)) (ak (bw 10) (ak (mOp ux (mOp jr (bw 9) (au (.int 2))) (bw 11)) (ak (bw 14) (ak (iz Aw (ak (bw 12) dh)) (ak (mOp ux (mOp jr (bw 9) (au (.int 8))) (bw 11)) dh)))))))))))))
theorem a9o {s:Sm}:cu (smT s) (.int 1)=some (.tup (s.2.map pT)):=vp
noncomputable section
variable {sto:List SO} {hs:List Hd} {cs:List Int} {b:Bool} {fi:Slot} {x y:Int} {bx:T} {acc:List Sp}
theorem aar {a c:Int} (h:a > c):gtT (.int a) (.int c)=some (.bl true):=by show some (T.bl (decide (a > c)))=_; rw [decide_eq_true h]
theorem acy {a c:Int} (h:¬ a > c):gtT (.int a) (.int c)=some (.bl false):=by show some (T.bl (decide (a > c)))=_; rw [decide_eq_false h]
theorem abd {v:Int} {o8 o10 o11 o13 o14:Slot}:∃ (D:List (Str × Sm)) (o:Slot),aal (qS cs b fi x y bx hs acc o8 (some (.int v,false)) o10 o11 (some (.lst [],true)) o13 o14 sto)=some (.next,qS cs b fi x y bx hs acc o8 (some (.int v,false)) o10 o11 (some (.lst (D.map seT),true)) o o14 sto)∧(∀ p∈D,Cn 2 p.2)∧(D=[]∧¬ v / 24%3 > 1∨D.map (·.1)=([Str.ofString "x"]:List Str)):=by
  by_cases h:v / 24%3 > 0
  · obtain ⟨s,e,c⟩:=N7 (sto:=sto) (x:=x) (y:=y) (v:=v / 72)
    have gq:=aar h
    refine ⟨[("x",(s.1+x,s.2))],some (smT s,false),?_,fun p hp=>?_,.inr rfl⟩
    · unfold aal
      generalize ou=F at *
      exact zk (zt (zo (zo (zo rfl rfl rfl) rfl rfl) rfl gq)) (zq (zs (zf (zc (zo rfl rfl rfl) rfl) e)) (za (zm (zc rfl (zc (zm (zc (zo (zo rfl rfl a3b) rfl rfl) (zc (zo rfl rfl a9o) rfl)) rfl) rfl)) rfl) rfl (by decide) rfl rfl))
    · rw [List.mem_singleton] at hp; subst hp; exact c
  · have gq:=acy h
    refine ⟨[],o13,?_,(fun p hp=>by cases hp),.inl ⟨rfl,by omega⟩⟩
    unfold aal
    exact ze (zt (zo (zo (zo rfl rfl rfl) rfl rfl) rfl gq)) rfl
theorem aas {v:Int} {o8 o10 o11 o13 o14:Slot} {D:List (Str × Sm)} (c0:∀ p∈D,Cn 2 p.2) (hD:D=[]∧¬ v / 24%3 > 1∨D.map (·.1)=([Str.ofString "x"]:List Str)):∃ (D':List (Str × Sm)) (o:Slot),aak (qS cs b fi x y bx hs acc o8 (some (.int v,false)) o10 o11 (some (.lst (D.map seT),true)) o13 o14 sto)=some (.next,qS cs b fi x y bx hs acc o8 (some (.int v,false)) o10 o11 (some (.lst (D'.map seT),true)) o o14 sto)∧(∀ p∈D',Cn 2 p.2)∧(D'.map (·.1)).Sublist ([Str.ofString "x",Str.ofString "y"]:List Str):=by
  by_cases h:v / 24%3 > 1
  · obtain ⟨s,e,c⟩:=N7 (sto:=sto) (x:=x) (y:=y) (v:=v / 144)
    have gq:=aar h
    rcases hD with hD | hD
    · exact absurd h hD.2
    have ld:D.length<lim:=by
      have:=congrArg List.length hD
      rw [List.length_map] at this
      rw [this]; decide
    refine ⟨D++[(Str.ofString "y",(s.1+y,s.2))],some (smT s,false),?_,fun p hp=>?_,?_⟩
    · unfold aak
      generalize ou=F at *
      exact zk (zt (zo (zo (zo rfl rfl rfl) rfl rfl) rfl gq)) (zq (zs (zf (zc (zo rfl rfl rfl) rfl) e)) (za (zm (zc rfl (zc (zm (zc (zo (zo rfl rfl a3b) rfl rfl) (zc (zo rfl rfl a9o) rfl)) rfl) rfl)) rfl) rfl (by rw [List.length_map]; exact ld) rfl (by unfold qS; rw [List.map_append]; rfl)))
    · rcases List.mem_append.mp hp with hp | hp -- here
      · exact c0 p hp
      · rw [List.mem_singleton] at hp; subst hp; exact c
    · rw [List.map_append,hD]; exact List.Sublist.refl _
  · have gq:=acy h
    refine ⟨D,o13,?_,c0,?_⟩
    · unfold aak
      exact ze (zt (zo (zo (zo rfl rfl rfl) rfl rfl) rfl gq)) rfl
    · rcases hD with hD | hD
      · rw [hD.1]; exact List.nil_sublist _
      · rw [hD]; exact List.Sublist.cons₂ _ (List.nil_sublist _)
theorem a01 {k:Nat} {o9 o10 o11 o12 o13 o14:Slot} (E:Hs hs) (la:acc.length<1000) :
    ∃ (s:Sp) (w:W6),Kd hs s∧a2o (qS cs b fi x y bx hs acc (some (.int (k:Int),false)) o9 o10 o11 o12 o13 o14 sto)=some (.next,qS cs b fi x y bx hs (acc++[s]) (some (.int (k:Int),false)) w.1 w.2.1 w.2.2.1 w.2.2.2.1 w.2.2.2.2.1 w.2.2.2.2.2 sto):=by
  have n2:=E.n2
  obtain ⟨v,ex⟩:=Mj (cs:=cs) (k:=9+k) (b:=b) (sto:=sto)
  have ek:((9+k:Nat):Int)=9+(k:Int):=by (clear ex n2 la E; omega)
  rw [ek] at ex
  have p0:(0:Int)<hs.length:=by (clear ek ex la E; omega)
  have p0':0<hs.length:=by (clear ek ex n2 la E; omega)
  have m0:=Int.emod_nonneg v (show (hs.length:Int)≠0 by (clear p0 ek ex n2 la E; omega))
  have m1:=Int.emod_lt_of_pos v p0
  obtain ⟨h,hm,hi⟩:=Kc hdT hs m0 m1
  obtain ⟨_,_,h1,_⟩:=E.hh h hm
  have hp:0<h.2:=by (clear hi hm m1 m0 p0' p0 ek ex n2 la E; omega)
  have A:m6 9 (dw jm (ak (bw 0) (ak (mOp uh (au (.int 9)) (bw 8)) (ak (bw 1) dh)))) (qS cs b fi x y bx hs acc (some (.int (k:Int),false)) o9 o10 o11 o12 o13 o14 sto)=some (.next,qS cs b fi x y bx hs acc (some (.int (k:Int),false)) (some (.int v,false)) o10 o11 o12 o13 o14 sto):=by
    generalize jm=F at *
    exact (ys (zf (zc rfl (zc (zo rfl rfl rfl) rfl)) ex) rfl)
  have I1:mOp cu (bw 6) (mOp ux (bw 9) (iz Ax (ak (bw 6) dh))) (qS cs b fi x y bx hs acc (some (.int (k:Int),false)) (some (.int v,false)) o10 o11 o12 o13 o14 sto)=some (hdT h,qS cs b fi x y bx hs acc (some (.int (k:Int),false)) (some (.int v,false)) o10 o11 o12 o13 o14 sto):=(zo rfl (zo rfl (zm rfl a7o) (md p0)) hi)
  have B:sGo (wz [10,11]) (mOp cu (bw 6) (mOp ux (bw 9) (iz Ax (ak (bw 6) dh)))) (qS cs b fi x y bx hs acc (some (.int (k:Int),false)) (some (.int v,false)) o10 o11 o12 o13 o14 sto)=some (.next,qS cs b fi x y bx hs acc (some (.int (k:Int),false)) (some (.int v,false)) (some (.str h.1,false)) (some (.int h.2,false)) o12 o13 o14 sto):=by
    unfold sGo; rw [I1]; dsimp only; unfold hdT; rw [J1]; rfl
  have C':sNew 12 (iz (fun l=>some (.lst l)) dh) (qS cs b fi x y bx hs acc (some (.int (k:Int),false)) (some (.int v,false)) (some (.str h.1,false)) (some (.int h.2,false)) o12 o13 o14 sto)=some (.next,qS cs b fi x y bx hs acc (some (.int (k:Int),false)) (some (.int v,false)) (some (.str h.1,false)) (some (.int h.2,false)) (some (.lst [],true)) o13 o14 sto):=rfl
  obtain ⟨D,o,S1,c1,q1⟩:=abd (sto:=sto) (hs:=hs) (cs:=cs) (b:=b) (fi:=fi) (x:=x) (y:=y) (bx:=bx) (acc:=acc) (v:=v) (o8:=some (.int (k:Int),false)) (o10:=some (.str h.1,false)) (o11:=some (.int h.2,false)) (o13:=o13) (o14:=o14)
  obtain ⟨D',o',S2,c2,q2⟩:=aas (sto:=sto) (hs:=hs) (cs:=cs) (b:=b) (fi:=fi) (x:=x) (y:=y) (bx:=bx) (acc:=acc) (v:=v) (o8:=some (.int (k:Int),false)) (o10:=some (.str h.1,false)) (o11:=some (.int h.2,false)) (o13:=o) (o14:=o14) c1 q1
  obtain ⟨g,eg,og⟩:=Mg (sto:=sto) (x:=x) (y:=y) (v:=v / 100000) E
  have F1:m6 14 (dw jw (ak (mOp jr (bw 9) (au (.int 100000))) (ak (bw 3) (ak (bw 4) (ak (iz Ax (ak (bw 6) dh)) dh))))) (qS cs b fi x y bx hs acc (some (.int (k:Int),false)) (some (.int v,false)) (some (.str h.1,false)) (some (.int h.2,false)) (some (.lst (D'.map seT),true)) o' o14 sto)=some (.next,qS cs b fi x y bx hs acc (some (.int (k:Int),false)) (some (.int v,false)) (some (.str h.1,false)) (some (.int h.2,false)) (some (.lst (D'.map seT),true)) o' (some (j7 g,false)) sto):=by
    generalize jw=F at *
    exact (ys (zf (zc (zo rfl rfl rfl) (zc rfl (zc rfl (zc (zm rfl a7o) rfl)))) eg) rfl)
  have la':acc.length<lim:=by show _<1000000; (clear F1 og eg q2 c2 S2 q1 c1 S1 C' B I1 A hp h1 hi hm m1 m0 p0' p0 ek ex n2 E; omega)
  have n1:=Int.emod_nonneg (v / 2) (show h.2≠0 by (clear la' F1 og eg q2 c2 S2 q1 c1 S1 C' B I1 A h1 hi hm m1 m0 p0' p0 ek ex n2 la E; omega))
  have n2:=Int.emod_lt_of_pos (v / 2) hp
  have n3:=Int.emod_nonneg (v / 8) (show h.2≠0 by (clear la' F1 og eg q2 c2 S2 q1 c1 S1 C' B I1 A hp h1 hi hm m1 m0 p0' p0 ek ex la E; omega))
  have n4:=Int.emod_lt_of_pos (v / 8) hp
  refine ⟨⟨h.1,v / 2%h.2,g,D',v / 8%h.2⟩,(some (.int v,false),some (.str h.1,false),some (.int h.2,false),some (.lst (D'.map seT),false),o',some (j7 g,false)),⟨⟨h,hm,rfl,⟨(v / 2%h.2).toNat,by dsimp only; (clear n4 n3 n2 la' F1 og eg q2 c2 S2 q1 c1 S1 C' B I1 A hp h1 hi hm m1 m0 p0' p0 ek ex la E; omega),by (clear n1 la' F1 og eg q2 c2 S2 q1 c1 S1 C' B I1 A hp h1 hi hm m1 m0 p0' p0 ek ex la E; omega)⟩,⟨(v / 8%h.2).toNat,by dsimp only; (clear n4 n2 n1 la' F1 og eg q2 c2 S2 q1 c1 S1 C' B I1 A hp h1 hi hm m1 m0 p0' p0 ek ex la E; omega),by (clear n2 n1 la' F1 og eg q2 c2 S2 q1 c1 S1 C' B I1 A hp h1 hi hm m1 m0 p0' p0 ek ex la E; omega)⟩⟩,og,q2,c2⟩,?_⟩
  unfold a2o
  rw [ig A,ig B,ig C',ig S1,ig S2,ig F1]
  exact za (zm (zc rfl (zc (zo (zo rfl rfl rfl) rfl (md hp)) (zc rfl (zc (zm rfl rfl) (zc (zo (zo rfl rfl rfl) rfl (md hp)) rfl))))) rfl) rfl (by rw [List.length_map]; exact la') rfl (by unfold qS; rw [List.map_append]; rfl)
theorem M4 (E:Hs hs):∀ (m k:Nat) (acc:List Sp) (o8:Slot) (w:W6),acc.length+m≤10 →
    ∃ (sp:List Sp) (o8':Slot) (w':W6),sp.length=m∧(∀ s∈sp,Kd hs s)∧forL (hName 8) a2o ((List.range' k m).map fun (j:Nat)=>T.int (j:Int)) (qS cs b fi x y bx hs acc o8 w.1 w.2.1 w.2.2.1 w.2.2.2.1 w.2.2.2.2.1 w.2.2.2.2.2 sto)=some (.next,qS cs b fi x y bx hs (acc++sp) o8' w'.1 w'.2.1 w'.2.2.1 w'.2.2.2.1 w'.2.2.2.2.1 w'.2.2.2.2.2 sto)
  | 0,k,acc,o8,w,_=>⟨[],o8,w,rfl,(fun s hs=>by cases hs),by simp [forL]⟩
  | m+1,k,acc,o8,w,hl=>by
    obtain ⟨s,w1,so,st⟩:=a01 (sto:=sto) (cs:=cs) (b:=b) (fi:=fi) (x:=x) (y:=y) (bx:=bx) (acc:=acc) (k:=k) (o9:=w.1) (o10:=w.2.1) (o11:=w.2.2.1) (o12:=w.2.2.2.1) (o13:=w.2.2.2.2.1) (o14:=w.2.2.2.2.2) E (by omega)
    obtain ⟨sp,o8',w',l1,l2,ih⟩:=M4 E m (k+1) (acc++[s]) (some (.int (k:Int),false)) w1 (by rw [List.length_append,List.length_singleton]; (clear st so E; omega))
    refine ⟨s::sp,o8',w',by rw [List.length_cons,l1],fun u hu=>?_,?_⟩
    · rcases List.mem_cons.mp hu with rfl | hu -- here
      · exact so
      · exact l2 u hu
    · rw [List.range'_succ,List.map_cons,Bc (s1:=qS cs b fi x y bx hs acc (some (.int (k:Int),false)) w.1 w.2.1 w.2.2.1 w.2.2.2.1 w.2.2.2.2.1 w.2.2.2.2.2 sto) rfl st,ih,List.append_assoc]
      rfl
end
end K
end
noncomputable section
set_option linter.all false
set_option maxRecDepth 100000
set_option maxHeartbeats 1000000
set_option autoImplicit false
namespace K
open C PySem
noncomputable def bxs (x hx y hy:Int):List Bx:=[⟨"x","",x,hx,x⟩,⟨"y","",y,hy,y⟩]
noncomputable def hpq (P Q:Int):List Hd:=[("p",P),("q",Q)]
noncomputable abbrev qT (cs:List Int) (b:Bool) (c d e f g h:Slot) (sto:List SO):Sta:=⟨[some (scr cs,false),some (.bl b,false),c,d,e,f,g,h,none,none,none,none,none,none,none],sto⟩
theorem okp:okS "p" ∧ okS "q" ∧ okS "r" ∧ okS "s" := by
  unfold okS
  decide +kernel
theorem aej:(Str.ofString "p").length<100∧(Str.ofString "q").length<100∧(Str.ofString "r").length<100∧(Str.ofString "s").length<100:=by decide +kernel
noncomputable section
variable {sto:List SO} {cs:List Int} {b:Bool}
theorem a6n {P Q:Int} (h1:2≤P) (h2:P≤4) (h3:2≤Q) (h4:Q≤4) (l:List Hd) (hl:l=[]∨l=[(Str.ofString "r",2)]∨l=[(Str.ofString "r",2),(Str.ofString "s",1)]):Hs (hpq P Q++l):=by
  obtain ⟨o1,o2,o3,o4⟩:=okp
  obtain ⟨l1,l2,l3,l4⟩:=aej
  have base:∀ h∈hpq P Q,okS h.1∧h.1.length<100∧1≤h.2∧h.2≤4:=fun h hh=>by
    rcases List.mem_cons.mp hh with rfl | hh
    · exact ⟨o1,l1,by dsimp only; (clear hh l4 l3 l2 l1 o4 o3 o2 o1 hl h4 h3 h2; omega),h2⟩
    · rw [List.mem_singleton] at hh; subst hh; exact ⟨o2,l2,by dsimp only; (clear hh l4 l3 l2 l1 o4 o3 o2 o1 hl h4 h2 h1; omega),h4⟩
  have lx:∀ h∈l,okS h.1∧h.1.length<100∧1≤h.2∧h.2≤4:=fun h hh=>by
    rcases hl with rfl | rfl | rfl
    · cases hh
    · rw [List.mem_singleton] at hh; subst hh; exact ⟨o3,l3,by decide,by decide⟩
    · rcases List.mem_cons.mp hh with rfl | hh
      · exact ⟨o3,l3,by decide,by decide⟩
      · rw [List.mem_singleton] at hh; subst hh; exact ⟨o4,l4,by decide,by decide⟩
  have ll:l.length≤2:=by rcases hl with rfl | rfl | rfl <;> decide
  have lp:(hpq P Q).length=2:=rfl
  refine ⟨by rw [List.length_append]; (clear ll lx base l4 l3 l2 l1 o4 o3 o2 o1 hl h4 h3 h2 h1; omega),by rw [List.length_append]; (clear lx base l4 l3 l2 l1 o4 o3 o2 o1 hl h4 h3 h2 h1; omega),fun h hh=>?_,?_,?_,fun hz=>?_⟩
  · rcases List.mem_append.mp hh with hh | hh
    · exact base h hh
    · exact lx h hh
  · rw [List.map_append]; exact List.mem_append_left _ List.mem_cons_self
  · rw [List.map_append]; exact List.mem_append_left _ (List.mem_cons_of_mem _ List.mem_cons_self)
  · rw [List.length_append] at hz
    rw [List.map_append]
    refine List.mem_append_right _ ?_
    rcases hl with rfl | rfl | rfl
    · simp at hz; (clear ll lx base l4 l3 l2 l1 o4 o3 o2 o1 h4 h3 h2 h1; omega)
    · exact List.mem_cons_self
    · exact List.mem_cons_self
noncomputable abbrev aan:S:=(sIf (gj (mOp gtT (mOp ux (mOp jr (bw 2) (au (.int 9720))) (au (.int 3))) (au (.int 0))))
  (m6 6 (mOp uh (mOp uh (bw 6) (iz (fun l=>some (.lst l)) (ak (iz (fun l=>some (.tup l)) (ak (au (.str "r")) (ak (au (.int 2)) dh))) dh))) (K4 (iz (fun l=>some (.lst l)) (ak (iz (fun l=>some (.tup l)) (ak (au (.str "s")) (ak (au (.int 1)) dh))) dh)) Xz (Xh (mOp ux (mOp jr (bw 2) (au (.int 29160))) (au (.int 2)))))))
  vo)
theorem hands {P Q v:Int} {d e f:Slot} (h1:2≤P) (h2:P≤4) (h3:2≤Q) (h4:Q≤4):∃ hs:List Hd,Hs hs∧aan (qT cs b (some (.int v,false)) d e f (some (.lst ((hpq P Q).map hdT),false)) none sto)=some (.next,qT cs b (some (.int v,false)) d e f (some (.lst (hs.map hdT),false)) none sto):=by
  by_cases h:v / 9720%3 > 0
  · have gq:=aar h
    have l3:(2:Nat)+1<lim:=by decide
    have l4:(3:Nat)<lim:=by decide
    have l5:(3:Nat)+1<lim:=by decide
    have:v / 29160%2=0∨v / 29160%2=1:=by (clear l5 l4 l3 gq h h4 h3 h2 h1; omega)
    rcases this with hv | hv
    · refine ⟨_,a6n h1 h2 h3 h4 [(Str.ofString "r",2)] (.inr (.inl rfl)),?_⟩
      unfold aan
      simp [jo,jd,sIf,m6,sNew,pq,vo,sNx,qy,sGo,ur,yj,jz,jx,xu,gj,Dj,Dm,mOr,rm,mIf,mOp,mUn,bw,iz,ak,dh,au,Dl,dw,j8,hName,wz,p8,qu,ltT,leT,Ax,uh,Hu,ux,jr,Ho,Tg,Cy,ql,jj,Hi,gq,K4,Xz,Xh,hv,a7d,a7n,sIx,l3,l4,l5,hpq,hdT]
    · refine ⟨_,a6n h1 h2 h3 h4 [(Str.ofString "r",2),(Str.ofString "s",1)] (.inr (.inr rfl)),?_⟩
      unfold aan
      simp [jo,jd,sIf,m6,sNew,pq,vo,sNx,qy,sGo,ur,yj,jz,jx,xu,gj,Dj,Dm,mOr,rm,mIf,mOp,mUn,bw,iz,ak,dh,au,Dl,dw,j8,hName,wz,p8,qu,ltT,leT,Ax,uh,Hu,ux,jr,Ho,Tg,Cy,ql,jj,Hi,gq,K4,Xz,Xh,hv,a7d,a7n,sIx,l3,l4,l5,hpq,hdT]
  · have gq:=acy h
    refine ⟨_,a6n h1 h2 h3 h4 [] (.inl rfl),?_⟩
    unfold aan
    simp [jo,jd,sIf,m6,sNew,pq,vo,sNx,qy,sGo,ur,yj,jz,jx,xu,gj,Dj,Dm,mOr,rm,mIf,mOp,mUn,bw,iz,ak,dh,au,Dl,dw,j8,hName,wz,p8,qu,ltT,leT,Ax,uh,Hu,ux,jr,Ho,Tg,Cy,ql,jj,Hi,gq,hpq,hdT]
end
end K
end
noncomputable section
set_option linter.all false
set_option maxRecDepth 100000
set_option maxHeartbeats 1000000
set_option autoImplicit false
namespace K
open C PySem
noncomputable section
variable {sto:List SO} {cs:List Int} {b:Bool}
noncomputable abbrev xyB:S:=(sIf (gj (mOp eqO (mOp ux (mOp jr (bw 2) (au (.int 2))) (au (.int 3))) (au (.int 1))))
  (jd (m6 3 (mOp Hu (mOp ux (bw 2) (mOp a4l (au (.int 10)) (au (.int 8)))) (mOp Ji (au (.int 5)) (mOp a4l (au (.int 10)) (au (.int 7))))))
  (m6 4 (mUn Ho (mOp ux (bw 2) (mOp a4l (au (.int 10)) (au (.int 7)))))))
  vo)
theorem xy {v:Int}:∃ x y:Int,xyB (qT cs b (some (.int v,false)) (some (.int 0,false)) (some (.int 0,false)) none none none sto)=some (.next,qT cs b (some (.int v,false)) (some (.int x,false)) (some (.int y,false)) none none none sto):=by
  have b5:Ah 5=true:=by decide
  cases hq:(v / 2%3==1) with
  | true =>
    refine ⟨v%100000000 - 50000000,-(v%10000000),?_⟩
    unfold xyB
    exact (zk (zt (zo (zo (zo rfl rfl rfl) rfl rfl) rfl (eq_i hq))) (zq (zs (zo (zo rfl (zo rfl rfl rfl) rfl) (zo rfl (zo rfl rfl rfl) rfl) rfl)) (ys (zun (zo rfl (zo rfl rfl rfl) rfl) rfl) rfl)))
  | false =>
    refine ⟨0,0,?_⟩
    unfold xyB
    exact (ze (zt (zo (zo (zo rfl rfl rfl) rfl rfl) rfl (eq_i hq))) rfl)
theorem U9:∃ (x hx y hy:Int) (hs:List Hd) (sp:List Sp),sy [scr cs,.bl b] sto=some (prT (bxs x hx y hy) hs (sp.map spT),sto)∧(x≤hx∧y≤hy)∧Hs hs∧(0<sp.length∧sp.length≤5)∧∀ s∈sp,Kd hs s:=by
  have c0:=Vp (cs:=cs) (k:=0) (i:=0) (sto:=sto) rfl
  generalize cell cs 0=v at *
  obtain ⟨x,y,X⟩:=xy (sto:=sto) (cs:=cs) (b:=b) (v:=v)
  obtain ⟨hs,E,Hq⟩:=hands (sto:=sto) (cs:=cs) (b:=b) (v:=v) (P:=2+v / 216%3) (Q:=2+v / 648%3) (d:=some (.int x,false)) (e:=some (.int y,false)) (f:=some (.lst ((bxs x (x+v / 6%6) y (y+v / 36%6)).map bxT),false)) (by (clear X c0; omega)) (by (clear X c0; omega)) (by (clear X c0; omega)) (by (clear X c0; omega))
  obtain ⟨q,hq,hq5⟩:∃ q:Nat,1+v / 1944%5=(q:Int)∧0<q∧q≤5:=⟨(1+v / 1944%5).toNat,by (clear Hq E X c0; omega),by (clear Hq E X c0; omega),by (clear Hq E X c0; omega)⟩
  have lq:q<lim:=by show _<1000000; (clear hq Hq E X c0; omega)
  obtain ⟨sp,o8,w,l1,l2,sl⟩:=M4 (sto:=sto) (cs:=cs) (b:=b) (fi:=some (.int v,false)) (x:=x) (y:=y) (bx:=.lst ((bxs x (x+v / 6%6) y (y+v / 36%6)).map bxT)) E q 0 [] none (none,none,none,none,none,none) (by simp; (clear lq hq Hq E X c0; omega))
  rw [List.nil_append] at sl
  refine ⟨x,x+v / 6%6,y,y+v / 36%6,hs,sp,?_,by (clear sl l2 l1 lq hq5 hq Hq E X c0; omega),E,by (clear sl l2 lq hq Hq E X c0; omega),l2⟩
  have A:m6 2 (dw gn (ak (bw 0) (ak (au (.int 0)) dh))) (qT cs b none none none none none none sto)=some (.next,qT cs b (some (.int v,false)) none none none none none sto):=by
    generalize gn=F at *
    exact (ys (zf rfl c0) rfl)
  have B:m6 3 (au (.int 0)) (qT cs b (some (.int v,false)) none none none none none sto)=some (.next,qT cs b (some (.int v,false)) (some (.int 0,false)) none none none none sto):=rfl
  have C':m6 4 (au (.int 0)) (qT cs b (some (.int v,false)) (some (.int 0,false)) none none none none sto)=some (.next,qT cs b (some (.int v,false)) (some (.int 0,false)) (some (.int 0,false)) none none none sto):=rfl
  have D':m6 5 (iz (fun l=>some (.lst l)) (ak (iz (fun l=>some (.tup l)) (ak (au (.str "x")) (ak (au (.str "")) (ak (bw 3) (ak (mOp uh (bw 3) (mOp ux (mOp jr (bw 2) (au (.int 6))) (au (.int 6)))) (ak (bw 3) dh)))))) (ak (iz (fun l=>some (.tup l)) (ak (au (.str "y")) (ak (au (.str "")) (ak (bw 4) (ak (mOp uh (bw 4) (mOp ux (mOp jr (bw 2) (au (.int 36))) (au (.int 6)))) (ak (bw 4) dh)))))) dh))) (qT cs b (some (.int v,false)) (some (.int x,false)) (some (.int y,false)) none none none sto)=some (.next,qT cs b (some (.int v,false)) (some (.int x,false)) (some (.int y,false)) (some (.lst ((bxs x (x+v / 6%6) y (y+v / 36%6)).map bxT),false)) none none sto):=(ys (zm (zc (zm (zc rfl (zc rfl (zc rfl (zc (zo rfl (zo (zo rfl rfl rfl) rfl rfl) rfl) rfl)))) rfl) (zc (zm (zc rfl (zc rfl (zc rfl (zc (zo rfl (zo (zo rfl rfl rfl) rfl rfl) rfl) rfl)))) rfl) rfl)) rfl) rfl)
  have E':m6 6 (iz (fun l=>some (.lst l)) (ak (iz (fun l=>some (.tup l)) (ak (au (.str "p")) (ak (mOp uh (au (.int 2)) (mOp ux (mOp jr (bw 2) (au (.int 216))) (au (.int 3)))) dh))) (ak (iz (fun l=>some (.tup l)) (ak (au (.str "q")) (ak (mOp uh (au (.int 2)) (mOp ux (mOp jr (bw 2) (au (.int 648))) (au (.int 3)))) dh))) dh))) (qT cs b (some (.int v,false)) (some (.int x,false)) (some (.int y,false)) (some (.lst ((bxs x (x+v / 6%6) y (y+v / 36%6)).map bxT),false)) none none sto)=some (.next,qT cs b (some (.int v,false)) (some (.int x,false)) (some (.int y,false)) (some (.lst ((bxs x (x+v / 6%6) y (y+v / 36%6)).map bxT),false)) (some (.lst ((hpq (2+v / 216%3) (2+v / 648%3)).map hdT),false)) none sto):=(ys (zm (zc (zm (zc rfl (zc (zo rfl (zo (zo rfl rfl rfl) rfl rfl) rfl) rfl)) rfl) (zc (zm (zc rfl (zc (zo rfl (zo (zo rfl rfl rfl) rfl rfl) rfl) rfl)) rfl) rfl)) rfl) rfl)
  generalize hbx:T.lst ((bxs x (x+v / 6%6) y (y+v / 36%6)).map bxT)=bx at *
  have G:yj (hName 8) (p8 (mOp uh (au (.int 1)) (mOp ux (mOp jr (bw 2) (au (.int 1944))) (au (.int 5))))) a2o (qT cs b (some (.int v,false)) (some (.int x,false)) (some (.int y,false)) (some (bx,false)) (some (.lst (hs.map hdT),false)) (some (.lst [],true)) sto)=some (.next,qS cs b (some (.int v,false)) x y bx hs sp o8 w.1 w.2.1 w.2.2.1 w.2.2.2.1 w.2.2.2.2.1 w.2.2.2.2.2 sto):=by
    have J:p8 (mOp uh (au (.int 1)) (mOp ux (mOp jr (bw 2) (au (.int 1944))) (au (.int 5)))) (qT cs b (some (.int v,false)) (some (.int x,false)) (some (.int y,false)) (some (bx,false)) (some (.lst (hs.map hdT),false)) (some (.lst [],true)) sto)=some ((List.range' 0 q).map (fun (j:Nat)=>T.int (j:Int)),qT cs b (some (.int v,false)) (some (.int x,false)) (some (.int y,false)) (some (bx,false)) (some (.lst (hs.map hdT),false)) (some (.lst [],true)) sto):=by
      rw [← List.range_eq_range']; exact zrg (by rw [← hq]; exact zo rfl (zo (zo rfl rfl rfl) rfl rfl) rfl) lq
    unfold yj; rw [J]; exact sl
  have F7:sNew 7 (iz (fun l=>some (.lst l)) dh) (qT cs b (some (.int v,false)) (some (.int x,false)) (some (.int y,false)) (some (bx,false)) (some (.lst (hs.map hdT),false)) none sto)=some (.next,qT cs b (some (.int v,false)) (some (.int x,false)) (some (.int y,false)) (some (bx,false)) (some (.lst (hs.map hdT),false)) (some (.lst [],true)) sto):=rfl
  unfold sy jo
  show (match jd _ _ (qT cs b none none none none none none sto) with | some (.ret t,s)=>some (t,s.sto) | some (.next,s)=>some (.non,s.sto) | _=>none)=_
  rw [ig A,ig B,ig C',ig X,ig D',ig E',ig Hq,ig F7,ig G]
  unfold prT
  rw [hbx]
  rfl
end
end K
end
noncomputable section
set_option linter.all false
set_option maxRecDepth 100000
set_option maxHeartbeats 1000000
set_option autoImplicit false
namespace K
open C PySem
theorem Vh {q:List C.Key}:∀ {l r:List (List C.Key × T)},Ef q (l++r)=match Ef q l with | some t=>some t | none=>Ef q r
  | [],r=>rfl
  | (k,t)::l,r=>by
    rw [List.cons_append,Ef,Ef]
    by_cases e:k=q
    · rw [if_pos e,if_pos e]
    · rw [if_neg e,if_neg e]; exact Vh
theorem Rj {q:List C.Key}:∀ {l:List (List C.Key × T)},(l.any fun p=>decide (p.1=q))=false→Ef q l=none
  | [],_=>rfl
  | (k,t)::l,h=>by
    rw [List.any_cons,Bool.or_eq_false_iff] at h
    rw [Ef,if_neg (by simpa using h.1)]
    exact Rj h.2
theorem Nv {q k:List C.Key} {v:T}:∀ {l:List (List C.Key × T)},Ef q (l.map fun p=>if p.1=k then (p.1,v) else p)=if q=k then (Ef q l).map (fun _=>v) else Ef q l
  | []=>by simp [Ef]
  | (a,t)::l=>by
    rw [List.map_cons]
    by_cases h1:a=k
    · subst h1
      simp only [if_true,Ef,Nv (l:=l)]
      by_cases h2:a=q
      · subst h2; simp
      · simp only [if_neg h2]
    · simp only [if_neg h1,Ef,Nv (l:=l)]
      by_cases h2:a=q
      · subst h2; simp [h1]
      · simp only [if_neg h2]
theorem Um {q:List C.Key}:∀ {l:List (List C.Key × T)},(l.any fun p=>decide (p.1=q))=true→∃ t,Ef q l=some t
  | [],h=>by cases h
  | (k,t)::l,h=>by
    rw [Ef]
    by_cases e:k=q
    · exact ⟨t,if_pos e⟩
    · rw [if_neg e]
      refine Um ?_
      rw [List.any_cons] at h
      simpa [e] using h
theorem Ni {q k:List C.Key} {v:T} {l:List (List C.Key × T)}:Ef q (V2 k v l)=if q=k then some v else Ef q l:=by
  unfold V2
  split
  · rename_i h
    rw [Nv]
    by_cases e:q=k
    · subst e
      obtain ⟨t,ht⟩:=Um h
      simp [ht]
    · simp [e]
  · rename_i h
    rw [Vh]
    by_cases e:q=k
    · subst e
      rw [Rj (Bool.eq_false_iff.mpr h)]
      simp [Ef]
    · have:¬ k=q:=fun z=>e z.symm
      rw [if_neg e]
      cases Ef q l with
      | some t=>rfl
      | none=>simp [Ef,this]
theorem a2q {k:List C.Key} {v:T} {l:List (List C.Key × T)}:(V2 k v l).length≤l.length+1:=by
  unfold V2
  split
  · rw [List.length_map]; omega
  · rw [List.length_append,List.length_singleton]; omega -- here
noncomputable def Good (hs:List Hd) (kvs:List (List C.Key × T)):Prop:=∀ p∈kvs,∃ r,p.2=j7 r∧Dr (nn hs) 2 3 r
theorem Us {q:List C.Key} {t:T}:∀ {l:List (List C.Key × T)},Ef q l=some t→∃ p∈l,p.2=t
  | [],h=>by cases h
  | (k,v)::l,h=>by
    rw [Ef] at h
    split at h
    · cases h; exact ⟨_,List.mem_cons_self,rfl⟩
    · obtain ⟨p,hp,e⟩:=Us h
      exact ⟨p,List.mem_cons_of_mem _ hp,e⟩
theorem a1w {k:List C.Key} {v:T} {l:List (List C.Key × T)} {p:List C.Key × T} (h:p∈V2 k v l):p.2=v∨p∈l:=by
  unfold V2 at h
  split at h
  · obtain ⟨q,hq,e⟩:=List.mem_map.mp h -- here
    split at e
    · subst e; exact .inl rfl
    · subst e; exact .inr hq
  · rcases List.mem_append.mp h with h | h -- here
    · exact .inr h
    · rw [List.mem_singleton] at h; subst h; exact .inl rfl
noncomputable def Has (hs:List Hd) (kvs:List (List C.Key × T)):Prop:=∀ h∈hs,∀ i:Nat,(i:Int)<h.2→∃ t,Ef [.inr h.1,.inl (i:Int)] kvs=some t
noncomputable abbrev a7f:S:=(jd (m6 8 (iz (fun l=>some (.tup l)) (ak (mOp cu (mOp cu (mOp cu (bw 1) (au (.int 0))) (au (.int 0))) (au (.int 2))) (ak (mOp cu (mOp cu (mOp cu (bw 1) (au (.int 0))) (au (.int 1))) (au (.int 2))) dh))))
  (jd (Fq (bw 3) (ak (bw 5) (ak (bw 7) dh)) (dw jw (ak (dw jm (ak (bw 0) (ak (bw 4) (ak (bw 2) dh)))) (ak (mOp cu (bw 8) (au (.int 0))) (ak (mOp cu (bw 8) (au (.int 1))) (ak (iz Ax (ak (mOp cu (bw 1) (au (.int 1))) dh)) dh))))))
  (m6 4 (mOp uh (bw 4) (au (.int 1))))))
noncomputable abbrev qX (cs:List Int) (P:T) (b:Bool) (k:Nat) (e f g h:Slot) (kvs:List (List C.Key × T)):Sta:=⟨[some (scr cs,false),some (P,false),some (.bl b,false),some (.obj 0,false),some (.int (k:Int),false),e,f,g,h],[.dit kvs]⟩
noncomputable section
variable {hs:List Hd} {ss:List T} {cs:List Int} {b:Bool} {n:Str} {x hx y hy:Int}
theorem a1x {k:Nat} {j:Int} {o6 o8:Slot} {kvs:List (List C.Key × T)} (E:Hs hs) (lk:kvs.length<lim):∃ (r:Rem) (o:Slot),Dr (nn hs) 2 3 r∧a7f (qX cs (prT (bxs x hx y hy) hs ss) b k (some (.str n,false)) o6 (some (.int j,false)) o8 kvs)=some (.next,qX cs (prT (bxs x hx y hy) hs ss) b (k+1) (some (.str n,false)) o6 (some (.int j,false)) o (V2 [.inr n,.inl j] (j7 r) kvs)):=by
  obtain ⟨d,ed⟩:=Mj (cs:=cs) (k:=k) (b:=b) (sto:=[.dit kvs])
  obtain ⟨r,er,or_⟩:=Mg (sto:=[.dit kvs]) (x:=x) (y:=y) (v:=d) E
  have i0:cu (.lst ((bxs x hx y hy).map bxT)) (.int 0)=some (bxT ⟨"x","",x,hx,x⟩):=rfl
  have i1:cu (.lst ((bxs x hx y hy).map bxT)) (.int 1)=some (bxT ⟨"y","",y,hy,y⟩):=rfl
  have i2:∀ c:Bx,cu (bxT c) (.int 2)=some (.int c.lo):=fun c=>Iu
  refine ⟨r,some (.tup [.int x,.int y],false),or_,?_⟩
  unfold a7f
  generalize jm=F1 at *
  generalize jw=F2 at *
  exact zq (zs (zm (zc (zo (zo (zo rfl rfl pr0) rfl i0) rfl (i2 _)) (zc (zo (zo (zo rfl rfl pr0) rfl i1) rfl (i2 _)) rfl)) rfl)) (zq (zdp (zf (zc (zf rfl ed) (zc (zo rfl rfl rfl) (zc (zo rfl rfl rfl) (zc (zm (zc (zo rfl rfl pr1) rfl) a7o) rfl)))) er) rfl rfl rfl rfl lk rfl) (ys (zo rfl rfl rfl) rfl))
theorem Vj {o6:Slot} (E:Hs hs):∀ (m j k:Nat) (kvs:List (List C.Key × T)) (o7 o8:Slot),Good hs kvs→kvs.length+m≤1000 →
    ∃ (kvs':List (List C.Key × T)) (o7' o8':Slot),forL (hName 7) a7f ((List.range' j m).map fun (i:Nat)=>T.int (i:Int)) (qX cs (prT (bxs x hx y hy) hs ss) b k (some (.str n,false)) o6 o7 o8 kvs)
      = some (.next,qX cs (prT (bxs x hx y hy) hs ss) b (k+m) (some (.str n,false)) o6 o7' o8' kvs')∧Good hs kvs'∧kvs'.length≤kvs.length+m∧(∀ q,(∃ t,Ef q kvs=some t)→∃ t,Ef q kvs'=some t)∧∀ i,j≤i→i<j+m→∃ t,Ef [.inr n,.inl (i:Int)] kvs'=some t
  | 0,j,k,kvs,o7,o8,g,_=>⟨kvs,o7,o8,by simp [forL],g,by (clear g E; omega),(fun q h=>h),(fun i h1 h2=>by (clear g E; omega))⟩
  | m+1,j,k,kvs,o7,o8,g,hl=>by
    have lk:kvs.length<lim:=by show _<1000000; (clear g E; omega)
    obtain ⟨r,o,or_,st⟩:=a1x (cs:=cs) (b:=b) (ss:=ss) (n:=n) (x:=x) (hx:=hx) (y:=y) (hy:=hy) (k:=k) (j:=(j:Int)) (o6:=o6) (o8:=o8) E lk
    have xl:=a2q (k:=[.inr n,.inl (j:Int)]) (v:=j7 r) (l:=kvs)
    have g':Good hs (V2 [.inr n,.inl (j:Int)] (j7 r) kvs):=by
      intro p hp
      rcases a1w hp with e | e
      · exact ⟨r,e,or_⟩
      · exact g p e
    obtain ⟨kvs',o7',o8',ih,h1,h2,h3,h4⟩:=Vj E m (j+1) (k+1) (V2 [.inr n,.inl (j:Int)] (j7 r) kvs) (some (.int (j:Int),false)) o g' (by (clear g' st or_ lk g E; omega))
    refine ⟨kvs',o7',o8',?_,h1,by (clear h4 h3 h1 ih; omega),fun q hq=>h3 q ?_,fun i i1 i2=>?_⟩
    · rw [List.range'_succ,List.map_cons,Bc (s1:=qX cs (prT (bxs x hx y hy) hs ss) b k (some (.str n,false)) o6 (some (.int (j:Int),false)) o8 kvs) rfl st,ih,show k+1+m=k+(m+1) by (clear h4 h3 h2 h1 ih g' xl st or_ lk hl g E; omega)]
    · obtain ⟨t,ht⟩:=hq
      by_cases e:q=[.inr n,.inl (j:Int)]
      · exact ⟨_,by rw [Ni,if_pos e]⟩
      · exact ⟨t,by rw [Ni,if_neg e]; exact ht⟩
    · by_cases e:i=j
      · subst e
        exact h3 _ ⟨_,by rw [Ni,if_pos rfl]⟩
      · exact h4 i (by (clear i2 h4 h3 h2 h1 ih g' xl st or_ lk hl g E; omega)) (by (clear e i1 h4 h3 h2 h1 ih g' xl st or_ lk hl g E; omega))
theorem a1d (E:Hs hs):∀ (l:List Hd) (k:Nat) (kvs:List (List C.Key × T)) (o5 o6 o7 o8:Slot),(∀ h∈l,h∈hs)→Good hs kvs→kvs.length+4 * l.length≤900 →
    ∃ (kvs':List (List C.Key × T)) (k':Nat) (o5' o6' o7' o8':Slot),forL (wz [5,6]) (yj (hName 7) (p8 (bw 6)) a7f) (l.map hdT) (qX cs (prT (bxs x hx y hy) hs ss) b k o5 o6 o7 o8 kvs)
      = some (.next,qX cs (prT (bxs x hx y hy) hs ss) b k' o5' o6' o7' o8' kvs')∧Good hs kvs'∧(∀ q,(∃ t,Ef q kvs=some t)→∃ t,Ef q kvs'=some t)∧Has l kvs'
  | [],k,kvs,o5,o6,o7,o8,_,g,_=>⟨kvs,k,o5,o6,o7,o8,by simp [forL],g,(fun q h=>h),(fun h hh=>by cases hh)⟩
  | h::l,k,kvs,o5,o6,o7,o8,hl,g,hz=>by
    obtain ⟨_,_,a1,a2⟩:=E.hh h (hl h List.mem_cons_self)
    obtain ⟨m,hm,hm3⟩:∃ m:Nat,h.2=(m:Int)∧m≤4:=⟨h.2.toNat,by (clear a2 hz g hl E; omega),by (clear a1 hz g hl E; omega)⟩
    have lm:m<lim:=by show _<1000000; (clear hm a2 a1 hz g hl E; omega)
    rw [List.length_cons] at hz
    obtain ⟨kv1,o7',o8',e1,g1,l1,p1,q1⟩:=Vj (cs:=cs) (b:=b) (n:=h.1) (ss:=ss) (x:=x) (hx:=hx) (y:=y) (hy:=hy) (o6:=some (.int h.2,false)) E m 0 k kvs o7 o8 g (by (clear lm hm a2 a1 g hl E; omega))
    have st:yj (hName 7) (p8 (bw 6)) a7f (qX cs (prT (bxs x hx y hy) hs ss) b k (some (.str h.1,false)) (some (.int h.2,false)) o7 o8 kvs)=some (.next,qX cs (prT (bxs x hx y hy) hs ss) b (k+m) (some (.str h.1,false)) (some (.int h.2,false)) o7' o8' kv1):=by
      have J:p8 (bw 6) (qX cs (prT (bxs x hx y hy) hs ss) b k (some (.str h.1,false)) (some (.int h.2,false)) o7 o8 kvs)=some ((List.range' 0 m).map (fun (i:Nat)=>T.int (i:Int)),qX cs (prT (bxs x hx y hy) hs ss) b k (some (.str h.1,false)) (some (.int h.2,false)) o7 o8 kvs):=by
        rw [← List.range_eq_range',hm]; exact zrg rfl lm
      unfold yj; rw [J]; exact e1
    obtain ⟨kv2,k2,c5,c6,c7,c8,e2,g2,p2,q2⟩:=a1d E l (k+m) kv1 (some (.str h.1,false)) (some (.int h.2,false)) o7' o8' (fun y hy=>hl y (List.mem_cons_of_mem _ hy)) g1 (by (clear st q1 p1 g1 e1 lm hm a2 a1 g hl E; omega))
    refine ⟨kv2,k2,c5,c6,c7,c8,?_,g2,fun q hq=>p2 q (p1 q hq),fun y hy i hi=>?_⟩
    · rw [List.map_cons,Bc (s1:=qX cs (prT (bxs x hx y hy) hs ss) b k (some (.str h.1,false)) (some (.int h.2,false)) o7 o8 kvs) (J1 (x:=.str h.1) (y:=.int h.2)) st,e2]
    · rcases List.mem_cons.mp hy with rfl | hy -- here
      · exact p2 _ (q1 i (Nat.zero_le _) (by (clear hy e2 st q1 e1 a2 a1 hl q2 p2 g2 p1 l1 g1 lm hm3 hz g E; omega)))
      · exact q2 y hy i hi
theorem Lp (E:Hs hs):∃ kvs,mz [scr cs,prT (bxs x hx y hy) hs ss,.bl b] []=some (.obj 0,[.dit kvs])∧Good hs kvs∧Has hs kvs:=by
  have n4:=E.n4
  have l1:hs.length<lim:=by show _<1000000; omega
  obtain ⟨kvs,k',o5,o6,o7,o8,ea,g,_,h⟩:=a1d (cs:=cs) (b:=b) (ss:=ss) (x:=x) (hx:=hx) (y:=y) (hy:=hy) E hs 14 [] none none none none (fun h hh=>hh) (fun p hp=>by cases hp) (by simp; (clear l1 E; omega))
  refine ⟨kvs,?_,g,h⟩
  have A:yj (wz [5,6]) (qu (mOp cu (bw 1) (au (.int 1)))) (yj (hName 7) (p8 (bw 6)) a7f) (qX cs (prT (bxs x hx y hy) hs ss) b 14 none none none none [])=some (.next,qX cs (prT (bxs x hx y hy) hs ss) b k' o5 o6 o7 o8 kvs):=by
    have J:qu (mOp cu (bw 1) (au (.int 1))) (qX cs (prT (bxs x hx y hy) hs ss) b 14 none none none none [])=some (hs.map hdT,qX cs (prT (bxs x hx y hy) hs ss) b 14 none none none none []):=(zis (zo rfl rfl rfl) ‹_›)
    unfold yj; rw [J]; exact ea
  have S3:m6 3 U8 ⟨[some (scr cs,false),some (prT (bxs x hx y hy) hs ss,false),some (.bl b,false),none,none,none,none,none,none],[]⟩=some (.next,⟨[some (scr cs,false),some (prT (bxs x hx y hy) hs ss,false),some (.bl b,false),some (.obj 0,false),none,none,none,none,none],[.dit []]⟩):=rfl
  have S4:m6 4 (au (.int 14)) ⟨[some (scr cs,false),some (prT (bxs x hx y hy) hs ss,false),some (.bl b,false),some (.obj 0,false),none,none,none,none,none],[.dit []]⟩=some (.next,qX cs (prT (bxs x hx y hy) hs ss) b 14 none none none none []):=rfl
  unfold mz jo
  show (match jd _ _ ⟨[some (scr cs,false),some (prT (bxs x hx y hy) hs ss,false),some (.bl b,false),none,none,none,none,none,none],[]⟩ with | some (.ret t,s)=>some (t,s.sto) | some (.next,s)=>some (.non,s.sto) | _=>none)=_
  rw [ig S3,ig S4,ig A]
  rfl
end
end K
end
noncomputable section
set_option linter.all false
set_option maxRecDepth 100000
set_option maxHeartbeats 1000000
set_option autoImplicit false
namespace K
open C PySem
noncomputable abbrev qY (cs:List Int) (P:T) (k:Nat) (v:Int) (d:List (C.Key × T)) (a b c e f g:Slot) (sto:List SO):Sta:=⟨[some (scr cs,false),some (P,false),some (.int (k:Int),false),some (.int v,false),some (.dic d,true),a,b,c,e,f,g],sto⟩
structure More (d d':List (C.Key × T)):Prop where
  m:∀ n,(∃ v:Int,Ac (.inr n) d=some (.int v))→∃ v:Int,Ac (.inr n) d'=some (.int v)
  x:bk d' "x" = bk d "x"
  y:bk d' "y" = bk d "y"
theorem More.put {d:List (C.Key × T)} {n:Str} {v:Int}:More d (Du (.inr ("@" ++ n)) (.int v) d):=⟨fun q h=>by
    rw [J8]
    by_cases e:(Sum.inr q:C.Key)=.inr ("@" ++ n)
    · exact ⟨v,by rw [if_pos e]⟩
    · rw [if_neg e]; exact h,by rw [Fd,if_neg (Tt (.inl rfl))],by rw [Fd,if_neg (Tt (.inr rfl))]⟩
theorem More.trans {a b c:List (C.Key × T)} (h:More a b) (k:More b c):More a c:=⟨fun q z=>k.m q (h.m q z),k.x.trans h.x,k.y.trans h.y⟩
noncomputable section
variable {sto:List SO} {hs:List Hd} {ss:List T} {cs:List Int} {x hx y hy:Int} {P:T}
noncomputable abbrev hbB:S:=(jd (qm 4 (mOp uh (au (.str "@")) (bw 5)) (mOp ux (bw 3) (bw 10)))
  (m6 3 (mOp jr (bw 3) (au (.int 4)))))
noncomputable abbrev bbB:S:=(jd (qm 4 (bw 5) (mOp uh (bw 7) (mOp ux (bw 3) (mOp uh (mOp Hu (bw 8) (bw 7)) (au (.int 1))))))
  (m6 3 (mOp jr (bw 3) (au (.int 6)))))
theorem Yh {k:Nat} {b c e f:Slot}:∀ (l:List Hd) (v:Int) (d:List (C.Key × T)) (a g:Slot),(∀ h∈l,h.1.length<100∧1≤h.2)→d.length+l.length≤50 →
    ∃ (v':Int) (d':List (C.Key × T)) (a' g':Slot),forL (wz [5,10]) hbB (l.map hdT) (qY cs P k v d a b c e f g sto)=some (.next,qY cs P k v' d' a' b c e f g' sto)∧More d d'∧d'.length≤d.length+l.length∧∀ h∈l,∃ v:Int,Ac (.inr ("@" ++ h.1)) d'=some (.int v)
  | [],v,d,a,g,_,_=>⟨v,d,a,g,by simp [forL],⟨fun _ h=>h,rfl,rfl⟩,Nat.le_refl _,(fun h hh=>by cases hh)⟩
  | h::l,v,d,a,g,hl,hz=>by
    obtain ⟨h1,h2⟩:=hl h List.mem_cons_self
    rw [List.length_cons] at hz
    have hp:0<h.2:=by (clear h1 hz hl; omega)
    have dl:d.length<lim:=by show _<1000000; (clear hp h2 h1 hl; omega)
    have hc:=Lz h1
    have pl:=O1 (k:=.inr ("@" ++ h.1)) (t:=.int (v%h.2)) (d:=d)
    obtain ⟨v',d',a',g',ih,m,ln,q⟩:=Yh l (v / 4) (Du (.inr ("@" ++ h.1)) (.int (v%h.2)) d) (some (.str h.1,false)) (some (.int h.2,false)) (fun y hy=>hl y (List.mem_cons_of_mem _ hy)) (by (clear hc dl hp h2 h1 hl; omega))
    refine ⟨v',d',a',g',?_,More.put.trans m,by rw [List.length_cons]; (clear q m ih; omega),fun y hy=>?_⟩
    · rw [List.map_cons,Bc (s1:=qY cs P k v d (some (.str h.1,false)) b c e f (some (.int h.2,false)) sto) (s2:=qY cs P k (v / 4) (Du (.inr ("@" ++ h.1)) (.int (v%h.2)) d) (some (.str h.1,false)) b c e f (some (.int h.2,false)) sto) (J1 (x:=.str h.1) (y:=.int h.2)) ?_]
      · exact ih
      · unfold hbB
        exact zq (zw (zo rfl rfl (md hp)) rfl (zo rfl rfl (ad hc)) rfl rfl dl rfl) (ys (zo rfl rfl rfl) rfl)
    · rcases List.mem_cons.mp hy with rfl | hy -- here
      · exact m.m _ ⟨v%y.2,by rw [J8,if_pos rfl]⟩
      · exact q y hy
theorem a1q {k:Nat} (E:Hs hs) (h1:x≤hx) (h2:y≤hy):∃ B,vh [scr cs,prT (bxs x hx y hy) hs ss,.int (k:Int)] sto=some (.dic B,sto)∧Bok (nn hs) (bxs x hx y hy) B∧B.length≤10:=by
  have n4:=E.n4
  have c0:=Vp (cs:=cs) (k:=26+k) (i:=26+(k:Int)) (sto:=sto) (by (clear n4 h2 h1 E; omega))
  generalize cell cs (26+k)=v at *
  have px:0<hx - x+1:=by (clear c0 n4 h2 E; omega)
  have py:0<hy - y+1:=by (clear px c0 n4 h1 E; omega)
  have l0:(0:Nat)<lim:=by decide
  have l1:(1:Nat)<lim:=by decide
  have lh:hs.length<lim:=by show _<1000000; (clear l1 l0 py px c0 h2 h1 E; omega)
  have mx0:=Int.emod_nonneg v (show hx - x+1≠0 by (clear lh l1 l0 py c0 n4 h2 h1 E; omega))
  have mx1:=Int.emod_lt_of_pos v px
  have my0:=Int.emod_nonneg (v / 6) (show hy - y+1≠0 by (clear mx1 mx0 lh l1 l0 px c0 n4 h2 h1 E; omega))
  have my1:=Int.emod_lt_of_pos (v / 6) py
  obtain ⟨d,hd⟩:∃ d:List (C.Key × T),d=[(.inr "x",.int (x+v%(hx - x+1))),(.inr "y",.int (y+v / 6%(hy - y+1)))]:=⟨_,rfl⟩
  have dx:Ac (.inr "x") d=some (.int (x+v%(hx - x+1))):=by rw [hd]; rfl
  have dy:Ac (.inr "y") d=some (.int (y+v / 6%(hy - y+1))):=by
    rw [hd,Ac,if_neg (fun z=>sxy (Sum.inr.inj z))]; rfl
  have bx:bk d "x" = x+v%(hx - x+1):=by unfold bk; rw [dx]
  have by':bk d "y" = y+v / 6%(hy - y+1):=by unfold bk; rw [dy]
  obtain ⟨v',d',a',g',L2,m,ln,q⟩:=Yh (sto:=sto) (cs:=cs) (P:=prT (bxs x hx y hy) hs ss) (k:=k) (b:=some (.str "",false)) (c:=some (.int y,false)) (e:=some (.int hy,false)) (f:=some (.int y,false)) hs (v / 6 / 6) d (some (.str "y",false)) none (fun h hh=>⟨(E.hh h hh).2.1,(E.hh h hh).2.2.1⟩) (by rw [hd]; simp; (clear by' bx dy dx hd my1 my0 mx1 mx0 lh l1 l0 py px c0 h2 h1 E; omega))
  refine ⟨d',?_,⟨?_,by rw [hd] at ln; simp at ln; (clear q m L2 by' bx dy dx hd my1 my0 mx1 mx0 lh l1 l0 py px c0 h2 h1 E; omega),adp,ade,?_⟩,by rw [hd] at ln; simp at ln; (clear q m L2 by' bx dy dx hd my1 my0 mx1 mx0 lh l1 l0 py px c0 h2 h1 E; omega)⟩
  rotate_left
  · intro n hn
    rcases List.mem_cons.mp hn with rfl | hn
    · exact m.m _ ⟨_,dx⟩
    rcases List.mem_cons.mp hn with rfl | hn
    · exact m.m _ ⟨_,dy⟩
    · obtain ⟨h,hh,rfl⟩:=List.mem_map.mp hn
      exact q h hh
  · intro b hb
    rcases List.mem_cons.mp hb with rfl | hb -- here
    · refine ⟨adp,.inl rfl,?_⟩
      unfold inB
      rw [m.x,bx,decide_eq_true (by dsimp only; (clear hb q ln m L2 by' bx dy dx hd my1 my0 mx1 lh l1 l0 py px c0 n4 h2 h1 E; omega)),decide_eq_true (by dsimp only; (clear hb q ln m L2 by' bx dy dx hd my1 my0 mx0 lh l1 l0 py px c0 n4 h2 h1 E; omega))]; rfl
    · rw [List.mem_singleton] at hb; subst hb
      refine ⟨ade,.inr rfl,?_⟩
      unfold inB
      rw [m.y,by',decide_eq_true (by dsimp only; (clear hb q ln m L2 by' bx dy dx hd my1 mx1 mx0 lh l1 l0 py px c0 n4 h2 h1 E; omega)),decide_eq_true (by dsimp only; (clear hb q ln m L2 by' bx dy dx hd my0 mx1 mx0 lh l1 l0 py px c0 n4 h2 h1 E; omega))]; rfl
  have A:m6 3 (dw gn (ak (bw 0) (ak (mOp uh (au (.int 26)) (bw 2)) dh))) ⟨[some (scr cs,false),some (prT (bxs x hx y hy) hs ss,false),some (.int (k:Int),false),none,none,none,none,none,none,none,none],sto⟩=some (.next,⟨[some (scr cs,false),some (prT (bxs x hx y hy) hs ss,false),some (.int (k:Int),false),some (.int v,false),none,none,none,none,none,none,none],sto⟩):=by
    generalize gn=F at *
    exact (ys (zf (zc rfl (zc (zo rfl rfl rfl) rfl)) c0) rfl)
  have B:sNew 4 (au (.dic [])) ⟨[some (scr cs,false),some (prT (bxs x hx y hy) hs ss,false),some (.int (k:Int),false),some (.int v,false),none,none,none,none,none,none,none],sto⟩=some (.next,qY cs (prT (bxs x hx y hy) hs ss) k v [] none none none none none none sto):=rfl
  have C':yj (wz [5,6,7,8,9]) (qu (mOp cu (bw 1) (au (.int 0)))) bbB (qY cs (prT (bxs x hx y hy) hs ss) k v [] none none none none none none sto)=some (.next,qY cs (prT (bxs x hx y hy) hs ss) k (v / 6 / 6) d (some (.str "y",false)) (some (.str "",false)) (some (.int y,false)) (some (.int hy,false)) (some (.int y,false)) none sto):=by
    have l2:(2:Nat)<lim:=by decide
    have J:qu (mOp cu (bw 1) (au (.int 0))) (qY cs (prT (bxs x hx y hy) hs ss) k v [] none none none none none none sto)=some ([bxT ⟨"x","",x,hx,x⟩,bxT ⟨"y","",y,hy,y⟩],qY cs (prT (bxs x hx y hy) hs ss) k v [] none none none none none none sto):=zis (k:=bxs x hx y hy) (zo rfl rfl pr0) l2
    have s1:bbB (qY cs (prT (bxs x hx y hy) hs ss) k v [] (some (.str "x",false)) (some (.str "",false)) (some (.int x,false)) (some (.int hx,false)) (some (.int x,false)) none sto)=some (.next,qY cs (prT (bxs x hx y hy) hs ss) k (v / 6) [(.inr "x",.int (x+v%(hx - x+1)))] (some (.str "x",false)) (some (.str "",false)) (some (.int x,false)) (some (.int hx,false)) (some (.int x,false)) none sto):=by
      unfold bbB
      exact zq (zw (zo rfl (zo rfl (zo (zo rfl rfl rfl) rfl rfl) (md px)) rfl) rfl rfl rfl rfl (by decide) rfl) (ys (zo rfl rfl rfl) rfl)
    have s2:bbB (qY cs (prT (bxs x hx y hy) hs ss) k (v / 6) [(.inr "x",.int (x+v%(hx - x+1)))] (some (.str "y",false)) (some (.str "",false)) (some (.int y,false)) (some (.int hy,false)) (some (.int y,false)) none sto)=some (.next,qY cs (prT (bxs x hx y hy) hs ss) k (v / 6 / 6) d (some (.str "y",false)) (some (.str "",false)) (some (.int y,false)) (some (.int hy,false)) (some (.int y,false)) none sto):=by
      rw [hd]
      unfold bbB
      exact zq (zw (zo rfl (zo rfl (zo (zo rfl rfl rfl) rfl rfl) (md py)) rfl) rfl rfl rfl rfl l1 (by unfold Du; rw [if_neg (by simp [sxy])])) (ys (zo rfl rfl rfl) rfl)
    unfold yj; rw [J]
    dsimp only
    exact (Bc a1k s1).trans ((Bc a1k s2).trans rfl)
  have D':yj (wz [5,10]) (qu (mOp cu (bw 1) (au (.int 1)))) hbB (qY cs (prT (bxs x hx y hy) hs ss) k (v / 6 / 6) d (some (.str "y",false)) (some (.str "",false)) (some (.int y,false)) (some (.int hy,false)) (some (.int y,false)) none sto)=some (.next,qY cs (prT (bxs x hx y hy) hs ss) k v' d' a' (some (.str "",false)) (some (.int y,false)) (some (.int hy,false)) (some (.int y,false)) g' sto):=by
    have J:qu (mOp cu (bw 1) (au (.int 1))) (qY cs (prT (bxs x hx y hy) hs ss) k (v / 6 / 6) d (some (.str "y",false)) (some (.str "",false)) (some (.int y,false)) (some (.int hy,false)) (some (.int y,false)) none sto)=some (hs.map hdT,qY cs (prT (bxs x hx y hy) hs ss) k (v / 6 / 6) d (some (.str "y",false)) (some (.str "",false)) (some (.int y,false)) (some (.int hy,false)) (some (.int y,false)) none sto):=(zis (zo rfl rfl rfl) ‹_›)
    unfold yj; rw [J]; exact L2
  unfold vh jo
  show (match jd _ _ ⟨[some (scr cs,false),some (prT (bxs x hx y hy) hs ss,false),some (.int (k:Int),false),none,none,none,none,none,none,none,none],sto⟩ with | some (.ret t,s)=>some (t,s.sto) | some (.next,s)=>some (.non,s.sto) | _=>none)=_
  rw [Cr A,Cr B,Cr C',Cr D']
  rfl
end
end K
end
noncomputable section
set_option linter.all false
set_option maxRecDepth 100000
set_option maxHeartbeats 1000000
set_option autoImplicit false
namespace K
open C PySem
theorem Eh {α:Type} {f:α→T}:∀ {l:List α},(∀ a∈l,flat (f a)=true)→flats (l.map f)=true
  | [],_=>rfl
  | a::l,h=>by
    rw [List.map_cons,flats,h a List.mem_cons_self,Eh fun b hb=>h b (List.mem_cons_of_mem _ hb)]; rfl
theorem Ys {s:Sm}:flat (smT s)=true:=by
  unfold smT
  simp only [flat,flats,Bool.true_and,Bool.and_true]
  refine Eh fun p _=>?_
  unfold pT
  simp [flat,flats]
theorem a3l {N:List Str} {k:Int} {d:Nat} {r:Rem} (h:Dr N k d r):flat (j7 r)=true:=by
  induction h with
  | most _=>unfold j7; simp [flat,flats,Ys]
  | rest _ _ _=>unfold j7; simp [flat,flats,Ys]
  | pl _ _ _=>unfold j7; simp [flat,flats]
  | all _ _ ih=>rw [a4c]; simp [flat,flats,Eh ih]
  | any _ _ ih=>rw [a4e]; simp [flat,flats,Eh ih]
  | no _ ih=>unfold j7; simp [flat,flats,ih]
noncomputable section
variable {hs:List Hd} {sp:List Sp} {kvs:List (List C.Key × T)} {x hx y hy:Int} {B:List (C.Key × T)} {t:T}
theorem good_flat (g:Good hs kvs):Ux (.dit kvs)=true:=Eh fun p hp=>by
  obtain ⟨r,e,d⟩:=g p hp
  rw [e]; exact a3l d
theorem Dr.ten {N:List Str} {r:Rem} (h:Dr N 2 3 r):OkR Bd 10 r:=h.up.up.up.up.up.up.up.ok (by decide)
theorem okk {h:Hd} {i:Nat} (E:Hs hs) (g:Good hs kvs) (p:Has hs kvs) (hm:h∈hs) (hi:(i:Int)<h.2):∃ r,Okk kvs Bd ((h.1,(i:Int)),r)∧Dr (nn hs) 2 3 r:=by
  obtain ⟨t,ht⟩:=p h hm i hi
  obtain ⟨q,hq,rfl⟩:=Us ht
  obtain ⟨r,e,o⟩:=g q hq
  obtain ⟨a,b,_⟩:=E.hh h hm
  exact ⟨r,⟨a,b,by rw [← e]; exact ht,o.ten⟩,o⟩
inductive Dy (hs:List Hd) (sp:List Sp):T→Prop where
  | own {i:Nat}:i<sp.length→Dy hs sp (Cm (i:Int))
  | oth {i p:Nat} {h:Hd}:i<sp.length→h∈hs→(p:Int)<h.2→Dy hs sp (Al (i:Int) h.1 (p:Int))
theorem a9e:([Str.ofString "x",Str.ofString "y"]:List Str).Nodup:=by decide +kernel
theorem asked (E:Hs hs) (g:Good hs kvs) (p:Has hs kvs) (so:∀ s∈sp,Kd hs s) (d:Dy hs sp t) (hB:Bok (nn hs) (bxs x hx y hy) B) :
    qb [prT (bxs x hx y hy) hs (sp.map spT),.obj 0,t,.dic B] [.dit kvs]=some (.bl true,[.dit kvs]):=by
  have step:∀ {i:Nat} (hi:i<sp.length),∃ s:Sp,cu (.lst (sp.map spT)) (.int (i:Int))=some (stT s.hand s.here (j7 s.guard) s.sets s.to)∧Ctx kvs (bxs x hx y hy) s.sets s.hand s.guard∧Sok (nn hs) s.sets s.hand s.guard∧(∃ r0,Okk kvs Bd ((s.hand,s.here),r0)∧Dr (nn hs) 2 3 r0)∧∃ a,Okk kvs Bd ((s.hand,s.to),a)∧Dr (nn hs) 2 3 a:=by
    intro i hi
    have k:=so sp[i] (List.getElem_mem hi)
    obtain ⟨h,hm,e1,⟨i1,e2,e3⟩,⟨i2,e4,e5⟩⟩:=k.h
    obtain ⟨o1,o2,_⟩:=E.hh h hm
    have nd:(sp[i].sets.map (·.1)).Nodup:=k.n.nodup a9e
    have ln:=k.n.length_le
    rw [List.length_map] at ln
    refine ⟨sp[i],step_at hi,⟨k.g.ten,by rw [e1]; exact o1,a9e,by show 2≤3; decide,Nat.le_trans ln (by decide),nd,fun q hq=>⟨(k.d q hq).ok,k.n.subset (List.mem_map.mpr ⟨q,hq,rfl⟩)⟩⟩,⟨k.g,k.d,by rw [e1]; exact acp (List.mem_map.mpr ⟨h,hm,rfl⟩),by rw [e1]; exact o2⟩,?_,?_⟩
    · rw [e1,e2]; exact okk E g p hm e3
    · rw [e1,e4]; exact okk E g p hm e5
  cases d with
  | @own i hi =>
    obtain ⟨s,it,c,so',⟨r0,k0,d0⟩,⟨a,ka,da⟩⟩:=step hi
    exact a09 c hB so' rfl it k0 ka d0 da
  | @oth i q h hi hm hq =>
    obtain ⟨s,it,c,so',⟨r0,k0,d0⟩,⟨a,ka,da⟩⟩:=step hi
    obtain ⟨r2,k2,d2⟩:=okk E g p hm hq
    exact Sv c hB so' rfl it k0 ka k2 d0 d2 (acp (List.mem_map.mpr ⟨h,hm,rfl⟩))
end
end K
end
noncomputable section
set_option linter.all false
set_option maxRecDepth 100000
set_option maxHeartbeats 1000000
set_option autoImplicit false
namespace K
open C PySem
noncomputable abbrev qZ (cs:List Int) (b:Bool) (P:T) (l:List T) (k c:Int) (B:List (C.Key × T)) (d e:Slot) (kvs:List (List C.Key × T)):Sta:=⟨[some (scr cs,false),some (.bl b,false),some (P,false),some (.obj 0,false),some (.lst l,false),some (.int k,false),some (.int c,false),some (.dic B,true),d,e],[.dit kvs]⟩
noncomputable abbrev a7t:S:=(sIf (gj (mOp eqO (mOp ux (mOp jr (bw 6) (au (.int 5))) (au (.int 2))) (au (.int 1))))
  (jd (qm 7 (mOp uh (au (.str "@")) (mOp cu (bw 9) (au (.int 0)))) (mOp cu (bw 9) (au (.int 1))))
  (sIf (gj (mOp eqO (mOp cu (bw 8) (au (.int 0))) (au (.str "other"))))
  (qm 7 (mOp uh (au (.str "@")) (mOp cu (bw 8) (au (.int 2)))) (mOp cu (bw 8) (au (.int 3))))
  vo))
  vo)
noncomputable abbrev abn:S:=(jd (m6 9 (mOp cu (mOp cu (bw 2) (au (.int 2))) (mOp cu (bw 8) (au (.int 1)))))
  (jd a7t
  (sIf (M8 [7] (Dj (gj (dw qb (ak (bw 2) (ak (bw 3) (ak (bw 8) (ak (bw 7) dh))))))))
  (pq (au (.bl false)))
  vo)))
noncomputable section
variable {hs:List Hd} {sp:List Sp} {kvs:List (List C.Key × T)} {x hx y hy:Int} {B:List (C.Key × T)} {t:T} {cs:List Int} {b:Bool} {l:List T} {k c:Int}
theorem Bok.put {N:List Str} {bs:List Bx} {n:Str} {v:Int} (h:Bok N bs B) (hl:B.length≤50):Bok N bs (Du (.inr ("@" ++ n)) (.int v) B)∧(Du (.inr ("@" ++ n)) (.int v) B).length≤B.length+1:=by
  have pl:=O1 (k:=.inr ("@" ++ n)) (t:=.int v) (d:=B)
  refine ⟨⟨h.bk.put,by omega,h.x,h.y,fun a ha=>?_⟩,pl⟩
  obtain ⟨a1,a2,a3⟩:=h.hb a ha
  refine ⟨a1,a2,?_⟩
  unfold inB at a3 ⊢
  rw [Fd,if_neg (Tt a2)]
  exact a3
theorem a4q (E:Hs hs) (d:Dy hs sp t) {P S:T} {hand:Str} {here:Int} (s0:cu S (.int 0)=some (.str hand)) (s1:cu S (.int 1)=some (.int here)) (hl:hand.length<100) {bs:List Bx} (hB:Bok (nn hs) bs B) (lB:B.length≤40) :
    ∃ B',a7t (qZ cs b P l k c B (some (t,false)) (some (S,false)) kvs)=some (.next,qZ cs b P l k c B' (some (t,false)) (some (S,false)) kvs)∧Bok (nn hs) bs B'∧B'.length≤B.length+2:=by
  cases hq:(c / 5%2==1) with
  | false =>
    refine ⟨B,?_,hB,by (clear hq lB hB hl s1 s0 d E; omega)⟩
    unfold a7t
    exact (ze (zt (zo (zo (zo rfl rfl rfl) rfl rfl) rfl (eq_i hq))) rfl)
  | true =>
    have dl:B.length<lim:=by show _<1000000; (clear hq hB hl s1 s0 d E; omega)
    have hc:=Lz hl
    obtain ⟨h1,l1⟩:=hB.put (n:=hand) (v:=here) (by (clear hc dl hq hB hl s1 s0 d E; omega))
    have dl1:(Du (.inr ("@" ++ hand)) (.int here) B).length<lim:=by show _<1000000; (clear h1 hc dl hq hB hl s1 s0 d E; omega)
    cases d with
    | @own i hi =>
      have o0:cu (Cm (i:Int)) (.int 0)=some (.str "own"):=vg
      refine ⟨_,?_,h1,by (clear o0 hi dl1 h1 hc dl hq lB hB hl s1 s0 E; omega)⟩
      unfold a7t
      exact (zk (zt (zo (zo (zo rfl rfl rfl) rfl rfl) rfl (eq_i hq))) (zq (zw (zo rfl rfl s1) rfl (zo rfl (zo rfl rfl s0) (ad hc)) rfl rfl dl rfl) (ze (zt (zo (zo rfl rfl rfl) rfl adi)) rfl)))
    | @oth i q h hi hm hq' =>
      have o0:cu (Al (i:Int) h.1 (q:Int)) (.int 0)=some (.str "other"):=vg
      have o2:cu (Al (i:Int) h.1 (q:Int)) (.int 2)=some (.str h.1):=Iu
      have o3:cu (Al (i:Int) h.1 (q:Int)) (.int 3)=some (.int (q:Int)):=Vd
      have hc2:=Lz (E.hh h hm).2.1
      obtain ⟨h2,l2⟩:=h1.put (n:=h.1) (v:=(q:Int)) (by (clear hc2 o3 o2 o0 hq' hm hi dl1 h1 hc dl hq hB hl s1 s0 E; omega))
      refine ⟨_,?_,h2,by (clear h2 hc2 o3 o2 o0 hq' hm hi dl1 h1 hc dl hq lB hB hl s1 s0 E; omega)⟩
      unfold a7t
      exact (zk (zt (zo (zo (zo rfl rfl rfl) rfl rfl) rfl (eq_i hq))) (zq (zw (zo rfl rfl s1) rfl (zo rfl (zo rfl rfl s0) (ad hc)) rfl rfl dl rfl) (zk (zt (zo (zo rfl rfl rfl) rfl adx)) (zw (zo rfl rfl rfl) rfl (zo rfl (zo rfl rfl rfl) (ad hc2)) rfl rfl dl1 rfl))))
theorem Qi (E:Hs hs) (g:Good hs kvs) (p:Has hs kvs) (so:∀ s∈sp,Kd hs s) (d:Dy hs sp t) (hB:Bok (nn hs) (bxs x hx y hy) B) (lB:B.length≤40) {o9:Slot} :
    ∃ (B':List (C.Key × T)) (S:T),abn (qZ cs b (prT (bxs x hx y hy) hs (sp.map spT)) l k c B (some (t,false)) o9 kvs)=some (.next,qZ cs b (prT (bxs x hx y hy) hs (sp.map spT)) l k c B' (some (t,false)) (some (S,false)) kvs)∧Bok (nn hs) (bxs x hx y hy) B'∧B'.length≤B.length+2:=by
  obtain ⟨i,hi,o1⟩:∃ i:Nat,i<sp.length∧cu t (.int 1)=some (.int (i:Int)):=by
    cases d with
    | @own i hi=>exact ⟨i,hi,vp⟩
    | @oth i q h hi hm hq=>exact ⟨i,hi,vp⟩
  have st:=step_at hi
  obtain ⟨h,hm,e1,_⟩:=(so sp[i] (List.getElem_mem hi)).h
  obtain ⟨B',P1,hB',lB'⟩:=a4q (cs:=cs) (b:=b) (l:=l) (k:=k) (c:=c) (kvs:=kvs) (P:=prT (bxs x hx y hy) hs (sp.map spT)) (S:=spT sp[i]) E d vg vp (by rw [e1]; exact (E.hh h hm).2.1) hB lB
  refine ⟨B',spT sp[i],?_,hB',lB'⟩
  have A:m6 9 (mOp cu (mOp cu (bw 2) (au (.int 2))) (mOp cu (bw 8) (au (.int 1)))) (qZ cs b (prT (bxs x hx y hy) hs (sp.map spT)) l k c B (some (t,false)) o9 kvs)=some (.next,qZ cs b (prT (bxs x hx y hy) hs (sp.map spT)) l k c B (some (t,false)) (some (spT sp[i],false)) kvs):=(ys (zo (zo rfl rfl rfl) (zo rfl rfl o1) st) rfl)
  have aq:=asked E g p so d hB'
  have fl:=good_flat g
  have L:M8 [7] (Dj (gj (dw qb (ak (bw 2) (ak (bw 3) (ak (bw 8) (ak (bw 7) dh))))))) (qZ cs b (prT (bxs x hx y hy) hs (sp.map spT)) l k c B' (some (t,false)) (some (spT sp[i],false)) kvs)=some (false,qZ cs b (prT (bxs x hx y hy) hs (sp.map spT)) l k c B' (some (t,false)) (some (spT sp[i],false)) kvs):=by
    generalize qb=F at *
    have q:Dj (gj (dw F (ak (bw 2) (ak (bw 3) (ak (bw 8) (ak (bw 7) dh)))))) ⟨[some (scr cs,false),some (.bl b,false),some (prT (bxs x hx y hy) hs (sp.map spT),false),some (.obj 0,false),some (.lst l,false),some (.int k,false),some (.int c,false),some (.dic B',false),some (t,false),some (spT sp[i],false)],[.dit kvs]⟩=some (false,⟨[some (scr cs,false),some (.bl b,false),some (prT (bxs x hx y hy) hs (sp.map spT),false),some (.obj 0,false),some (.lst l,false),some (.int k,false),some (.int c,false),some (.dic B',false),some (t,false),some (spT sp[i],false)],[.dit kvs]⟩):=by
      exact a9a (k:=true) (zt (zf0 (by exact zc rfl (zc rfl (zc rfl (zc rfl rfl)))) aq))
    unfold M8
    show (match Dj _ ⟨[some (scr cs,false),some (.bl b,false),some (prT (bxs x hx y hy) hs (sp.map spT),false),some (.obj 0,false),some (.lst l,false),some (.int k,false),some (.int c,false),some (.dic B',false),some (t,false),some (spT sp[i],false)],[.dit kvs]⟩ with | some (b,s1)=>if s1.sto.all Ux then some (b,_) else none | none=>none)=_
    rw [q]
    dsimp only
    rw [if_pos (by simp [fl])]
  unfold abn
  rw [ig A,ig P1,Xb L]
end
end K
end
noncomputable section
set_option linter.all false
set_option maxRecDepth 100000
set_option maxHeartbeats 1000000
set_option autoImplicit false
namespace K
open C PySem
noncomputable def Ed (t:T):Bool:=match cu t (.int 0) with
  | some (.str w)=>!(w==Str.ofString "start")
  | _=>false
noncomputable abbrev W5:=Slot × Slot × Slot × Slot × Slot
noncomputable abbrev qO (cs:List Int) (b:Bool) (P:T) (l:List T) (w:W5) (kvs:List (List C.Key × T)):Sta:=⟨[some (scr cs,false),some (.bl b,false),some (P,false),some (.obj 0,false),some (.lst l,false),w.1,w.2.1,w.2.2.1,w.2.2.2.1,w.2.2.2.2],[.dit kvs]⟩
theorem ok3:okS "start" ∧ okS "own" ∧ okS "other" := by
  unfold okS
  decide +kernel
noncomputable abbrev aac:S:=(jd (m6 6 (dw gn (ak (bw 0) (ak (mOp uh (au (.int 26)) (bw 5)) dh))))
  (jd (sNew 7 (dw vh (ak (bw 0) (ak (bw 2) (ak (bw 5) dh)))))
  (yj (hName 8) (qu (iz (fun l=>some (.lst l)) (ak (mOp cu (bw 4) (mOp ux (mOp jr (bw 6) (au (.int 600))) (iz Ax (ak (bw 4) dh)))) (ak (mOp cu (bw 4) (mOp ux (mOp jr (bw 6) (au (.int 7))) (iz Ax (ak (bw 4) dh)))) dh)))) abn)))
noncomputable section
variable {hs:List Hd} {sp:List Sp} {kvs:List (List C.Key × T)} {x hx y hy:Int} {cs:List Int} {b:Bool} {l:List T} {sto:List SO}
theorem a8z {s:Sta} {P:T} (hv:s.env[2]? = some (some (P,false))) (dl:vf [P] s.sto=some (.lst l,s.sto)) (hl:l.length≤100) (hd:∀ t∈l,Xw hs sp t):p7 1 [] (hName 0) (qu (dw vf (ak (bw 2) dh))) (gj (mOp neO (mOp cu (bw 0) (au (.int 0))) (au (.str "start")))) (bw 0) s=some (.lst (l.filter Ed),s)∧∀ t∈l.filter Ed,Dy hs sp t:=by
  obtain ⟨o1,o2,o3⟩:=ok3
  have lm:l.length<lim:=by show _<1000000; (clear o3 o2 o1 hd dl hv; omega)
  refine ⟨?_,fun t ht=>?_⟩
  · generalize hF:p7 1 _ _ _ _ _ _=res
    have:=Gb hF (fun t=>t) (fun t=>t) Ed l s s.env [] (by
      generalize vf=F at *
      have:bw 2 s=some (P,s):=by unfold bw; rw [hv]
      have q:dw F (ak (bw 2) dh) s=some (.lst l,s):=by unfold dw ak; rw [this]; dsimp only; unfold dh; dsimp only; rw [dl]
      unfold qu; rw [q]
      dsimp only
      rw [if_pos lm,List.map_id']) rfl rfl rfl (Nat.le_of_lt lm) (fun t ht pre hp=>by
      match pre,hp with
      | [p0],_ =>
        refine ⟨[some (t,false)],rfl,rfl,?_,fun _=>rfl⟩
        have e:∃ w:Str,okS w∧cu t (.int 0)=some (.str w):=by
          cases hd t ht with
          | sta _=>exact ⟨_,o1,vg⟩
          | own _=>exact ⟨_,o2,vg⟩
          | oth _ _ _=>exact ⟨_,o3,vg⟩
        obtain ⟨w,ow,iw⟩:=e
        have ns:Ed t=!(w==Str.ofString "start"):=by unfold Ed; rw [iw]
        rw [ns]
        exact zt (zo (zo rfl rfl iw) rfl (Te ow o1)))
    rw [this,List.map_id']
  · obtain ⟨hm,hn⟩:=List.mem_filter.mp ht
    cases hd t hm with
    | sta _=>exact absurd hn (by
        unfold Ed a4w
        rw [vg]
        simp)
    | own h=>exact .own h
    | oth a b c=>exact .oth a b c
theorem a3n (E:Hs hs) (g:Good hs kvs) (p:Has hs kvs) (so:∀ s∈sp,Kd hs s) (h1:x≤hx) (h2:y≤hy) (dl:∀ t∈l,Dy hs sp t) (l0:0<l.length) (l1:l.length≤100) {k:Nat} {o6 o7 o8 o9:Slot} :
    ∃ w:W5,aac (qO cs b (prT (bxs x hx y hy) hs (sp.map spT)) l (some (.int (k:Int),false),o6,o7,o8,o9) kvs)=some (.next,qO cs b (prT (bxs x hx y hy) hs (sp.map spT)) l w kvs):=by
  have c0:=Vp (cs:=cs) (k:=26+k) (i:=26+(k:Int)) (sto:=[.dit kvs]) (by (clear l1 l0 dl h2 h1 so p g E; omega))
  generalize cell cs (26+k)=c at *
  obtain ⟨B,eb,hB,lB⟩:=a1q (sto:=[.dit kvs]) (cs:=cs) (ss:=sp.map spT) (k:=k) E h1 h2
  have p0:(0:Int)<l.length:=by (clear lB hB eb c0 l1 dl h2 h1 so p g E; omega)
  have it:∀ v:Int,∃ t∈l,cu (.lst l) (.int (v%(l.length:Int)))=some t:=fun v=>by
    have:=Kc (fun t:T=>t) l (Int.emod_nonneg v (show (l.length:Int)≠0 by (clear lB hB eb c0 l1 l0 dl h2 h1 so p g E; omega))) (Int.emod_lt_of_pos v p0)
    rw [List.map_id'] at this
    exact this
  obtain ⟨t1,m1,i1⟩:=it (c / 600)
  obtain ⟨t2,m2,i2⟩:=it (c / 7)
  obtain ⟨B1,S1,d1,b1,ln1⟩:=Qi (cs:=cs) (b:=b) (l:=l) (k:=(k:Int)) (c:=c) (o9:=o9) E g p so (dl t1 m1) hB (by (clear i2 m2 i1 m1 it p0 hB eb c0 l1 l0 dl h2 h1 so p g E; omega))
  obtain ⟨B2,S2,d2,b2,ln2⟩:=Qi (cs:=cs) (b:=b) (l:=l) (k:=(k:Int)) (c:=c) (o9:=some (S1,false)) E g p so (dl t2 m2) b1 (by (clear b1 d1 i2 m2 i1 m1 it p0 hB eb c0 l1 l0 dl h2 h1 so p g E; omega))
  refine ⟨(some (.int (k:Int),false),some (.int c,false),some (.dic B2,true),some (t2,false),some (S2,false)),?_⟩
  have A:m6 6 (dw gn (ak (bw 0) (ak (mOp uh (au (.int 26)) (bw 5)) dh))) (qO cs b (prT (bxs x hx y hy) hs (sp.map spT)) l (some (.int (k:Int),false),o6,o7,o8,o9) kvs)=some (.next,qO cs b (prT (bxs x hx y hy) hs (sp.map spT)) l (some (.int (k:Int),false),some (.int c,false),o7,o8,o9) kvs):=by
    generalize gn=F at *
    exact (ys (zf (zc rfl (zc (zo rfl rfl rfl) rfl)) c0) rfl)
  have B':sNew 7 (dw vh (ak (bw 0) (ak (bw 2) (ak (bw 5) dh)))) (qO cs b (prT (bxs x hx y hy) hs (sp.map spT)) l (some (.int (k:Int),false),some (.int c,false),o7,o8,o9) kvs)=some (.next,qZ cs b (prT (bxs x hx y hy) hs (sp.map spT)) l (k:Int) c B o8 o9 kvs):=by
    generalize vh=F at *
    exact (yn (zf rfl eb) rfl)
  have p0':0<l.length:=l0
  have l2:(2:Nat)<lim:=by decide
  have J:qu (iz (fun l=>some (.lst l)) (ak (mOp cu (bw 4) (mOp ux (mOp jr (bw 6) (au (.int 600))) (iz Ax (ak (bw 4) dh)))) (ak (mOp cu (bw 4) (mOp ux (mOp jr (bw 6) (au (.int 7))) (iz Ax (ak (bw 4) dh)))) dh))) (qZ cs b (prT (bxs x hx y hy) hs (sp.map spT)) l (k:Int) c B o8 o9 kvs)=some ([t1,t2],qZ cs b (prT (bxs x hx y hy) hs (sp.map spT)) l (k:Int) c B o8 o9 kvs):=by
    have e4:bw 4 (qZ cs b (prT (bxs x hx y hy) hs (sp.map spT)) l (k:Int) c B o8 o9 kvs)=some (.lst l,qZ cs b (prT (bxs x hx y hy) hs (sp.map spT)) l (k:Int) c B o8 o9 kvs):=rfl
    unfold qu
    rw [show iz (fun l=>some (.lst l)) (ak (mOp cu (bw 4) (mOp ux (mOp jr (bw 6) (au (.int 600))) (iz Ax (ak (bw 4) dh)))) (ak (mOp cu (bw 4) (mOp ux (mOp jr (bw 6) (au (.int 7))) (iz Ax (ak (bw 4) dh)))) dh)) (qZ cs b (prT (bxs x hx y hy) hs (sp.map spT)) l (k:Int) c B o8 o9 kvs)=some (.lst [t1,t2],qZ cs b (prT (bxs x hx y hy) hs (sp.map spT)) l (k:Int) c B o8 o9 kvs) from zm (zc (zo rfl (zo (zo rfl rfl rfl) (zm rfl rfl) (md p0)) i1) (zc (zo rfl (zo (zo rfl rfl rfl) (zm rfl rfl) (md p0)) i2) rfl)) rfl]
    exact if_pos l2
  unfold aac
  rw [ig A,ig B']
  unfold yj
  rw [J]
  exact (Bc rfl d1).trans ((Bc rfl d2).trans rfl)
theorem Wb (E:Hs hs) (g:Good hs kvs) (p:Has hs kvs) (so:∀ s∈sp,Kd hs s) (h1:x≤hx) (h2:y≤hy) (dl:∀ t∈l,Dy hs sp t) (l0:0<l.length) (l1:l.length≤100):∀ (m j:Nat) (w:W5),
    ∃ w':W5,forL (hName 5) aac ((List.range' j m).map fun (i:Nat)=>T.int (i:Int)) (qO cs b (prT (bxs x hx y hy) hs (sp.map spT)) l w kvs)=some (.next,qO cs b (prT (bxs x hx y hy) hs (sp.map spT)) l w' kvs)
  | 0,j,w=>⟨w,by simp [forL]⟩
  | m+1,j,w=>by
    obtain ⟨w1,st⟩:=a3n (cs:=cs) (b:=b) (k:=j) (o6:=w.2.1) (o7:=w.2.2.1) (o8:=w.2.2.2.1) (o9:=w.2.2.2.2) E g p so h1 h2 dl l0 l1
    obtain ⟨w',ih⟩:=Wb E g p so h1 h2 dl l0 l1 m (j+1) w1
    refine ⟨w',?_⟩
    rw [List.range'_succ,List.map_cons]
    exact (Bc rfl st).trans ih
theorem a3h {cs:List Int} (hc:cs.length≤63):∃ st,Xf [scr cs] []=some (.bl true,st):=by
  have c0:=Vp (cs:=cs) (k:=0) (i:=0) (sto:=[]) rfl
  obtain ⟨b,hb⟩:∃ b:Bool,(cell cs 0%2==1)=b:=⟨_,rfl⟩
  obtain ⟨x,hx,y,hy,hs,sp,ep,⟨h1,h2⟩,E,⟨s0,s5⟩,so⟩:=U9 (sto:=[]) (cs:=cs) (b:=b)
  obtain ⟨kvs,ea,g,p⟩:=Lp (cs:=cs) (b:=b) (ss:=sp.map spT) (x:=x) (hx:=hx) (y:=y) (hy:=hy) E
  obtain ⟨L,eL,dL,lL,mL⟩:=a0x (sto:=[.dit kvs]) (bs:=bxs x hx y hy) (hs:=hs) s5 s0 (fun s hs'=>by
    obtain ⟨h,hm,e,_⟩:=(so s hs').h
    rw [e]; exact (E.hh h hm).1) (fun h hm=>by
    obtain ⟨a,_,c,d⟩:=E.hh h hm
    exact ⟨a,d,by (clear d a hm p g ea s5 s0 so E h2 h1 ep hb c0 hc; omega)⟩) E.n4
  obtain ⟨D1,D2⟩:=a8z (s:=⟨[some (scr cs,false),some (.bl b,false),some (prT (bxs x hx y hy) hs (sp.map spT),false),some (.obj 0,false),none,none,none,none,none,none],[.dit kvs]⟩) (P:=prT (bxs x hx y hy) hs (sp.map spT)) rfl eL lL dL
  have l0:0<(L.filter Ed).length:=List.length_pos_of_mem (List.mem_filter.mpr ⟨mL,by
    unfold Ed Cm
    rw [vg]
    decide +kernel⟩)
  have l1:(L.filter Ed).length≤100:=Nat.le_trans (List.length_filter_le _ _) lL
  obtain ⟨w,W⟩:=Wb (cs:=cs) (b:=b) E g p so h1 h2 D2 l0 l1 8 0 (none,none,none,none,none)
  refine ⟨[.dit kvs],?_⟩
  have A:m6 1 (mOp eqO (mOp ux (dw gn (ak (bw 0) (ak (au (.int 0)) dh))) (au (.int 2))) (au (.int 1))) ⟨[some (scr cs,false),none,none,none,none,none,none,none,none,none],[]⟩=some (.next,⟨[some (scr cs,false),some (.bl b,false),none,none,none,none,none,none,none,none],[]⟩):=by
    generalize gn=F at *
    exact ys (zo (zo (zf0 (by exact zc rfl (zc rfl rfl)) c0) rfl (md (by decide))) rfl (eq_i hb)) rfl
  have B:m6 2 (dw sy (ak (bw 0) (ak (bw 1) dh))) ⟨[some (scr cs,false),some (.bl b,false),none,none,none,none,none,none,none,none],[]⟩=some (.next,⟨[some (scr cs,false),some (.bl b,false),some (prT (bxs x hx y hy) hs (sp.map spT),false),none,none,none,none,none,none,none],[]⟩):=by
    generalize sy=F at *
    exact (ys (zf rfl ep) rfl)
  have C':m6 3 (dw mz (ak (bw 0) (ak (bw 2) (ak (bw 1) dh)))) ⟨[some (scr cs,false),some (.bl b,false),some (prT (bxs x hx y hy) hs (sp.map spT),false),none,none,none,none,none,none,none],[]⟩=some (.next,⟨[some (scr cs,false),some (.bl b,false),some (prT (bxs x hx y hy) hs (sp.map spT),false),some (.obj 0,false),none,none,none,none,none,none],[.dit kvs]⟩):=by
    generalize mz=F at *
    exact (ys (zf rfl ea) rfl)
  have D':=Ir (i:=4) D1
  have F1:yj (hName 5) (p8 (au (.int 8))) aac (qO cs b (prT (bxs x hx y hy) hs (sp.map spT)) (L.filter Ed) (none,none,none,none,none) kvs)=some (.next,qO cs b (prT (bxs x hx y hy) hs (sp.map spT)) (L.filter Ed) w kvs):=W
  unfold Xf jo
  show (match jd _ _ ⟨[some (scr cs,false),none,none,none,none,none,none,none,none,none],[]⟩ with | some (.ret t,s)=>some (t,s.sto) | some (.next,s)=>some (.non,s.sto) | _=>none)=_
  rw [ig A,ig B,ig C',ig D']
  refine Eq.trans (congrArg (fun z:Option (C.Flow × Sta)=>match z with | some (.ret t,s)=>some (t,s.sto) | some (.next,s)=>some (.non,s.sto) | _=>none) (ig F1)) ?_
  rfl
end
end K
end
noncomputable section
set_option linter.all false
set_option maxRecDepth 100000
set_option maxHeartbeats 1000000
namespace D
open PySem L2 C
structure FA (K:PySem.W.Frag) (x:Str) (st:Stmt) (f:Addr) (fd:FuncData):Prop where
  a:PySem.W.nsIn K mainGlobals x=some (some (.ref f))
  F:Fun K x x st f fd
theorem ac1 {K:PySem.W.Frag} {x:Str} {st:Stmt} {f:Addr} {oc:Value} {od an:Option Addr} {osl:Array (Option Value)} {kV doc pm cdv ct:Value} (a:PySem.W.nsIn K mainGlobals x=some (some (.ref f)))
    (l:K.lookup f=some ⟨oc,od,.func (PySem.W.fnOf x x (Dv st) (Bg st) (gw st) .none kV doc pm an cdv ct),osl⟩) (c:PySem.W.codeIn K cdv x=true) (k:PySem.W.keepIn K (.ref f)=true):FA K x st f (PySem.W.fnOf x x (Dv st) (Bg st) (gw st) .none kV doc pm an cdv ct):=⟨a,a4u l c k⟩
theorem FA.m {K:PySem.W.Frag} {x:Str} {st:Stmt} {f:Addr} {fd:FuncData} {hp:Heap} {mg:Str→Option Value} (h:FA K x st f fd) (X:K.In hp) (G:hp.Ns mainGlobals mg):mg x=some (.ref f):=PySem.W.mg_of X G h.a
theorem all_mk {l:PySem.W.OpenLaw} {w:World} {K:PySem.W.Frag} {h:Heap} {mg:Str→Option Value} {fa f1 f2 f3 f4 f5 f6 f7 f8 f9 f10 f11 f12 f13 f14 f15 f16 f17 f18 f19 f20 f21 f22 f23 f24 f25 f26 f27 f28 f29 f30 f31 f32 f33 f34 f35 f36 f37 f38:Addr} {fd1 fd2 fd3 fd4 fd5 fd6 fd7 fd8 fd9 fd10 fd11 fd12 fd13 fd14 fd15 fd16 fd17 fd18 fd19 fd20 fd21 fd22 fd23 fd24 fd25 fd26 fd27 fd28 fd29 fd30 fd31 fd32 fd33 fd34 fd35 fd36 fd37:FuncData} (X:K.In h) (G:h.Ns mainGlobals mg) (hfa:mg "law" = some (.ref fa))
    {od38 an38:Option Addr} {sl38:Array (Option Value)} {oc38 kV38 dc38 pm38 cd38 ct38:Value}
    (h1:FA K "sum_of" Jd f1 fd1)
    (h2:FA K "plus" V3 f2 fd2)
    (h3:FA K "by" s_by f3 fd3)
    (h4:FA K "minus" Od f4 fd4)
    (h5:FA K "value" Nh f5 fd5)
    (h6:FA K "put" a1l f6 fd6)
    (h7:FA K "holds" Jj f7 fd7)
    (h8:FA K "any_is" Fv f8 fd8)
    (h9:FA K "place_ahead" Ae f9 fd9)
    (h10:FA K "asked_ahead" xr f10 fd10)
    (h11:FA K "behind" J4 f11 fd11)
    (h12:FA K "form_true" Df f12 fd12)
    (h13:FA K "place_box" Dh f13 fd13)
    (h14:FA K "equal_form" Bt f14 fd14)
    (h15:FA K "unequal_form" zp f15 fd15)
    (h16:FA K "plain_form" zx f16 fd16)
    (h17:FA K "against_form" vq f17 fd17)
    (h18:FA K "others_of" Di f18 fd18)
    (h19:FA K "duties_of" Dg f19 fd19)
    (h20:FA K "within_form" Ai f20 fd20)
    (h21:FA K "set_forms" Dk f21 fd21)
    (h22:FA K "given_forms" Ak f22 fd22)
    (h23:FA K "step_forms" Bo f23 fd23)
    (h24:FA K "start_forms" Aq f24 fd24)
    (h25:FA K "duty_forms" Br f25 fd25)
    (h26:FA K "_law_cell_at" Ad f26 fd26)
    (h27:FA K "_law_sum" Gu f27 fd27)
    (h28:FA K "_law_atom" Ep f28 fd28)
    (h29:FA K "_law_remark" Bm f29 fd29)
    (h30:FA K "_law_digits" Bp f30 fd30)
    (h31:FA K "_law_program" Am f31 fd31)
    (h32:FA K "_law_annotation" w6 f32 fd32)
    (h33:FA K "_law_value" Dc f33 fd33)
    (h34:FA K "_law_holds" Bj f34 fd34)
    (h35:FA K "_law_behind" Bv f35 fd35)
    (h36:FA K "_law_asked" Cp f36 fd36)
    (h37:FA K "_law_book" Er f37 fd37)
    (a38:PySem.W.nsIn K mainGlobals "law" = some (some (.ref f38))) (l38:K.lookup f38=some ⟨oc38,od38,.func (PySem.W.fnOf "law" "law" (Dv Mu) (Bg Mu) (gw Mu) .none kV38 dc38 pm38 an38 cd38 ct38),sl38⟩) (c38:PySem.W.codeIn K cd38 "law" = true) (k38:PySem.W.keepIn K (.ref f38)=true)
    (z_all:PySem.W.nsIn K mainGlobals "all" = some none)
    (z_any:PySem.W.nsIn K mainGlobals "any" = some none)
    (z_dict:PySem.W.nsIn K mainGlobals "dict" = some none)
    (z_int:PySem.W.nsIn K mainGlobals "int" = some none)
    (z_isinstance:PySem.W.nsIn K mainGlobals "isinstance" = some none)
    (z_len:PySem.W.nsIn K mainGlobals "len" = some none)
    (z_list:PySem.W.nsIn K mainGlobals "list" = some none)
    (z_range:PySem.W.nsIn K mainGlobals "range" = some none)
    (z_sorted:PySem.W.nsIn K mainGlobals "sorted" = some none)
    (z_sum:PySem.W.nsIn K mainGlobals "sum" = some none)
    (z_tuple:PySem.W.nsIn K mainGlobals "tuple" = some none)
    {q_FALSE_ONE_0 q_FALSE_ONE_2:Addr}    {tk_FALSE_ONE_1:Tok}    {n_FALSE_ONE_0 n_FALSE_ONE_2:Nat}    {s_FALSE_ONE_0 s_FALSE_ONE_2:Array (Option Value)} (zc_FALSE_ONE:PySem.W.nsIn K mainGlobals "FALSE_ONE" = some (some (.ref q_FALSE_ONE_0))) (zl_FALSE_ONE_2:K.lookup q_FALSE_ONE_2=some ⟨.type "tuple",none,.seq [].toArray n_FALSE_ONE_2,s_FALSE_ONE_2⟩) (zl_FALSE_ONE_0:K.lookup q_FALSE_ONE_0=some ⟨.type "tuple",none,.seq [(.str "or" tk_FALSE_ONE_1),(.ref q_FALSE_ONE_2)].toArray n_FALSE_ONE_0,s_FALSE_ONE_0⟩)
    {q_TRUE_ONE_0 q_TRUE_ONE_2:Addr}    {tk_TRUE_ONE_1:Tok}    {n_TRUE_ONE_0 n_TRUE_ONE_2:Nat}    {s_TRUE_ONE_0 s_TRUE_ONE_2:Array (Option Value)} (zc_TRUE_ONE:PySem.W.nsIn K mainGlobals "TRUE_ONE" = some (some (.ref q_TRUE_ONE_0))) (zl_TRUE_ONE_2:K.lookup q_TRUE_ONE_2=some ⟨.type "tuple",none,.seq [].toArray n_TRUE_ONE_2,s_TRUE_ONE_2⟩) (zl_TRUE_ONE_0:K.lookup q_TRUE_ONE_0=some ⟨.type "tuple",none,.seq [(.str "and" tk_TRUE_ONE_1),(.ref q_TRUE_ONE_2)].toArray n_TRUE_ONE_0,s_TRUE_ONE_0⟩)
    {q_TURNED:Addr} {t_TURNED_0 u_TURNED_0 t_TURNED_1 u_TURNED_1:Tok} {h_TURNED_0 h_TURNED_1:Int} {n_TURNED:Nat} (zc_TURNED:PySem.W.nsIn K mainGlobals "TURNED" = some (some (.ref q_TURNED))) (zl_TURNED_0:K.lookup q_TURNED=some ⟨.type "dict",none,.dict #[{ hash:=h_TURNED_0,key:=.str "and" t_TURNED_0,val:=.str "or" u_TURNED_0 },{ hash:=h_TURNED_1,key:=.str "or" t_TURNED_1,val:=.str "and" u_TURNED_1 }] n_TURNED,#[]⟩) (zh_TURNED_0:h_TURNED_0=hashStr w "and") (zh_TURNED_1:h_TURNED_1=hashStr w "or")
    : ∃ fd:FuncData,(∀ (s:Shared) (v:Value),BindsTo s fd ⟨[v],[]⟩ [("_law_script",v)])∧∀ base:Heap,K.In base→base.Ns mainGlobals mg→yh l.prog w K mg base CX0 48 fa fd ["_law_script"] (spF K 1 _root_.K.Xf):=by
  have e:=hfa.symm.trans (PySem.W.mg_of X G a38)
  cases e
  have F38:=a4u (st:=Mu) l38 c38 k38
  have b_all:=PySem.W.mg_none_of X G z_all
  have b_any:=PySem.W.mg_none_of X G z_any
  have b_dict:=PySem.W.mg_none_of X G z_dict
  have b_int:=PySem.W.mg_none_of X G z_int
  have b_isinstance:=PySem.W.mg_none_of X G z_isinstance
  have b_len:=PySem.W.mg_none_of X G z_len
  have b_list:=PySem.W.mg_none_of X G z_list
  have b_range:=PySem.W.mg_none_of X G z_range
  have b_sorted:=PySem.W.mg_none_of X G z_sorted
  have b_sum:=PySem.W.mg_none_of X G z_sum
  have b_tuple:=PySem.W.mg_none_of X G z_tuple
  have c_FALSE_ONE:∃ u,mg "FALSE_ONE" = some u∧Held K u (.tup [(.str "or"),(.tup [])]):=⟨_,PySem.W.mg_of X G zc_FALSE_ONE,(Held.tup zl_FALSE_ONE_0 (by simp) (Fp.cons Held.str (Fp.cons (Held.tup zl_FALSE_ONE_2 (by simp) Fp.nil) Fp.nil)))⟩
  have c_TRUE_ONE:∃ u,mg "TRUE_ONE" = some u∧Held K u (.tup [(.str "and"),(.tup [])]):=⟨_,PySem.W.mg_of X G zc_TRUE_ONE,(Held.tup zl_TRUE_ONE_0 (by simp) (Fp.cons Held.str (Fp.cons (Held.tup zl_TRUE_ONE_2 (by simp) Fp.nil) Fp.nil)))⟩
  have c_TURNED:∃ a,mg "TURNED" = some (.ref a)∧Z6 K w a [("and","or"),("or","and")]:=⟨_,PySem.W.mg_of X G zc_TURNED,_,_,zl_TURNED_0,(.cons zh_TURNED_0 (.cons zh_TURNED_1 .nil)),by decide +kernel⟩
  refine ⟨PySem.W.fnOf "law" "law" (Dv Mu) (Bg Mu) (gw Mu) .none kV38 dc38 pm38 an38 cd38 ct38,fun s v=>.of_eq rfl,fun base _ _=>?_⟩
  have d_sum_of:=Zh (P:=l.prog) (w:=w) (base:=base) h1.F (h1.m X G) b_sorted b_tuple
  have d_plus:=a5g (P:=l.prog) (w:=w) (base:=base) h2.F (h2.m X G) d_sum_of
  have d_by:=ac3 (P:=l.prog) (w:=w) (base:=base) h3.F (h3.m X G) d_sum_of
  have d_minus:=a1v (P:=l.prog) (w:=w) (base:=base) h4.F (h4.m X G) d_by d_plus
  have d_value:=a1r (P:=l.prog) (w:=w) (base:=base) h5.F (h5.m X G) b_sum
  have d_put:=a88 (P:=l.prog) (w:=w) (base:=base) h6.F (h6.m X G) d_by d_sum_of
  have g_holds:=Pb (P:=l.prog) (w:=w) (base:=base) h7.F (h7.m X G) h8.F (h8.m X G) d_value 40
  have d_holds:=g_holds.1
  have d_any_is:=g_holds.2
  have d_place_ahead:=Kz (P:=l.prog) (w:=w) (base:=base) h9.F (h9.m X G) c_FALSE_ONE c_TRUE_ONE
  have g_asked_ahead:=Dz (P:=l.prog) (w:=w) (base:=base) h10.F (h10.m X G) d_place_ahead d_put b_tuple 40
  have d_asked_ahead:=g_asked_ahead
  have d_behind:=Xu (P:=l.prog) (w:=w) (base:=base) h11.F (h11.m X G) d_asked_ahead b_dict
  have d_form_true:=Oo (P:=l.prog) (w:=w) (base:=base) h12.F (h12.m X G) d_holds
  have d_place_box:=Qn (P:=l.prog) (w:=w) (base:=base) h13.F (h13.m X G)
  have d_equal_form:=Ob (P:=l.prog) (w:=w) (base:=base) h14.F (h14.m X G)
  have d_unequal_form:=Jo (P:=l.prog) (w:=w) (base:=base) h15.F (h15.m X G)
  have g_plain_form:=Ez (P:=l.prog) (w:=w) (base:=base) h16.F (h16.m X G) h17.F (h17.m X G) d_equal_form d_minus d_place_box d_unequal_form b_range b_tuple c_TURNED 40
  have d_plain_form:=g_plain_form.1
  have d_against_form:=g_plain_form.2
  have d_others_of:=R8 (P:=l.prog) (w:=w) (base:=base) h18.F (h18.m X G) b_range
  have d_duties_of:=Qd (P:=l.prog) (w:=w) (base:=base) h19.F (h19.m X G) d_others_of b_len b_list b_range
  have d_within_form:=Lj (P:=l.prog) (w:=w) (base:=base) h20.F (h20.m X G) d_minus
  have d_set_forms:=Ra (P:=l.prog) (w:=w) (base:=base) h21.F (h21.m X G) d_within_form
  have d_given_forms:=La (P:=l.prog) (w:=w) (base:=base) h22.F (h22.m X G) d_plain_form d_set_forms
  have d_step_forms:=O4 (P:=l.prog) (w:=w) (base:=base) h23.F (h23.m X G) d_against_form d_behind d_given_forms
  have d_start_forms:=Lq (P:=l.prog) (w:=w) (base:=base) h24.F (h24.m X G) d_against_form d_equal_form d_place_box
  have d_duty_forms:=N6 (P:=l.prog) (w:=w) (base:=base) h25.F (h25.m X G) d_start_forms d_step_forms
  have d_law_cell_at:=Lr (P:=l.prog) (w:=w) (base:=base) h26.F (h26.m X G) b_len
  have d_law_sum:=Ws (P:=l.prog) (w:=w) (base:=base) h27.F (h27.m X G) b_tuple
  have d_law_atom:=U0 (P:=l.prog) (w:=w) (base:=base) h28.F (h28.m X G) d_law_sum b_int
  have d_law_remark:=Nq (P:=l.prog) (w:=w) (base:=base) h29.F (h29.m X G) d_law_atom
  have d_law_digits:=Mz (P:=l.prog) (w:=w) (base:=base) h30.F (h30.m X G) d_law_cell_at
  have d_law_program:=Lf (P:=l.prog) (w:=w) (base:=base) h31.F (h31.m X G) d_law_cell_at d_law_digits d_law_remark d_law_sum b_len b_range b_tuple
  have d_law_annotation:=Ib (P:=l.prog) (w:=w) (base:=base) h32.F (h32.m X G) d_law_digits d_law_remark b_len b_range
  have d_law_value:=Pa (P:=l.prog) (w:=w) (base:=base) h33.F (h33.m X G) b_sum
  have g_law_holds:=Gh (P:=l.prog) (w:=w) (base:=base) h34.F (h34.m X G) d_law_value b_all b_any b_int 40
  have d_law_holds:=g_law_holds
  have d_law_behind:=N5 (P:=l.prog) (w:=w) (base:=base) h35.F (h35.m X G) d_law_value b_dict
  have d_law_asked:=Qs (P:=l.prog) (w:=w) (base:=base) h36.F (h36.m X G) d_law_behind d_law_holds d_duty_forms d_form_true b_isinstance b_len b_list
  have d_law_book:=Tv (P:=l.prog) (w:=w) (base:=base) h37.F (h37.m X G) d_law_cell_at
  exact a8n F38 d_law_annotation d_law_asked d_law_book d_law_cell_at d_law_program d_duties_of b_len b_range
theorem walk {l:PySem.W.OpenLaw} {q:Program} {loose:List Str} {XP:(Str→Option Value)→Heap→Prop} {YP:World→Heap→Prop} {d:DefRec} {K:Params→PySem.W.Frag} (hn:l.most=some 63) (hdf:d.params.defaults=[])
    (hY:∀ (w:World) (h:Heap),YP w h→(K w.params).In h)
    (F:∀ (w:World) (mg:Str→Option Value) (fa:Addr) (h:Heap),(K w.params).In h→h.Ns mainGlobals mg→mg d.name=some (.ref fa) →
      ∃ fd:FuncData,(∀ (s:Shared) (u:Value),BindsTo s fd ⟨[u],[]⟩ [("_law_script",u)])∧∀ base:Heap,(K w.params).In base→base.Ns mainGlobals mg→yh l.prog w (K w.params) mg base CX0 48 fa fd ["_law_script"] (spF (K w.params) 1 _root_.K.Xf)) :
    PySem.W.WalkO q loose XP YP l.row.toRowW d [] (fun f vs=>PySem.call f vs) :=
  L2.a72 (n:=63) (k:=48) (x := "_law_script") (CX:=fun _=>CX0) (sp:=fun w=>spF (K w.params) 1 _root_.K.Xf) hn (by decide) hdf ⟨rfl,by decide,by decide⟩ hY F (fun w H a ns hl _ hS=>a71 hS (_root_.K.a3h (cs:=ns) hl)) fun _ _ _ _ _ z=>z
end D
theorem PySem.W.Fast.tw5945215672542903650:True:=⟨⟩
theorem PySem.W.Fast.tw13180192590065246435:True:=⟨⟩
theorem PySem.W.Fast.tw15022705208062269316:True:=⟨⟩
theorem PySem.W.Fast.tw17547964500838724935:True:=⟨⟩
theorem PySem.W.Fast.tw6097952878669571560:True:=⟨⟩
theorem PySem.W.Fast.tw965040285182493738:True:=⟨⟩
theorem PySem.W.Fast.tw16383138707802485835:True:=⟨⟩
theorem PySem.W.Fast.tw4156798038593557549:True:=⟨⟩
theorem PySem.W.Fast.tw8983737535502272398:True:=⟨⟩
theorem PySem.W.Fast.tw11900948747052248373:True:=⟨⟩
theorem PySem.W.Fast.tw17082449773898375511:True:=⟨⟩
theorem PySem.W.Fast.tw952602451767206200:True:=⟨⟩
theorem PySem.W.Fast.tw8285781647478670872:True:=⟨⟩
theorem PySem.W.Fast.tw10846212923717735390:True:=⟨⟩
theorem PySem.W.Fast.tw14372578216470737032:True:=⟨⟩
theorem PySem.W.Fast.tw9026942767589759079:True:=⟨⟩
open PySem PySem.W PyProof.Rows
set_option maxRecDepth 100000 in
set_option maxHeartbeats 0 in
theorem PySem.Challenge.cw_calm_k42_duties_mean_steps_holds : PySem.Challenge.rw_calm_k42_duties_mean_steps.Holds := by
  w_on; o_law; k_head; (case hw=>w_witness2)
  k_fill
  refine D.walk (l:=PySem.Challenge.rw_calm_k42_duties_mean_steps) rfl rfl (fun w h Y=>PySem.W.kIn_of Y) ?F
  case F =>
    intro w mg fa h KX G hmg
    refine' D.all_mk KX G hmg ?h1 ?h2 ?h3 ?h4 ?h5 ?h6 ?h7 ?h8 ?h9 ?h10 ?h11 ?h12 ?h13 ?h14 ?h15 ?h16 ?h17 ?h18 ?h19 ?h20 ?h21 ?h22 ?h23 ?h24 ?h25 ?h26 ?h27 ?h28 ?h29 ?h30 ?h31 ?h32 ?h33 ?h34 ?h35 ?h36 ?h37 ?a38 ?l38 ?c38 ?k38 ?z_all ?z_any ?z_dict ?z_int ?z_isinstance ?z_len ?z_list ?z_range ?z_sorted ?z_sum ?z_tuple ?zc_FALSE_ONE ?zl_FALSE_ONE_2 ?zl_FALSE_ONE_0 ?zc_TRUE_ONE ?zl_TRUE_ONE_2 ?zl_TRUE_ONE_0 ?zc_TURNED ?zl_TURNED_0 ?zh_TURNED_0 ?zh_TURNED_1
    case h1 | h2 | h3 | h4 | h5 | h6 | h7 | h8 | h9 | h10 | h11 | h12 | h13 | h14 | h15 | h16 | h17 | h18 | h19 | h20 | h21 | h22 | h23 | h24 | h25 | h26 | h27 | h28 | h29 | h30 | h31 | h32 | h33 | h34 | h35 | h36 | h37=>refine' D.ac1 ?a ?l ?c ?k; (case a=>k_is); (case l=>k_is); (case c=>k_is); (case k=>k_is)
    case a38 | l38 | c38 | k38 | z_all | z_any | z_dict | z_int | z_isinstance | z_len | z_list | z_range | z_sorted | z_sum | z_tuple | zc_FALSE_ONE | zc_TRUE_ONE | zc_TURNED | zl_FALSE_ONE_0 | zl_FALSE_ONE_2 | zl_TRUE_ONE_0 | zl_TRUE_ONE_2 | zl_TURNED_0=>k_is
    (case zh_TURNED_0=>rfl)
    (case zh_TURNED_1=>rfl)
#print axioms PySem.Challenge.cw_calm_k42_duties_mean_steps_holds
end
