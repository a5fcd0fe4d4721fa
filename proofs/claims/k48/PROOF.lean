import PyProof.Rows.All
import Wide.All
import OpenK.AllK
import Wide.FinOn
import Lean
import PyProof.EqAt
import PyProof.EqKinds
import PyProof.TupleCall
import PyProof.P3Statements
import PyProof.Lay0
import PyProof.P3Eq
import PyProof.NeData
import KE.KEqDict
import PyProof.ListRange
import KE.KDictSum
import PyProof.AttrMissHeap
import PyProof.WalksS
import KE.KDictOf
import KE.KRevSl
import PyProof.ZipIter
import PyProof.WalksMore
import PyProof.Rows.FactsT2
import PyProof.Rows.SetFrom
import PyProof.Rows.SortStr
import KE.KDictList
import PyProof.FactsAll.set
import PyProof.CollectWalk
import KE.KSortTup
import KE.KRevIter
import PyProof.TupleOfGen
import PyProof.CollectIter
import PySem.Challenge.RW_calm_k48_whole_any_paper_is_sound
set_option Elab.async false
noncomputable section
set_option linter.all false
set_option maxRecDepth 100000
namespace L2
open PySem PySem.Spec PyProof.Rows
noncomputable abbrev Key:=Sum Int Str
noncomputable def R7:Key→Value→Bool
  | .inl k,v=>Value.isInt k v
  | .inr x,v=>Value.isStrOf x v
noncomputable def ad9 (w:World):Key→Int
  | .inl k=>hashInt k
  | .inr x=>hashStr w x
theorem uw:∀ {k:Key} {v:Value},R7 k v=true→(∃ i t,k=Sum.inl i∧v=Value.int i t)∨(∃ x t,k=Sum.inr x∧v=Value.str x t)
  | .inl i,v,h=>by
    obtain ⟨t,e⟩:=Value.isInt_shape (k:=i) (v:=v) h
    exact .inl ⟨i,t,rfl,e⟩
  | .inr x,v,h=>by
    obtain ⟨t,e⟩:=Value.isStrOf_shape (x:=x) (v:=v) h
    exact .inr ⟨x,t,rfl,e⟩
theorem Wn (i:Int) (t:Tok):R7 (.inl i) (.int i t)=true:=by simp [R7,Value.isInt]
theorem Ys (x:Str) (t:Tok):R7 (.inr x) (.str x t)=true:=by simp [R7,Value.isStrOf]
theorem a98 (a b:Int):decide ((Sum.inl a:Key)=Sum.inl b)=(a==b):=by
  by_cases e:a=b
  · subst e; simp
  · have h:¬ (Sum.inl a:Key)=Sum.inl b:=fun q=>e (Sum.inl.inj q)
    rw [decide_eq_false h]
    exact (beq_eq_false_iff_ne.mpr e).symm
theorem a9b (a b:Str):decide ((Sum.inr a:Key)=Sum.inr b)=decide (a=b):=by
  by_cases e:a=b
  · subst e; simp
  · have h:¬ (Sum.inr a:Key)=Sum.inr b:=fun q=>e (Sum.inr.inj q)
    rw [decide_eq_false h,decide_eq_false e]
theorem a7q (a:Int) (b:Str):decide ((Sum.inl a:Key)=Sum.inr b)=false:=decide_eq_false (fun q=>nomatch q)
theorem a7u (a:Str) (b:Int):decide ((Sum.inr a:Key)=Sum.inl b)=false:=decide_eq_false (fun q=>nomatch q)
noncomputable def v8 (prog:Program) (w:World):PySem.KeyKind prog w Key where
  is:=R7
  hash:=ad9 w
  inj:=fun v a b ha hb=>by
    rcases uw ha with ⟨i,t,rfl,rfl⟩ | ⟨x,t,rfl,rfl⟩
    · rcases uw hb with ⟨j,u,rfl,e⟩ | ⟨y,u,rfl,e⟩
      · injection e with e1 _; rw [e1]
      · exact nomatch e
    · rcases uw hb with ⟨j,u,rfl,e⟩ | ⟨y,u,rfl,e⟩
      · exact nomatch e
      · injection e with e1 _; rw [e1]
  byValue:=fun k v h=>by
    rcases uw h with ⟨i,t,rfl,rfl⟩ | ⟨x,t,rfl,rfl⟩ <;> rfl
  pyHash:=fun hv h=>by
    rcases uw hv with ⟨i,t,rfl,rfl⟩ | ⟨x,t,rfl,rfl⟩
    · exact wpAny_pyHash_int h
    · exact wpAny_pyHash_str h
  eqBool:=fun hu hv h=>by
    rcases uw hu with ⟨i,t,rfl,rfl⟩ | ⟨x,t,rfl,rfl⟩
    · rcases uw hv with ⟨j,u,rfl,rfl⟩ | ⟨y,u,rfl,rfl⟩
      · rw [a98] at h; exact wpAny_eqBool_int h
      · rw [a7q] at h; exact SeqAt.EqAt.int_str i t y u _ _ _ _ h
    · rcases uw hv with ⟨j,u,rfl,rfl⟩ | ⟨y,u,rfl,rfl⟩
      · rw [a7u] at h; exact SeqAt.EqAt.str_int x t j u _ _ _ _ h
      · rw [a9b] at h; exact wpAny_eqBool_str h
  «strs»:=fun k x t v h=>by
    rcases uw h with ⟨i,u,rfl,e⟩ | ⟨y,u,rfl,e⟩
    · exact nomatch e
    · injection e with e1 _
      subst e1
      cases v <;> rfl
theorem Um (prog:Program) (w:World) (k:Key) (v:Value):(v8 prog w).is k v=R7 k v:=rfl
theorem Py (prog:Program) (w:World) (i:Int) (t:Tok):(v8 prog w).is (.inl i) (.int i t)=true:=Wn i t
theorem Qh (prog:Program) (w:World) (x:Str) (t:Tok):(v8 prog w).is (.inr x) (.str x t)=true:=Ys x t
end L2
namespace L2
open PySem PySem.Spec PyProof.Rows
inductive V where
  | non | bl (b:Bool) | int (i:Int) | str (x:Str) | byt (b:Array UInt8) | flt (b:UInt64) | ref (a:Addr) | ty (n:String)
  deriving DecidableEq
noncomputable def RelV:V→Value→Prop
  | .non,u=>u=Value.none
  | .bl b,u=>u=Value.bool b
  | .int i,u=>∃ t,u=Value.int i t
  | .str x,u=>∃ t,u=Value.str x t
  | .byt b,u=>∃ t,u=Value.bytes b t
  | .flt b,u=>∃ t,u=Value.float b t
  | .ref a,u=>u=Value.ref a
  | .ty n,u=>u=Value.type n
noncomputable abbrev Vals:List V→List Value→Prop:=Paired RelV
theorem Vals.length {xs:List V} {us:List Value} (r:Vals xs us):xs.length=us.length:=Paired.length r
theorem Vals.get:∀ {xs:List V} {us:List Value} {i:Nat} {x:V},Vals xs us→xs[i]? = some x→∃ u,us[i]? = some u∧RelV x u
  | _,_,_,_,.nil,e=>by simp at e
  | _,_,0,_,.cons r _,e=>by simp at e; subst e; exact ⟨_,rfl,r⟩
  | _,_,i+1,x,.cons _ t,e=>by
    obtain ⟨u,h1,h2⟩:=Vals.get (i:=i) (x:=x) t (by simpa using e)
    exact ⟨u,by simpa using h1,h2⟩
theorem Vals.set {x:V} {u:Value} (r:RelV x u):∀ {xs:List V} {us:List Value} (i:Nat),Vals xs us→Vals (xs.set i x) (us.set i u)
  | _,_,_,.nil=>.nil
  | _,_,0,.cons _ t=>.cons r t
  | _,_,i+1,.cons q t=>.cons q (Vals.set r i t)
theorem Vals.append {xs ys:List V} {us ws:List Value} (r:Vals xs us) (s:Vals ys ws):Vals (xs++ys) (us++ws):=by
  induction r with
  | nil=>exact s
  | cons r _ ih=>exact .cons r ih
theorem Vals.take:∀ {xs:List V} {us:List Value} (n:Nat),Vals xs us→Vals (xs.take n) (us.take n)
  | _,_,0,_=>.nil
  | _,_,_+1,.nil=>.nil
  | _,_,n+1,.cons r t=>.cons r (Vals.take n t)
theorem Vals.drop:∀ {xs:List V} {us:List Value} (n:Nat),Vals xs us→Vals (xs.drop n) (us.drop n)
  | _,_,0,r=>r
  | _,_,_+1,.nil=>.nil
  | _,_,n+1,.cons _ t=>Vals.drop n t
noncomputable def Ph:Option V→Option Value→Prop
  | some v,some u=>RelV v u
  | none,none=>True
  | _,_=>False
noncomputable def KV {κ:Type}:List (κ × V)→List (κ × Value)→Prop:=Paired fun (p:κ × V) (q:κ × Value)=>p.1=q.1∧RelV p.2 q.2
noncomputable def kV:Key→V
  | .inl i=>.int i
  | .inr x=>.str x
inductive HO where
  /-- a list -/
  | lst (xs:List V)
  /-- a tuple (never changes) -/
  | tup (xs:List V)
  /-- a dict whose keys are ints and texts; one whose keys are tuples of ints and texts (the empty one is both) -/
  | dK (kvs:List (Key × V)) | dT (kvs:List (List Key × V))
  /-- a set of ints: its members,its size -/
  | set (S:Int→Bool) (n:Nat)
  /-- an instance of the class at C,its dict at dx,its attributes -/
  | ins (C dx:Addr) (fs:List (Str × V))
  /-- the dict of the instance at x -/
  | own (x:Addr)
  /-- the dict of an exception -/
  | xd (fs:List (Str × V))
  /-- a bound method,f of x -/
  | met (f x:Addr)
  /-- a range object lo,lo+1,.. below hi -/
  | rng (lo hi:Int)
  /-- a thing that is known to the object (the script; a dict while a loop walks it): read,never written while it is so -/
  | frz (o:Obj) (u:HO)
  /-- a code object's table -/
  | tbl (ps:Array Value)
  /-- any other thing,by what is true of its one object (a def of one's own: SetO a S n:=HO.ext fun h=>..) -/
  | ext (φ:Heap→Prop)
noncomputable abbrev Hp:=Addr→Option HO
noncomputable def upd (H:Hp) (a:Addr) (o:HO):Hp:=fun b=>if b=a then some o else H b
theorem jl {H:Hp} {a:Addr} {o:HO}:upd H a o a=some o:=by unfold upd; rw [if_pos rfl]
theorem n8 {H:Hp} {a b:Addr} {o:HO} (h:b≠a):upd H a o b=H b:=by unfold upd; rw [if_neg h]
theorem aa0 {H:Hp} {a b:Addr} {o u:HO} (h:H a=some o) (h':H b=some u) (d:o≠u):a≠b:=by
  intro e; subst e; rw [h] at h'; exact d (Option.some.inj h')
theorem uy {H:Hp} {a b:Addr} {o:HO} (h:H a=some o) (h':H b=none):a≠b:=by
  intro e; subst e; rw [h] at h'; cases h'
noncomputable def a07 (h:Heap) (a:Addr) (items:Array Value):Prop:=∃ o,h.get? a=some o∧o.cls=.type "tuple" ∧ o.dict=none∧∃ n,o.data=.seq items n
theorem a07.is {h:Heap} {a:Addr} {items:Array Value} (x:a07 h a items):IsTup h a items:=let ⟨o,e,c,_,d⟩:=x; ⟨o,e,c,d⟩
theorem a07.new (h:Heap) (items:Array Value):a07 (h.push { cls:=.type "tuple",data:=.seq items }) h.objs.size items:=⟨_,Heap.get?_push_size _ rfl,rfl,rfl,0,rfl⟩
noncomputable section
variable (P:Program) (w:World)
noncomputable def yw (H:Hp) (h:Heap) (a:Addr):HO→Prop
  | .lst xs=>xs.length≤sizeLine∧∃ (its:List Value) (n:Nat),Vals xs its∧h.get? a=some { cls:=.type "list",data:=.seq its.toArray n }
  | .tup xs=>xs.length≤sizeLine∧∃ its:List Value,Vals xs its∧a07 h a its.toArray
  | .dK kvs=>kvs.length≤sizeLine∧(a==sysModules)=false∧∃ vs,KV kvs vs∧h.DictOf (v8 P w) a vs
  | .dT kvs=>kvs.length≤sizeLine∧(a==sysModules)=false∧∃ xs:List (List Key × Addr × Value),
      Paired (fun (p:List Key × V) (q:List Key × Addr × Value)=>p.1=q.1∧H q.2.1=some (.tup (p.1.map kV))∧RelV p.2 q.2.2) kvs xs ∧
      ∃ o es ep,h.get? a=some o∧o.ExactDict∧o.data=.dict es ep∧es.toList=xs.map (entryOfKey (tupleKind (v8 P w)))∧(xs.map (·.1)).Nodup
  | .set S n=>h.SetOf (intKind P w) a S n
  | .ins C dx fs=>H dx=some (.own a)∧fs.length≤1000∧dx≠a∧h.get? a=some (PySem.W.instObj C dx) ∧
      ∃ mA,h.Ns1 dx mA∧(∀ f,Ph (fs.lookup f) (mA f))∧PySem.Within mA (fs.map (·.1))
  | .own _=>∃ o,h.get? a=some o
  | .xd fs=>∃ mA,h.Ns1 a mA∧∀ f,Ph (fs.lookup f) (mA f)
  | .rng lo hi=>∃ t u v,h.get? a=some { cls:=.type "range",data:=.fields #[.int lo t,.int hi u,.int 1 v] }
  | .frz o u=>h.get? a=some o∧yw H h a u
  | .tbl ps=>h.get? a=some { cls:=.none,data:=.fields ps }
  | .met f x=>h.get? a=some (PySem.W.methodObj (.ref f) (.ref x))
  | .ext φ=>φ h∧(∃ o,h.get? a=some o)∧∀ h1 h2:Heap,φ h1→(∀ o,h1.get? a=some o→h2.get? a=some o)→φ h2
noncomputable def HOk (H:Hp) (h:Heap):Prop:=∀ a o,H a=some o→yw P w H h a o
end
noncomputable section
variable {P:Program} {w:World} {H H':Hp} {h h':Heap} {a:Addr} {o:HO}
theorem yw.lt (x:yw P w H h a o):a<h.objs.size:=by
  cases o with
  | lst xs=>obtain ⟨_,_,_,_,e⟩:=x; exact Heap.lt_size e
  | tup xs=>obtain ⟨_,_,_,p⟩:=x; exact p.is.lt
  | dK kvs=>obtain ⟨_,_,_,_,o,_,_,e,_⟩:=x; exact Heap.lt_size e
  | dT kvs=>obtain ⟨_,_,_,_,o,_,_,e,_⟩:=x; exact Heap.lt_size e
  | set S n=>obtain ⟨o,_,_,_,e,_⟩:=x; exact Heap.lt_size e
  | ins C dx fs=>obtain ⟨_,_,_,e,_⟩:=x; exact Heap.lt_size e
  | own y=>obtain ⟨_,e⟩:=x; exact Heap.lt_size e
  | xd fs=>obtain ⟨_,⟨_,_,_,e,_⟩,_⟩:=x; exact Heap.lt_size e
  | rng lo hi=>obtain ⟨_,_,_,e⟩:=x; exact Heap.lt_size e
  | frz ob u=>obtain ⟨e,_⟩:=x; exact Heap.lt_size e
  | tbl ps=>exact Heap.lt_size (show h.get? a=some _ from x)
  | met f y=>exact Heap.lt_size (show h.get? a=some _ from x)
  | ext φ=>obtain ⟨_,⟨_,e⟩,_⟩:=x; exact Heap.lt_size e
theorem Paired.abr {α β:Type} {F G:α→β→Prop} {l₁:List α} {l₂:List β} (r:Paired F l₁ l₂) (f:∀ a b,F a b→G a b):Paired G l₁ l₂:=by
  induction r with
  | nil=>exact .nil
  | cons r _ ih=>exact .cons (f _ _ r) ih
theorem yw.stay (x:yw P w H h a o) (k:∀ b u,(b=a∨H b=some (.own a))→h.get? b=some u→h'.get? b=some u)
    (ho:∀ b,H b=some (.own a)→H' b=some (.own a)) (ht:∀ b xs,H b=some (.tup xs)→H' b=some (.tup xs)):yw P w H' h' a o:=by
  induction o with
  | lst xs=>obtain ⟨z,its,n,r,e⟩:=x; exact ⟨z,its,n,r,k _ _ (.inl rfl) e⟩
  | tup xs=>obtain ⟨z,its,r,ob,e,c⟩:=x; exact ⟨z,its,r,ob,k _ _ (.inl rfl) e,c⟩
  | dK kvs=>obtain ⟨z,y,vs,r,ob,es,ep,e,c⟩:=x; exact ⟨z,y,vs,r,ob,es,ep,k _ _ (.inl rfl) e,c⟩
  | dT kvs =>
    obtain ⟨z,y,xs,r,ob,es,ep,e,c⟩:=x
    exact ⟨z,y,xs,Paired.abr r fun p q z=>⟨z.1,ht _ _ z.2.1,z.2.2⟩,ob,es,ep,k _ _ (.inl rfl) e,c⟩
  | set S n=>obtain ⟨ob,es,ep,t,e,c⟩:=x; exact ⟨ob,es,ep,t,k _ _ (.inl rfl) e,c⟩
  | ins C dx fs =>
    obtain ⟨d,z,ne,e,mA,⟨od,es,ep,e2,c⟩,r⟩:=x
    exact ⟨ho _ d,z,ne,k _ _ (.inl rfl) e,mA,⟨od,es,ep,k _ _ (.inr d) e2,c⟩,r⟩
  | own y=>obtain ⟨ob,e⟩:=x; exact ⟨ob,k _ _ (.inl rfl) e⟩
  | xd fs=>obtain ⟨mA,⟨od,es,ep,e,c⟩,r⟩:=x; exact ⟨mA,⟨od,es,ep,k _ _ (.inl rfl) e,c⟩,r⟩
  | rng lo hi=>obtain ⟨t,u,v,e⟩:=x; exact ⟨t,u,v,k _ _ (.inl rfl) e⟩
  | frz ob u ih=>obtain ⟨e,q⟩:=x; exact ⟨k _ _ (.inl rfl) e,ih q⟩
  | tbl ps =>
    have e:h.get? a=some { cls:=.none,data:=.fields ps }:=x
    show h'.get? a=some { cls:=.none,data:=.fields ps }
    exact k a _ (.inl rfl) e
  | met f y =>
    have e:h.get? a=some (PySem.W.methodObj (.ref f) (.ref y)):=x
    show h'.get? a=some (PySem.W.methodObj (.ref f) (.ref y))
    exact k a _ (.inl rfl) e
  | ext φ=>obtain ⟨p,⟨o,e⟩,st⟩:=x; exact ⟨st _ _ p fun o q=>k _ _ (.inl rfl) q,⟨o,k _ _ (.inl rfl) e⟩,st⟩
theorem HOk.lt (x:HOk P w H h) (e:H a=some o):a<h.objs.size:=(x a o e).lt
theorem HOk.fresh (x:HOk P w H h) (e:h.objs.size≤a):H a=none:=by
  cases q:H a with
  | none=>rfl
  | some u=>exact absurd (Nat.lt_of_lt_of_le (x.lt q) e) (Nat.lt_irrefl _)
theorem HOk.kept (x:HOk P w H h) (k:∀ b u,h.get? b=some u→h'.get? b=some u):HOk P w H h':=fun a o e =>
  (x a o e).stay (fun b u _ q=>k b u q) (fun _ q=>q) fun _ _ q=>q
theorem HOk.laid (x:HOk P w H h) (k:∀ b u,h.get? b=some u→h'.get? b=some u) (hp:h.objs.size≤a) (new:yw P w (upd H a o) h' a o):HOk P w (upd H a o) h':=fun b u e=>by
  have hn:=x.fresh hp
  by_cases hb:b=a
  · subst hb; rw [jl] at e; cases e; exact new
  · rw [n8 hb] at e
    exact (x b u e).stay (fun c v _ q=>k c v q) (fun c q=>by rw [n8 (uy q hn)]; exact q) fun c xs q=>by rw [n8 (uy q hn)]; exact q
end
noncomputable def Rd (H:Hp) (a:Addr) (u:HO):Prop:=H a=some u∨∃ o,H a=some (.frz o u)
theorem Rd.ok {P:Program} {w:World} {H:Hp} {h:Heap} {a:Addr} {u:HO} (r:Rd H a u) (x:HOk P w H h):yw P w H h a u:=by
  rcases r with r | ⟨o,r⟩
  · exact x a u r
  · obtain ⟨_,q⟩:=x a _ r
    exact q
noncomputable def Mut:Option HO→Prop
  | some (.lst _)=>True
  | some (.dK _)=>True
  | some (.dT _)=>True
  | some (.set _ _)=>True
  | some (.ins _ _ _)=>True
  | some (.ext _)=>True
  | _=>False
noncomputable section
variable {P:Program} {w:World} {H:Hp} {h h':Heap} {x e:Addr} {o':HO}
theorem HOk.write (ok:HOk P w H h) (mu:Mut (H x)) (he:e=x∨H e=some (.own x)) (k:∀ b u,b≠e→h.get? b=some u→h'.get? b=some u) (heo:∃ u,h'.get? e=some u)
    (new:yw P w (upd H x o') h' x o'):HOk P w (upd H x o') h':=fun b u q=>by
  have nown:∀ c y,H c=some (.own y)→c≠x:=fun c y r z=>by subst z; rw [r] at mu; exact mu
  have ntup:∀ c xs,H c=some (.tup xs)→c≠x:=fun c xs r z=>by subst z; rw [r] at mu; exact mu
  by_cases hb:b=x
  · subst hb; rw [jl] at q; cases q; exact new
  · rw [n8 hb] at q
    by_cases hbe:b=e
    · have q':H b=some (.own x):=by
        rcases he with z | z
        · exact absurd (hbe.trans z) hb
        · rw [hbe]; exact z
      rw [q] at q'; cases q'
      obtain ⟨v,hv⟩:=heo
      exact ⟨v,by rw [hbe]; exact hv⟩
    · refine (ok b u q).stay (fun c v hc r=>k c v ?_ r) (fun c r=>by rw [n8 (nown c b r)]; exact r) fun c xs r=>by rw [n8 (ntup c xs r)]; exact r
      rcases hc with rfl | hc
      · exact hbe
      · rintro rfl
        rcases he with z | z
        · exact nown c b hc z
        · rw [hc] at z; cases z; exact hb rfl
end
structure Un (fs ex:List Addr) (H H':Hp) (h h':Heap):Prop where
  keep:∀ b o,h.get? b=some o→H b=none→b∉fs→b∉ex→h'.get? b=some o
  slot:∀ b o,h.get? b=some o→H b=none→b∈fs→b∉ex→∃ sl,h'.get? b=some { o with slots:=sl }
  free:∀ b o,h.get? b=some o→H b=none→b∉ex→H' b=none
  there:∀ b o,h.get? b=some o→b∉ex→∃ o',h'.get? b=some o'
  tups:∀ b xs,H b=some (.tup xs)→H' b=some (.tup xs)
  frzs:∀ b o u,H b=some (.frz o u)→H' b=some (.frz o u)
  tbls:∀ b ps,H b=some (.tbl ps)→∃ more,H' b=some (.tbl (ps++more))
noncomputable section
variable {fs fs' ex ex':List Addr} {H H1 H2:Hp} {h h1 h2 h':Heap} {a x e:Addr} {o:HO}
theorem Un.any (u:Un fs ex H H1 h h1) {b:Addr} {ob:Obj} (q:h.get? b=some ob) (n:H b=none) (hx:b∉ex):∃ sl,h1.get? b=some { ob with slots:=sl }:=by
  by_cases hb:b∈fs
  · exact u.slot b ob q n hb hx
  · exact ⟨ob.slots,u.keep b ob q n hb hx⟩
theorem Un.trans (a:Un fs ex H H1 h h1) (b:Un fs ex H1 H2 h1 h2):Un fs ex H H2 h h2 where
  keep:=fun c ob q n hc hx=>b.keep c ob (a.keep c ob q n hc hx) (a.free c ob q n hx) hc hx
  slot:=fun c ob q n hc hx=>by
    obtain ⟨sl,e1⟩:=a.slot c ob q n hc hx
    obtain ⟨sl',e2⟩:=b.slot c _ e1 (a.free c ob q n hx) hc hx
    exact ⟨sl',e2⟩
  free:=fun c ob q n hx=>by
    obtain ⟨o',e1⟩:=a.there c ob q hx
    exact b.free c o' e1 (a.free c ob q n hx) hx
  there:=fun c ob q hx=>by
    obtain ⟨o',e1⟩:=a.there c ob q hx
    exact b.there c o' e1 hx
  tups:=fun c xs q=>b.tups c xs (a.tups c xs q)
  frzs:=fun c ob xs q=>b.frzs c ob xs (a.frzs c ob xs q)
  tbls:=fun c ps q=>by
    obtain ⟨m1,e1⟩:=a.tbls c ps q
    obtain ⟨m2,e2⟩:=b.tbls c _ e1
    exact ⟨m1++m2,by rw [e2,Array.append_assoc]⟩
theorem Un.kept (k:∀ b u,h.get? b=some u→h'.get? b=some u):Un fs ex H H h h' :=
  ⟨fun b ob q _ _ _=>k b ob q,fun b ob q _ _ _=>⟨ob.slots,k b ob q⟩,fun _ _ _ n _=>n,fun b ob q _=>⟨ob,k b ob q⟩,fun _ _ q=>q,fun _ _ _ q=>q,fun _ ps q=>⟨#[],by rw [q]; simp⟩⟩
theorem Un.refl:Un fs ex H H h h:=Un.kept fun _ _ q=>q
theorem Un.laid (k:∀ b u,h.get? b=some u→h'.get? b=some u) (hp:h.objs.size≤a) (hn:H a=none):Un fs ex H (upd H a o) h h' where
  keep:=fun b u q _ _ _=>k b u q
  slot:=fun b u q _ _ _=>⟨u.slots,k b u q⟩
  free:=fun b u q n _=>by rw [n8 (Nat.ne_of_lt (Nat.lt_of_lt_of_le (Heap.lt_size q) hp))]; exact n
  there:=fun b u q _=>⟨u,k b u q⟩
  tups:=fun b xs q=>by rw [n8 (uy q hn)]; exact q
  frzs:=fun b u xs q=>by rw [n8 (uy q hn)]; exact q
  tbls:=fun b ps q=>⟨#[],by rw [n8 (uy q hn),q]; simp⟩
theorem Un.write (mu:Mut (H x)) (he:e=x∨H e=some (.own x)) (k:∀ b u,b≠e→h.get? b=some u→h'.get? b=some u) (heo:∃ u,h'.get? e=some u):Un fs ex H (upd H x o) h h':=by
  have hx:∀ b,H b=none→b≠x:=fun b n z=>by subst z; rw [n] at mu; exact mu
  have hb:∀ b,H b=none→b≠e:=fun b n z=>by
    subst z
    rcases he with r | r
    · exact hx b n r
    · rw [n] at r; cases r
  have hm:∀ b u,H b=some u→¬ Mut (some u)→b≠x:=fun b u q nm z=>by subst z; rw [q] at mu; exact nm mu
  refine ⟨fun b u q n _ _=>k b u (hb b n) q,fun b u q n _ _=>⟨u.slots,k b u (hb b n) q⟩,fun b u q n _=>by rw [n8 (hx b n)]; exact n,fun b u q _=>?_,
    fun b xs q=>by rw [n8 (hm b _ q fun z=>z)]; exact q,fun b u xs q=>by rw [n8 (hm b _ q fun z=>z)]; exact q,fun b ps q=>⟨#[],by rw [n8 (hm b _ q fun z=>z),q]; simp⟩⟩
  by_cases hbe:b=e
  · subst hbe; exact heo
  · exact ⟨u,k b u hbe q⟩
theorem Un.mono (u:Un fs ex H H1 h h1) (hs:∀ b∈fs,b∈fs') (hx:∀ b∈ex,b∈ex'):Un fs' ex' H H1 h h1 :=
  ⟨fun b ob q n hb he=>u.keep b ob q n (fun z=>hb (hs b z)) fun z=>he (hx b z),fun _ _ q n _ he=>u.any q n fun z=>he (hx _ z),fun b ob q n he=>u.free b ob q n fun z=>he (hx b z),fun b ob q he=>u.there b ob q fun z=>he (hx b z),u.tups,u.frzs,u.tbls⟩
end
noncomputable def trk (h:Heap) (H:Hp):List Addr:=(List.range h.objs.size).filter fun a=>(H a).isSome
noncomputable def a1d (h:Heap) (H:Hp):Heap:=PySem.W.hideAll h (trk h H)
theorem W7 (h:Heap) (H:Hp):(a1d h H).objs.size=h.objs.size:=PySem.W.hideAll_size _ _
theorem a1c {h:Heap} {H:Hp} {b:Addr} {o:Obj} (e:h.get? b=some o) (n:H b=none):(a1d h H).get? b=some o :=
  PySem.W.hideAll_get _ e fun hm=>by
    have q:(H b).isSome=true:=(List.mem_filter.mp hm).2
    rw [n] at q; simp at q
theorem a6z {h:Heap} {H:Hp} {b:Addr} {o:Obj} (e:(a1d h H).get? b=some o):h.get? b=some o∧H b=none:=by
  have e':h.get? b=some o:=PySem.W.of_hideAll (trk h H) e
  refine ⟨e',?_⟩
  cases q:H b with
  | none=>rfl
  | some x =>
    have hm:b∈trk h H:=List.mem_filter.mpr ⟨List.mem_range.mpr (Heap.lt_size e'),by simp [q]⟩
    have z:(a1d h H).get? b=none:=PySem.W.hideAll_none (trk h H) hm
    rw [z] at e; cases e
noncomputable def a6g (g h:Heap) (L:Addr):List (Addr × Obj):=(List.range h.objs.size).filterMap fun a=>if a=L∨(g.get? a).isSome=true then none else (h.get? a).map fun o=>(a,o)
noncomputable def rest (g h:Heap) (L d:Addr):List (Addr × Obj):=(a6g g h L).filter fun p=>decide (p.1≠d)
end L2
namespace L2
open PySem PySem.Spec PyProof.Rows
structure Mod (K:PySem.W.Frag) (mg:Str→Option Value) (base:Heap):Prop where
  kin:K.In base
  glob:base.Ns mainGlobals mg
  blt:∃ mb,base.Ns builtinsNs mb∧∀ x:Str,x ≠ "__name__" → mb x=bootBuiltins x
  nolimit:base.NoLimit
structure Cx where
  prog:Program
  w:World
  K:PySem.W.Frag
  mg:Str→Option Value
  base:Heap
  A:Around
  N:List Str
  s₀:Shared
  H₀:Hp
  env:Env
  outer:List Env
  stack:List Env
  ex:List Addr
  fn:Str→Bool
  calm:Bool
  pn:List (Addr × Obj)
  xe:Value→Shared→Prop
noncomputable def frs (l:List Env):List Addr:=l.filterMap (·.frame)
noncomputable abbrev Cx.fs (X:Cx):List Addr:=frs X.outer
noncomputable def Vis (sc:Scope) (x:Str):Prop:=sc.names.lookup x=some .local∨sc.names.lookup x=some .cell∨sc.names.lookup x=some .free
noncomputable def Loc (sc:Scope) (x:Str):Prop:=sc.names.lookup x=some .local∨sc.names.lookup x=some .cell
noncomputable def Look (env:Env) (h:Heap) (m:Str→Option Value) (x:Str) (u:Value):Prop :=
  (env.kindOf x=some .local∧m x=some u)∨((env.kindOf x=some .cell∨env.kindOf x=some .free)∧∃ c,env.cells.lookup x=some c∧h.IsCell c (some u))
structure Cx.Ok (X:Cx):Prop where
  mod:Mod X.K X.mg X.base
  kind:X.env.scope.kind=.function
  glob:X.env.globals=mainGlobals
  blt:X.env.builtins=builtinsNs
  above:X.s₀.heap.objs.size≤X.env.locals
  inj:∀ x y c,X.env.cells.lookup x=some c→X.env.cells.lookup y=some c→x=y
  has:∀ x,(X.env.kindOf x=some .cell∨X.env.kindOf x=some .free)→∃ c,X.env.cells.lookup x=some c
  cab:∀ x c,X.fn x=true→X.env.cells.lookup x=some c→X.s₀.heap.objs.size≤c
  hd:X.calm=true→X.A.handled=none
  frames:X.A.frames=some X.stack
  stk:X.stack=X.outer∨(X.stack=X.env::X.outer∧X.env.frame=some X.env.locals)
  exf:∀ b∈X.ex,b≠X.env.locals∧∀ x c,X.env.cells.lookup x=some c→c≠b
  bs:∀ b o,X.base.get? b=some o→X.s₀.heap.get? b=some o∧X.H₀ b=none
  bsz:X.base.objs.size≤X.s₀.heap.objs.size
  noex:∀ b o,X.base.get? b=some o→b∉X.ex
  exfs:∀ b∈X.ex,b∉X.fs
  W4:X.s₀.heap.FunFrames X.base X.outer
  frf:∀ b∈X.fs,X.H₀ b=none
structure Inv (X:Cx) (pins:List (Addr × Obj)) (σ:List (Option V)) (H:Hp) (s:Shared):Prop where
  ok:X.Ok
  os:s.os=X.s₀.os
  bare:AllBare s.gens
  base:Un X.fs X.ex X.H₀ H X.s₀.heap s.heap
  loc:∃ m,s.heap.Ns X.env.locals m∧∀ (i:Nat) (x:Str) (v:V),X.N[i]? = some x→σ[i]? = some (some v)→Vis X.env.scope x→∃ u,RelV v u∧Look X.env s.heap m x u
  cell:∀ x c,X.env.cells.lookup x=some c→∃ v,s.heap.IsCell c v
  free:H X.env.locals=none
  freeC:∀ x c,X.env.cells.lookup x=some c→H c=none
  pin:∀ p∈X.pn++pins,s.heap.get? p.1=some p.2∧H p.1=none∧p.1≠X.env.locals∧p.1∉X.fs∧∀ v,p.2.data≠.cell v
  hok:HOk X.prog X.w H s.heap
  len:σ.length=X.N.length
noncomputable section
variable {X:Cx} {pins:List (Addr × Obj)} {σ:List (Option V)} {H H':Hp} {s:Shared} {h':Heap}
theorem Cx.Ok.ad1 (ok:X.Ok) {b:Addr} {o:Obj} (e:X.base.get? b=some o):b∉X.fs:=fun hb=>by
  have:=(ok.W4.mem hb).1
  rw [e] at this; cases this
theorem Inv.bs (I:Inv X pins σ H s):∀ b o,X.base.get? b=some o→s.heap.get? b=some o∧H b=none:=fun b o e =>
  ⟨I.base.keep b o (I.ok.bs b o e).1 (I.ok.bs b o e).2 (I.ok.ad1 e) (I.ok.noex b o e),I.base.free b o (I.ok.bs b o e).1 (I.ok.bs b o e).2 (I.ok.noex b o e)⟩
theorem Inv.bk (I:Inv X pins σ H s):∀ b o,X.base.get? b=some o→s.heap.get? b=some o:=fun b o e=>(I.bs b o e).1
theorem Inv.mod (I:Inv X pins σ H s):Mod X.K X.mg X.base:=I.ok.mod
theorem Inv.kIn (I:Inv X pins σ H s):X.K.In s.heap:=I.ok.mod.kin.keeps I.bk
theorem Inv.fr (I:Inv X pins σ H s):∃ m,Fr X.base X.env.locals s.heap m :=
  let ⟨m,hn,_⟩:=I.loc
  ⟨m,hn,I.bk,Nat.le_trans I.ok.bsz I.ok.above⟩
theorem Inv.lt (I:Inv X pins σ H s):X.env.locals<s.heap.objs.size:=let ⟨_,hn,_⟩:=I.loc; hn.lt
theorem Inv.sz (I:Inv X pins σ H s):X.s₀.heap.objs.size≤s.heap.objs.size:=Nat.le_trans I.ok.above (Nat.le_of_lt I.lt)
theorem Inv.ad8 (I:Inv X pins σ H s) {a:Addr} (h:s.heap.objs.size≤a):a∉X.fs:=fun hb=>by
  obtain ⟨_,o,ho,_⟩:=I.ok.W4.mem hb
  exact absurd (Nat.lt_of_lt_of_le (Heap.lt_size ho) (Nat.le_trans I.sz h)) (Nat.lt_irrefl _)
theorem Inv.cne (I:Inv X pins σ H s):∀ x c,X.env.cells.lookup x=some c→c≠X.env.locals:=fun x c e z=>by
  obtain ⟨v,o,ho,hd⟩:=I.cell x c e
  obtain ⟨m,⟨o',es,ep,ho',hd',_⟩,_⟩:=I.loc
  rw [z,ho'] at ho; cases ho; rw [hd'] at hd; cases hd
theorem Inv.W4 (I:Inv X pins σ H s):s.heap.FunFrames X.base X.outer:=by
  have all:∀ (l:List Env),(∀ b∈frs l,b∈X.fs)→X.s₀.heap.FunFrames X.base l→s.heap.FunFrames X.base l:=by
    intro l
    induction l with
    | nil=>intro _ _; trivial
    | cons env r ih =>
      intro hs hl
      obtain ⟨hk,⟨L,o,hf,hn,ho,hd⟩,hr⟩:=hl
      have hL:L∈X.fs:=hs L (by unfold frs; rw [List.filterMap_cons,hf]; exact List.mem_cons_self)
      obtain ⟨sl,e⟩:=I.base.slot L o ho (I.ok.frf L hL) hL fun z=>I.ok.exfs L z hL
      exact ⟨hk,⟨L,_,hf,hn,e,hd⟩,ih (fun b hb=>hs b (by unfold frs; rw [List.filterMap_cons,hf]; exact List.mem_cons_of_mem _ hb)) hr⟩
  exact all X.outer (fun _ hb=>hb) I.ok.W4
theorem Inv.stack (I:Inv X pins σ H s):s.heap.FunFrames X.base X.stack:=by
  rcases I.ok.stk with e | ⟨e,hf⟩
  · rw [e]; exact I.W4
  · rw [e]
    obtain ⟨m,hn,_⟩:=I.loc
    refine .cons (by rw [I.ok.kind]; decide) hf hn ?_ I.W4
    exact Heap.get?_none_of_le (Nat.le_trans I.ok.bsz I.ok.above)
theorem Inv.Ue (I:Inv X pins σ H s):∀ b∈frs X.stack,b∈X.env.locals::X.fs:=fun b hb=>by
  rcases I.ok.stk with e | ⟨e,hf⟩
  · rw [e] at hb; exact List.mem_cons_of_mem _ hb
  · rw [e] at hb
    unfold frs at hb
    rw [List.filterMap_cons,hf] at hb
    exact hb
theorem Inv.W9 (I:Inv X pins σ H s):∀ b∈frs X.stack,H b=none:=fun b hb=>by
  rcases List.mem_cons.mp (I.Ue b hb) with e | hb
  · rw [e]; exact I.free
  · obtain ⟨_,o,ho,_⟩:=I.ok.W4.mem hb
    exact I.base.free b o ho (I.ok.frf b hb) fun z=>I.ok.exfs b z hb
theorem Inv.step {g':Array GenState} {t':Nat} {d':Drawn} {ch:List Addr} (I:Inv X pins σ H s)
    (hch:∀ b∈ch,(b∈X.ex∨X.s₀.heap.objs.size≤b)∧b≠X.env.locals∧(∀ x c,X.env.cells.lookup x=some c→c≠b)∧∀ p∈X.pn++pins,p.1≠b)
    (keep:∀ b o,b≠X.env.locals→b∉X.fs→b∉ch→s.heap.get? b=some o→H b=none→h'.get? b=some o)
    (slot:∀ b o,b≠X.env.locals→b∈X.fs→b∉ch→s.heap.get? b=some o→H b=none→∃ sl,h'.get? b=some { o with slots:=sl }) (free:∀ b o,b∉ch→s.heap.get? b=some o→H b=none→H' b=none)
    (there:∀ b o,b∉ch→s.heap.get? b=some o→∃ o',h'.get? b=some o')
    (tups:∀ b xs,H b=some (.tup xs)→H' b=some (.tup xs)) (frzs:∀ b o u,H b=some (.frz o u)→H' b=some (.frz o u)) (tbls:∀ b ps,H b=some (.tbl ps)→∃ more,H' b=some (.tbl (ps++more)))
    (ns:∀ m,s.heap.Ns X.env.locals m→h'.Ns X.env.locals m) (hok:HOk X.prog X.w H' h') (hg:AllBare g') :
    Inv X pins σ H' { s with heap:=h',gens:=g',drawn:=d',toks:=t' }:=by
  have neL:∀ b o,X.s₀.heap.get? b=some o→b≠X.env.locals:=fun b o e=>Nat.ne_of_lt (Nat.lt_of_lt_of_le (Heap.lt_size e) I.ok.above)
  have neC:∀ b o,X.s₀.heap.get? b=some o→b∉X.ex→b∉ch:=fun b o e hx hb=>by
    rcases (hch b hb).1 with z | z
    · exact hx z
    · exact absurd (Nat.lt_of_lt_of_le (Heap.lt_size e) z) (Nat.lt_irrefl _)
  have cellK:∀ x c,X.env.cells.lookup x=some c→∀ v,s.heap.IsCell c v→h'.IsCell c v:=fun x c e v z9=>by
    obtain ⟨o,ho,hd⟩:=z9
    have nch:c∉ch:=fun z=>(hch c z).2.2.1 x c e rfl
    by_cases hc:c∈X.fs
    · obtain ⟨sl,q⟩:=slot c o (I.cne x c e) hc nch ho (I.freeC x c e)
      exact ⟨_,q,hd⟩
    · exact ⟨o,keep c o (I.cne x c e) hc nch ho (I.freeC x c e),hd⟩
  refine ⟨I.ok,I.os,hg,⟨fun b o e n hb hx=>?_,fun b o e n hb hx=>?_,fun b o e n hx=>?_,fun b o e hx=>?_,fun b xs e=>tups b xs (I.base.tups b xs e),fun b o xs e=>frzs b o xs (I.base.frzs b o xs e),fun b ps e=>?_⟩,?_,fun x c e=>?_,?_,fun x c e=>?_,fun p hp=>?_,hok,I.len⟩
  · exact keep b o (neL b o e) hb (neC b o e hx) (I.base.keep b o e n hb hx) (I.base.free b o e n hx)
  · obtain ⟨sl,e1⟩:=I.base.slot b o e n hb hx
    obtain ⟨sl',e2⟩:=slot b _ (neL b o e) hb (neC b o e hx) e1 (I.base.free b o e n hx)
    exact ⟨sl',e2⟩
  · obtain ⟨o',e1⟩:=I.base.there b o e hx
    exact free b o' (neC b o e hx) e1 (I.base.free b o e n hx)
  · obtain ⟨o',e1⟩:=I.base.there b o e hx
    exact there b o' (neC b o e hx) e1
  · obtain ⟨m1,e1⟩:=I.base.tbls b ps e
    obtain ⟨m2,e2⟩:=tbls b _ e1
    exact ⟨m1++m2,by rw [e2,Array.append_assoc]⟩
  · obtain ⟨m,hn,hl⟩:=I.loc
    refine ⟨m,ns m hn,fun i x v e1 e2 e3=>?_⟩
    obtain ⟨u,r,l⟩:=hl i x v e1 e2 e3
    refine ⟨u,r,?_⟩
    rcases l with l | ⟨k,c,e,z⟩
    · exact .inl l
    · exact .inr ⟨k,c,e,cellK x c e _ z⟩
  · obtain ⟨v,z⟩:=I.cell x c e
    exact ⟨v,cellK x c e v z⟩
  · obtain ⟨m,⟨o,_,_,ho,_⟩,_⟩:=I.loc
    exact free _ o (fun z=>(hch _ z).2.1 rfl) ho I.free
  · obtain ⟨v,o,ho,hd⟩:=I.cell x c e
    exact free c o (fun z=>(hch c z).2.2.1 x c e rfl) ho (I.freeC x c e)
  · obtain ⟨e,n,ne,nf,d⟩:=I.pin p hp
    have nch:p.1∉ch:=fun z=>(hch p.1 z).2.2.2 p hp rfl
    exact ⟨keep p.1 p.2 ne nf nch e n,free p.1 p.2 nch e n,ne,nf,d⟩
theorem Inv.un {t':Nat} (I:Inv X pins σ H s) (u:Un X.fs [] H H' s.heap h') (hok:HOk X.prog X.w H' h'):Inv X pins σ H' { s with heap:=h',toks:=t' }:=by
  obtain ⟨m,⟨o,es,ep,ho,r⟩,_⟩:=id I.loc
  obtain ⟨sl,hL⟩:=u.any ho I.free (by simp)
  exact I.step (g':=s.gens) (d':=s.drawn) (ch:=[]) (fun _ z=>nomatch z) (fun b o _ hb _ e n=>u.keep b o e n hb (by simp)) (fun b o _ hb _ e n=>u.slot b o e n hb (by simp)) (fun b o _ e n=>u.free b o e n (by simp)) (fun b o _ e=>u.there b o e (by simp)) u.tups u.frzs u.tbls (fun m' hm=>by
    obtain ⟨o',es',ep',ho',r'⟩:=hm
    rw [ho] at ho'; cases ho'
    exact ⟨_,es',ep',hL,r'⟩) hok I.bare
theorem Inv.call {g':Array GenState} {t':Nat} {d':Drawn} {ch:List Addr} (I:Inv X pins σ H s) (u:Un (frs X.stack) ch H H' s.heap h') (hok:HOk X.prog X.w H' h') (hg:AllBare g')
    (hch:∀ b∈ch,(b∈X.ex∨X.s₀.heap.objs.size≤b)∧b≠X.env.locals∧(∀ x c,X.env.cells.lookup x=some c→c≠b)∧∀ p∈X.pn++pins,p.1≠b) :
    Inv X pins σ H' { s with heap:=h',gens:=g',drawn:=d',toks:=t' }:=by
  obtain ⟨m,⟨o,es,ep,ho,r⟩,_⟩:=id I.loc
  obtain ⟨sl,hL⟩:=u.any ho I.free fun z=>(hch _ z).2.1 rfl
  exact I.step (ch:=ch) hch (fun b o hL hb hc e n=>u.keep b o e n (fun z=>(List.mem_cons.mp (I.Ue b z)).elim hL hb) hc) (fun b o _ _ hc e n=>u.any e n hc) (fun b o hc e n=>u.free b o e n hc) (fun b o hc e=>u.there b o e hc) u.tups u.frzs u.tbls (fun m' hm=>by
    obtain ⟨o',es',ep',ho',r'⟩:=hm
    rw [ho] at ho'; cases ho'
    exact ⟨_,es',ep',hL,r'⟩) hok hg
theorem Inv.turned {t':Nat} {it:Addr} (I:Inv X pins σ H s) (k:∀ b o,b≠it→s.heap.get? b=some o→h'.get? b=some o) (hn:H it=none) (hL:it≠X.env.locals)
    (h1:it∈X.ex∨X.s₀.heap.objs.size≤it) (h2:∀ x c,X.env.cells.lookup x=some c→c≠it) (h3:∀ p∈X.pn++pins,p.1≠it):Inv X pins σ H { s with heap:=h',toks:=t' }:=by
  have nit:∀ b u,H b=some u→b≠it:=fun b u e z=>by rw [z,hn] at e; cases e
  refine I.step (g':=s.gens) (d':=s.drawn) (ch:=[it]) (fun b hb=>?_) (fun b o _ _ hc e _=>k b o (fun z=>hc (by simp [z])) e) (fun b o _ _ hc e _=>⟨o.slots,k b o (fun z=>hc (by simp [z])) e⟩) (fun _ _ _ _ n=>n)
    (fun b o hc e=>⟨o,k b o (fun z=>hc (by simp [z])) e⟩) (fun _ _ e=>e) (fun _ _ _ e=>e) (fun b ps e=>⟨#[],by rw [e]; simp⟩) (fun m hm=>?_) (fun b u e=>?_) I.bare
  · have e:b=it:=by simpa using hb
    subst e
    exact ⟨h1,hL,h2,h3⟩
  · obtain ⟨o,es,ep,ho,r⟩:=hm
    exact ⟨o,es,ep,k _ o (Ne.symm hL) ho,r⟩
  · refine (I.hok b u e).stay (fun c v hc q=>k c v ?_ q) (fun _ q=>q) fun _ _ q=>q
    rcases hc with z | z
    · rw [z]; exact nit b u e
    · exact nit c _ z
theorem Inv.tok (I:Inv X pins σ H s) (t:Nat):Inv X pins σ H { s with toks:=t }:=I.un (h':=s.heap) (t':=t) Un.refl I.hok
theorem Inv.kept {t':Nat} (I:Inv X pins σ H s) (k:∀ b u,s.heap.get? b=some u→h'.get? b=some u):Inv X pins σ H { s with heap:=h',toks:=t' }:=I.un (Un.kept k) (I.hok.kept k)
theorem Inv.laid {a:Addr} {o:HO} {t':Nat} (I:Inv X pins σ H s) (k:∀ b u,s.heap.get? b=some u→h'.get? b=some u) (hp:s.heap.objs.size≤a) (new:yw X.prog X.w (upd H a o) h' a o) :
    Inv X pins σ (upd H a o) { s with heap:=h',toks:=t' }:=I.un (Un.laid k hp (I.hok.fresh hp)) (I.hok.laid k hp new)
theorem Inv.write {x e:Addr} {o:HO} {t':Nat} (I:Inv X pins σ H s) (mu:Mut (H x)) (he:e=x∨H e=some (.own x)) (k:∀ b u,b≠e→s.heap.get? b=some u→h'.get? b=some u) (heo:∃ u,h'.get? e=some u)
    (new:yw X.prog X.w (upd H x o) h' x o):Inv X pins σ (upd H x o) { s with heap:=h',toks:=t' }:=I.un (Un.write mu he k heo) (I.hok.write mu he k heo new)
theorem Inv.Xm {pins':List (Addr × Obj)} (I:Inv X pins σ H s) (h:∀ p∈pins',s.heap.get? p.1=some p.2∧H p.1=none∧p.1≠X.env.locals∧p.1∉X.fs∧∀ v,p.2.data≠.cell v):Inv X pins' σ H s :=
  ⟨I.ok,I.os,I.bare,I.base,I.loc,I.cell,I.free,I.freeC,fun p hp=>(List.mem_append.mp hp).elim (fun z=>I.pin p (List.mem_append_left _ z)) (h p),I.hok,I.len⟩
theorem Sv {N:List Str} (hN:N.Nodup) {i j:Nat} {x:Str} (a:N[i]? = some x) (b:N[j]? = some x):i=j:=by
  obtain ⟨h1,e1⟩:=List.getElem?_eq_some_iff.mp a
  obtain ⟨h2,e2⟩:=List.getElem?_eq_some_iff.mp b
  exact (List.getElem_inj hN).mp (e1.trans e2.symm)
theorem Yz {M:Model} {A:Around} {E:Value→Shared→Prop} {i:Nat} {x:Str} {v:V} {u:Value} {Q:Unit→Shared→Prop} (I:Inv X pins σ H s) (hN:X.N.Nodup) (hi:X.N[i]? = some x) (hx:Loc X.env.scope x) (r:RelV v u)
    (h:∀ s',Inv X pins (σ.set i (some v)) H s'→(∃ a,Heap.SameBut a s.heap s'.heap∧(a=X.env.locals∨X.env.cells.lookup x=some a))→Q () s') (hf:X.fn x=true∨X.env.scope.names.lookup x=some .local:=by first | exact .inl rfl | exact .inr rfl | assumption):wpAny M A (storeName X.env x u) Q E s:=by
  obtain ⟨m,hn,hl⟩:=id I.loc
  have hcls:(X.env.scope.kind == .class||(X.env.scope.kind == .module&&X.env.locals != X.env.globals))=false:=by rw [I.ok.kind]; rfl
  have hiσ:i<σ.length:=by rw [I.len]; exact (List.getElem?_eq_some_iff.mp hi).1
  have cne:=I.cne
  have tracked:∀ {a:Addr} {h':Heap},(∃ o,s.heap.get? a=some o∧H a=none)→Heap.SameBut a s.heap h'→HOk X.prog X.w H h':=fun {a h'} ha hs b ob e=>by
    obtain ⟨_,_,hfree⟩:=ha
    refine (I.hok b ob e).stay (fun c w' hc q=>(hs.2 c ?_).trans q) (fun _ q=>q) fun _ _ q=>q
    rintro rfl
    rcases hc with rfl | hc
    · rw [hfree] at e; cases e
    · rw [hfree] at hc; cases hc
  rcases hx with hk | hk
  · refine wpAny_storeName_local hk hn (fun h' hn' hs=>?_) hcls
    obtain ⟨oL,_,_,hoL,_⟩:=id hn
    refine h _ ⟨I.ok,I.os,I.bare,⟨fun b o e n hb hx=>?_,fun b o e n hb hx=>?_,I.base.free,fun b o e hx=>?_,I.base.tups,I.base.frzs,I.base.tbls⟩,⟨_,hn',fun j y v' e1 e2 e3=>?_⟩,fun y c e=>?_,I.free,I.freeC,fun p hp=>?_,tracked ⟨oL,hoL,I.free⟩ hs,by simpa using I.len⟩ ⟨_,hs,.inl rfl⟩
    · exact (hs.2 b (Nat.ne_of_lt (Nat.lt_of_lt_of_le (Heap.lt_size e) I.ok.above))).trans (I.base.keep b o e n hb hx)
    · obtain ⟨sl,e1⟩:=I.base.slot b o e n hb hx
      exact ⟨sl,(hs.2 b (Nat.ne_of_lt (Nat.lt_of_lt_of_le (Heap.lt_size e) I.ok.above))).trans e1⟩
    · obtain ⟨o',e1⟩:=I.base.there b o e hx
      exact ⟨o',(hs.2 b (Nat.ne_of_lt (Nat.lt_of_lt_of_le (Heap.lt_size e) I.ok.above))).trans e1⟩
    · by_cases hj:j=i
      · subst hj
        rw [hi] at e1; cases e1
        rw [List.getElem?_set_self hiσ] at e2
        cases e2
        exact ⟨u,r,.inl ⟨hk,by simp⟩⟩
      · rw [List.getElem?_set_ne (Ne.symm hj)] at e2
        obtain ⟨u',r',q⟩:=hl j y v' e1 e2 e3
        refine ⟨u',r',?_⟩
        rcases q with ⟨k,e⟩ | ⟨k,c,e,z⟩
        · refine .inl ⟨k,?_⟩
          have:y≠x:=fun e=>hj (Sv hN e1 (e ▸ hi))
          simp [this,e]
        · exact .inr ⟨k,c,e,z.sameBut hs (cne y c e)⟩
    · obtain ⟨w',z⟩:=I.cell y c e
      exact ⟨w',z.sameBut hs (cne y c e)⟩
    · obtain ⟨e,n,ne,nf,d⟩:=I.pin p hp
      exact ⟨(hs.2 p.1 ne).trans e,n,ne,nf,d⟩
  · have hfn:X.fn x=true:=by
      rcases hf with z | z
      · exact z
      · rw [z] at hk; cases hk
    obtain ⟨c,hc⟩:=I.ok.has x (.inl hk)
    obtain ⟨w',z⟩:=I.cell x c hc
    refine wpAny_storeName_cell I.ok.kind hk hc z (fun h' hc' hs=>?_)
    obtain ⟨oc,hoc,hocd⟩:=id z
    refine h { s with heap:=h' } ⟨I.ok,I.os,I.bare,⟨fun b o e n hb hx=>?_,fun b o e n hb hx=>?_,I.base.free,fun b o e hx=>?_,I.base.tups,I.base.frzs,I.base.tbls⟩,⟨m,hn.sameBut hs (Ne.symm (cne x c hc)),fun j y v' e1 e2 e3=>?_⟩,fun y c' e=>?_,I.free,I.freeC,fun p hp=>?_,tracked ⟨oc,hoc,I.freeC x c hc⟩ hs,by simpa using I.len⟩ ⟨c,hs,.inr hc⟩
    · exact (hs.2 b (Nat.ne_of_lt (Nat.lt_of_lt_of_le (Heap.lt_size e) (I.ok.cab x c hfn hc)))).trans (I.base.keep b o e n hb hx)
    · obtain ⟨sl,e1⟩:=I.base.slot b o e n hb hx
      exact ⟨sl,(hs.2 b (Nat.ne_of_lt (Nat.lt_of_lt_of_le (Heap.lt_size e) (I.ok.cab x c hfn hc)))).trans e1⟩
    · obtain ⟨o',e1⟩:=I.base.there b o e hx
      exact ⟨o',(hs.2 b (Nat.ne_of_lt (Nat.lt_of_lt_of_le (Heap.lt_size e) (I.ok.cab x c hfn hc)))).trans e1⟩
    · by_cases hj:j=i
      · subst hj
        rw [hi] at e1; cases e1
        rw [List.getElem?_set_self hiσ] at e2
        cases e2
        exact ⟨u,r,.inr ⟨.inl hk,c,hc,hc'⟩⟩
      · rw [List.getElem?_set_ne (Ne.symm hj)] at e2
        obtain ⟨u',r',q⟩:=hl j y v' e1 e2 e3
        refine ⟨u',r',?_⟩
        rcases q with q | ⟨k,c',e,z'⟩
        · exact .inl q
        · refine .inr ⟨k,c',e,z'.sameBut hs ?_⟩
          rintro rfl
          exact hj (Sv hN e1 (I.ok.inj _ _ _ e hc ▸ hi))
    · by_cases hcc:c'=c
      · subst hcc; exact ⟨_,hc'⟩
      · obtain ⟨w2,z2⟩:=I.cell y c' e
        exact ⟨w2,z2.sameBut hs hcc⟩
    · obtain ⟨e,n,ne,nf,d⟩:=I.pin p hp
      refine ⟨(hs.2 p.1 ?_).trans e,n,ne,nf,d⟩
      intro q
      rw [q,hoc] at e
      have q':oc=p.2:=Option.some.inj e
      exact d w' (by rw [← q']; exact hocd)
theorem U0 {M:Model} {A:Around} {E:Value→Shared→Prop} {i:Nat} {x:Str} {v:V} {u:Value} {Q:Unit→Shared→Prop} (I:Inv X pins σ H s) (hN:X.N.Nodup) (hi:X.N[i]? = some x) (hx:Loc X.env.scope x) (r:RelV v u)
    (h:∀ s',Inv X pins (σ.set i (some v)) H s'→Q () s') (hf:X.fn x=true∨X.env.scope.names.lookup x=some .local:=by first | exact .inl rfl | exact .inr rfl | assumption):wpAny M A (storeName X.env x u) Q E s :=
  Yz I hN hi hx r (fun s' I' _=>h s' I') hf
end
noncomputable abbrev XK:=Value→Option Addr→Hp→Prop
noncomputable abbrev St:=List (Option V)
noncomputable abbrev VK:=V→Hp→Prop
noncomputable abbrev TE:=St→Hp→VK→Prop
noncomputable abbrev TT:=St→Hp→(Bool→Hp→Prop)→Prop
noncomputable abbrev TA:=St→Hp→(List V→Hp→Prop)→Prop
structure Ends where
  nx:St→Hp→Prop
  rt:VK
  bk:St→Hp→Prop:=fun _ _=>False
  ct:St→Hp→Prop:=fun _ _=>False
noncomputable abbrev TS:=Ends→St→Hp→Prop
inductive EP (X:Cx) (pins:List (Addr × Obj)) (σ:St) (Q:VK) (u:Value) (s':Shared):Prop
  | mk (v:V) (H':Hp) (I:Inv X pins σ H' s') (r:RelV v u) (q:Q v H')
noncomputable def TP (X:Cx) (pins:List (Addr × Obj)) (σ:St) (Q:Bool→Hp→Prop) (b:Bool) (s':Shared):Prop:=∃ H',Inv X pins σ H' s'∧Q b H'
inductive AP (X:Cx) (pins:List (Addr × Obj)) (σ:St) (Q:List V→Hp→Prop) (us:List Value) (s':Shared):Prop
  | mk (vs:List V) (H':Hp) (I:Inv X pins σ H' s') (r:Vals vs us) (q:Q vs H')
noncomputable def SP (X:Cx) (pins:List (Addr × Obj)) (D:Ends) (f:Flow) (s':Shared):Prop :=
  match f with
  | .next=>∃ σ' H',Inv X pins σ' H' s'∧D.nx σ' H'
  | .brk=>∃ σ' H',Inv X pins σ' H' s'∧D.bk σ' H'
  | .cont=>∃ σ' H',Inv X pins σ' H' s'∧D.ct σ' H'
  | .ret u=>∃ v σ' H',Inv X pins σ' H' s'∧RelV v u∧D.rt v H'
noncomputable def PE (X:Cx) (e:Expr) (t:TE):Prop :=
  ∀ (pins:List (Addr × Obj)) (s:Shared) (σ:St) (H:Hp) (Q:VK),Inv X pins σ H s→t σ H Q→wpAny (model X.prog X.w) X.A (eval e X.env) (EP X pins σ Q) X.xe s
noncomputable def PT (X:Cx) (e:Expr) (t:TT):Prop :=
  ∀ (pins:List (Addr × Obj)) (s:Shared) (σ:St) (H:Hp) (Q:Bool→Hp→Prop),Inv X pins σ H s→t σ H Q→wpAny (model X.prog X.w) X.A (isTrue e X.env (eval e X.env)) (TP X pins σ Q) X.xe s
noncomputable def PW (X:Cx) (e:Expr) (t:TT):Prop :=
  ∀ (whole:Sem Value) (pins:List (Addr × Obj)) (s:Shared) (σ:St) (H:Hp) (Q:Bool→Hp→Prop),Inv X pins σ H s→t σ H Q→wpAny (model X.prog X.w) X.A (isTrue e X.env whole) (TP X pins σ Q) X.xe s
theorem PW.pt {X:Cx} {e:Expr} {t:TT} (h:PW X e t):PT X e t:=h _
noncomputable def PA (X:Cx) (es:List Expr) (t:TA):Prop :=
  ∀ (pos:Pos) (pins:List (Addr × Obj)) (s:Shared) (σ:St) (H:Hp) (Q:List V→Hp→Prop),Inv X pins σ H s→t σ H Q→wpAny (model X.prog X.w) X.A (spliced (backTo pos (starEach es X.env))) (AP X pins σ Q) X.xe s
noncomputable def PS (X:Cx) (st:Stmt) (t:TS):Prop :=
  ∀ (pins:List (Addr × Obj)) (s:Shared) (σ:St) (H:Hp) (D:Ends),Inv X pins σ H s→t D σ H→wpAny (model X.prog X.w) X.A (exec st X.env) (SP X pins D) X.xe s
noncomputable def PSs (X:Cx) (st:List Stmt) (t:TS):Prop :=
  ∀ (pins:List (Addr × Obj)) (s:Shared) (σ:St) (H:Hp) (D:Ends),Inv X pins σ H s→t D σ H→wpAny (model X.prog X.w) X.A (execs st X.env) (SP X pins D) X.xe s
theorem thn {α:Type} {t:Sem α} {Q Q':α→Shared→Prop} {M:Model} {A:Around} {E:Value→Shared→Prop} {s:Shared} (h:wpAny M A t Q E s) (hQ:∀ a s,Q a s→Q' a s):wpAny M A t Q' E s:=wpAny_mono h hQ fun _ _ x=>x
end L2
namespace L2
open PySem PySem.Spec PyProof.Rows
noncomputable section
variable {X:Cx}
noncomputable def Zz (i:Nat):TE:=fun σ H Q=>∃ v,σ[i]? = some (some v)∧Q v H
noncomputable def tC (v:V):TE:=fun _ H Q=>Q v H
theorem a88 {i:Nat} {x:Str} {pos:Pos} (hN:X.N[i]? = some x) (hv:Vis X.env.scope x) (hd:(x==("__debug__" : Str))=false:=by decide) (hcd:(x==("__classdict__" : Str))=false:=by decide):PE X (.Name x pos) (Zz i):=by
  intro pins s σ H Q I h
  obtain ⟨v,e,h⟩:=h
  obtain ⟨m,hn,hl⟩:=I.loc
  obtain ⟨u,r,l⟩:=hl i x v hN e hv
  have fin:EP X pins σ Q u s:=⟨v,H,I,r,h⟩
  rcases l with ⟨hk,hm⟩ | ⟨hk,c,hc,hcell⟩
  · exact wpAny_Name (wpAny_loadName_local I.ok.kind hk hn hm fin) hd
  · rcases hk with hk | hk
    · exact wpAny_Name (wpAny_loadName_cell I.ok.kind hk hc hcell fin) hd
    · exact wpAny_Name (wpAny_loadName_free I.ok.kind hk hc hcell fin hcd) hd
theorem a3v {i j pos}:PE X (.Constant (.int i) j pos) (tC (.int i)):=fun _ _ _ H _ I h=>wpAny_Constant_int ⟨.int i,H,I.tok _,⟨_,rfl⟩,h⟩
theorem aas {b j pos}:PE X (.Constant (.bool b) j pos) (tC (.bl b)):=fun _ _ _ H _ I h=>Constant_bool ⟨.bl b,H,I,rfl,h⟩
theorem a8p {j pos}:PE X (.Constant .none j pos) (tC .non):=fun _ _ _ H _ I h=>Constant_none ⟨.non,H,I,rfl,h⟩
theorem a8d {x j pos}:PE X (.Constant (.str x) j pos) (tC (.str x)):=fun _ _ _ H _ I h=>Calls.Constant_str ⟨.str x,H,I.tok _,⟨_,rfl⟩,h⟩
noncomputable def Gl (X:Cx) (x:Str):Prop:=X.env.kindOf x=some .globalImplicit
theorem Zn {E:Value→Shared→Prop} {pins:List (Addr × Obj)} {s:Shared} {σ:St} {H:Hp} {x:Str} {u:Value} {pos:Pos} {Q:Value→Shared→Prop} (I:Inv X pins σ H s) (hg:Gl X x) (hm:X.mg x=some u) (h:Q u s)
    (hd:(x==("__debug__" : Str))=false:=by decide):wpAny (model X.prog X.w) X.A (eval (.Name x pos) X.env) Q E s :=
  Calls.Name_function_global I.ok.kind hg (Calls.loadGlobal_global (by rw [I.ok.glob]; exact I.mod.glob.keeps I.bk) hm h) hd
theorem Jc {E:Value→Shared→Prop} {pins:List (Addr × Obj)} {s:Shared} {σ:St} {H:Hp} {x:Str} {u:Value} {pos:Pos} {Q:Value→Shared→Prop} (I:Inv X pins σ H s) (hg:Gl X x) (hm:X.mg x=none) (hv:bootBuiltins x=some u) (h:Q u s)
    (hn:x ≠ "__name__" := by decide) (hd:(x==("__debug__" : Str))=false:=by decide):wpAny (model X.prog X.w) X.A (eval (.Name x pos) X.env) Q E s:=by
  obtain ⟨mb,h1,h2⟩:=I.mod.blt
  exact Calls.Name_function_global I.ok.kind hg (Calls.loadGlobal_builtin (by rw [I.ok.glob]; exact I.mod.glob.keeps I.bk) hm (by rw [I.ok.blt]; exact h1.keeps I.bk) ((h2 x hn).trans hv) h) hd
theorem a6c {x:Str} {v:V} {u:Value} {pos:Pos} (hg:Gl X x) (hm:X.mg x=some u) (r:RelV v u) (hd:(x==("__debug__" : Str))=false:=by decide):PE X (.Name x pos) (tC v) :=
  fun _ _ _ H _ I h=>Zn I hg hm ⟨v,H,I,r,h⟩ hd
theorem a5k {x:Str} {v:V} {u:Value} {pos:Pos} (hg:Gl X x) (hm:X.mg x=none) (hv:bootBuiltins x=some u) (r:RelV v u) (hn:x ≠ "__name__" := by decide) (hd:(x==("__debug__" : Str))=false:=by decide):PE X (.Name x pos) (tC v) :=
  fun _ _ _ H _ I h=>Jc I hg hm hv ⟨v,H,I,r,h⟩ hn hd
variable {a b:Expr} {ta tb:TE} {pos:Pos}
noncomputable def tB (t:TE):TT:=fun σ H Q=>t σ H fun x H1=>∃ c,x=.bl c∧Q c H1
theorem a8w {e:Expr} {t:TE} (h:PE X e t) (he:∀ whole,isTrue e X.env whole=(do let v ← whole; standAt e.pos; holding [v] (truthy v)):=by intro _; rfl):PT X e (tB t):=by
  intro pins s σ H Q I hw
  refine isTrue_plain (thn (h pins s σ H _ I hw) fun v s1 z0=>?_) (he _)
  obtain ⟨x,H1,I1,r1,q1⟩:=z0
  obtain ⟨d,rfl,q⟩:=q1
  cases r1
  exact wpAny_truthy_bool ⟨H1,I1,q⟩
variable {tA tB':TT} {rest:List Expr}
noncomputable def ac9 (t u:TT):TT:=fun σ H Q=>t σ H fun c H1=>if c=true then u σ H1 Q else Q false H1
noncomputable def tOr (t u:TT):TT:=fun σ H Q=>t σ H fun c H1=>if c=true then Q true H1 else u σ H1 Q
noncomputable def ad5 (t:TT):TT:=fun σ H Q=>t σ H fun c H1=>Q (!c) H1
theorem pw_and1 (ha:PT X a tA):PW X (.BoolOp .And [a] pos) tA:=by
  intro wh pins s σ H Q I h
  refine isTrue_and (thn (ha pins s σ H Q I h) fun c s1 e=>?_)
  cases c with
  | true=>exact isTrue_and_nil e
  | false=>exact e
theorem pw_or1 (ha:PT X a tA):PW X (.BoolOp .Or [a] pos) tA:=by
  intro wh pins s σ H Q I h
  refine isTrue_or (thn (ha pins s σ H Q I h) fun c s1 e=>?_)
  cases c with
  | false=>exact isTrue_or_nil e
  | true=>exact e
theorem pw_and (ha:PT X a tA) (hb:PW X (.BoolOp .And (b::rest) pos) tB'):PW X (.BoolOp .And (a::b::rest) pos) (ac9 tA tB'):=by
  intro wh pins s σ H Q I h
  refine isTrue_and (thn (ha pins s σ H _ I h) fun c s1 z0=>?_)
  obtain ⟨H1,I1,q1⟩:=z0
  cases c with
  | true=>exact hb wh pins s1 σ H1 Q I1 q1
  | false=>exact ⟨H1,I1,q1⟩
theorem pw_or (ha:PT X a tA) (hb:PW X (.BoolOp .Or (b::rest) pos) tB'):PW X (.BoolOp .Or (a::b::rest) pos) (tOr tA tB'):=by
  intro wh pins s σ H Q I h
  refine isTrue_or (thn (ha pins s σ H _ I h) fun c s1 z0=>?_)
  obtain ⟨H1,I1,q1⟩:=z0
  cases c with
  | true=>exact ⟨H1,I1,q1⟩
  | false=>exact hb wh pins s1 σ H1 Q I1 q1
theorem a7o (ha:PT X a tA):PT X (.UnaryOp .Not a pos) (ad5 tA):=by
  intro pins s σ H Q I h
  exact isTrue_not (ha pins s σ H (fun c H1=>Q (!c) H1) I h)
noncomputable def aa6 (ta tb:TE):TE:=fun σ H Q=>ta σ H fun x H1=>∃ c,x=.bl c∧if c=true then tb σ H1 Q else Q (.bl false) H1
noncomputable def aam (ta:TE):TE:=fun σ H Q=>ta σ H fun x H1=>∃ c,x=.bl c∧Q (.bl (!c)) H1
theorem a7z {op} {t:TE} (h:PE X a t):PE X (.BoolOp op [a] pos) t:=fun pins s σ H Q I hw=>BoolOp_one (h pins s σ H Q I hw)
theorem a7a (ha:PE X a ta) (hb:PE X (.BoolOp .And (b::rest) pos) tb):PE X (.BoolOp .And (a::b::rest) pos) (aa6 ta tb):=by
  intro pins s σ H Q I h
  refine BoolOp_and (thn (ha pins s σ H _ I h) fun v s1 z0=>?_)
  obtain ⟨x,H1,I1,r1,q1⟩:=z0
  obtain ⟨c,rfl,q1⟩:=q1
  cases r1
  refine wpAny_truthy_bool ?_
  cases c with
  | true=>exact hb pins s1 σ H1 Q I1 q1
  | false=>exact ⟨.bl false,H1,I1,rfl,q1⟩
theorem a92 (ha:PE X a ta):PE X (.UnaryOp .Not a pos) (aam ta):=by
  intro pins s σ H Q I h
  refine UnaryOp_ (thn (ha pins s σ H _ I h) fun v s1 z0=>?_)
  obtain ⟨x,H1,I1,r1,q1⟩:=z0
  obtain ⟨c,rfl,q1⟩:=q1
  cases r1
  exact not_of (wpAny_truthy_bool ⟨.bl (!c),H1,I1,rfl,q1⟩)
noncomputable def tIf (t:TT) (ta tb:TE):TE:=fun σ H Q=>t σ H fun c H1=>if c=true then ta σ H1 Q else tb σ H1 Q
theorem a1a {c:Expr} (hc:PT X c tA) (ha:PE X a ta) (hb:PE X b tb):PE X (.IfExp c a b pos) (tIf tA ta tb):=by
  intro pins s σ H Q I h
  refine wpAny_IfExp (thn (hc pins s σ H _ I h) fun d s1 z0=>?_)
  obtain ⟨H1,I1,q1⟩:=z0
  cases d with
  | true=>exact ha pins s1 σ H1 Q I1 q1
  | false=>exact hb pins s1 σ H1 Q I1 q1
end
end L2
namespace L2
open PySem PySem.Spec PyProof.Rows
noncomputable def SqL (K:PySem.W.Frag) (H:Hp) (a:Addr) (xs:List V):Prop :=
  Rd H a (.lst xs) ∨
    ∃ (o:Obj) (its:Array Value) (n:Nat),K.lookup a=some o∧o.cls=.type "list" ∧ o.dict=none∧o.data=.seq its n∧its.size≤sizeLine∧Vals xs its.toList
noncomputable def SqT (K:PySem.W.Frag) (H:Hp) (a:Addr) (xs:List V):Prop :=
  Rd H a (.tup xs) ∨
    ∃ (o:Obj) (its:Array Value) (n:Nat),K.lookup a=some o∧o.cls=.type "tuple" ∧ o.dict=none∧o.data=.seq its n∧its.size≤sizeLine∧Vals xs its.toList
noncomputable def ada:Value→Option V
  | .none=>some .non
  | .bool b=>some (.bl b)
  | .int i _=>some (.int i)
  | .str x _=>some (.str x)
  | .bytes b _=>some (.byt b)
  | .float b _=>some (.flt b)
  | .ref a=>some (.ref a)
  | .type n=>some (.ty n)
  | _=>none
theorem RelV.abs {x:V} {u:Value} (r:RelV x u):ada u=some x:=by
  cases x with
  | non=>cases r; rfl
  | bl _=>cases r; rfl
  | int _=>obtain ⟨t,rfl⟩:=r; rfl
  | str _=>obtain ⟨t,rfl⟩:=r; rfl
  | byt _=>obtain ⟨t,rfl⟩:=r; rfl
  | flt _=>obtain ⟨t,rfl⟩:=r; rfl
  | ref _=>cases r; rfl
  | ty _=>cases r; rfl
theorem RelV.inj {x y:V} {u:Value} (r:RelV x u) (q:RelV y u):x=y:=Option.some.inj (r.abs.symm.trans q.abs)
theorem Vals.inj {xs ys:List V} {us:List Value} (h:Vals xs us):Vals ys us→xs=ys:=by
  induction h generalizing ys with
  | nil=>intro k; cases k; rfl
  | cons r t ih=>intro k; cases k with | cons r' t'=>rw [r.inj r',ih t']
noncomputable section
variable {X:Cx} {pins:List (Addr × Obj)} {σ:St} {H:Hp} {s:Shared} {a:Addr} {xs ys:List V}
theorem SqL.of {K:PySem.W.Frag} (h:H a=some (.lst xs)):SqL K H a xs:=.inl (.inl h)
theorem SqT.of {K:PySem.W.Frag} (h:H a=some (.tup xs)):SqT K H a xs:=.inl (.inl h)
theorem Inv.list (I:Inv X pins σ H s) (h:SqL X.K H a xs):∃ its:List Value,Vals xs its∧PlainL s.heap a its.toArray∧xs.length≤sizeLine:=by
  rcases h with h | ⟨o,its,n,hk,hc,hd,hs,hz,r⟩
  · obtain ⟨z,its,n,r,e⟩:=h.ok I.hok
    exact ⟨its,r,⟨_,n,e,rfl,rfl,rfl⟩,z⟩
  · refine ⟨its.toList,r,⟨o,n,I.kIn a o hk,hc,hd,by simpa using hs⟩,?_⟩
    have e:=r.length
    simp only [Array.length_toList] at e
    omega
theorem Inv.tuple (I:Inv X pins σ H s) (h:SqT X.K H a xs):∃ its:List Value,Vals xs its∧IsTup s.heap a its.toArray∧xs.length≤sizeLine:=by
  rcases h with h | ⟨o,its,n,hk,hc,hdn,hs,hz,r⟩
  · obtain ⟨z,its,r,p⟩:=h.ok I.hok
    exact ⟨its,r,p.is,z⟩
  · refine ⟨its.toList,r,⟨o,I.kIn a o hk,hc,n,by simpa using hs⟩,?_⟩
    have e:=r.length
    simp only [Array.length_toList] at e
    omega
theorem Inv.Uk (I:Inv X pins σ H s) (h:SqL X.K H a xs) (h':SqL X.K H a ys):xs=ys:=by
  obtain ⟨its,r,⟨o,n,e,_,_,d⟩,_⟩:=I.list h
  obtain ⟨its',r',⟨o',n',e',_,_,d'⟩,_⟩:=I.list h'
  rw [e] at e'; cases e'
  rw [d] at d'
  injection d' with d1 _
  have:its=its':=by simpa using congrArg Array.toList d1
  subst this
  exact r.inj r'
theorem Inv.Ml (I:Inv X pins σ H s) (h:SqT X.K H a xs) (h':SqT X.K H a ys):xs=ys:=by
  obtain ⟨its,r,⟨o,e,_,n,d⟩,_⟩:=I.tuple h
  obtain ⟨its',r',⟨o',e',_,n',d'⟩,_⟩:=I.tuple h'
  rw [e] at e'; cases e'
  rw [d] at d'
  injection d' with d1 _
  have:its=its':=by simpa using congrArg Array.toList d1
  subst this
  exact r.inj r'
end
noncomputable abbrev Cx.wish (X:Cx) (E:Value→Shared→Prop):Cx:={ X with xe:=E }
noncomputable abbrev Cx.nox (X:Cx):Cx:=X.wish fun _ _=>False
theorem Cx.Ok.wish {X:Cx} (ok:X.Ok) (E:Value→Shared→Prop):(X.wish E).Ok :=
  ⟨ok.mod,ok.kind,ok.glob,ok.blt,ok.above,ok.inj,ok.has,ok.cab,ok.hd,ok.frames,ok.stk,ok.exf,ok.bs,ok.bsz,ok.noex,ok.exfs,ok.W4,ok.frf⟩
theorem Cx.Ok.Ek {X:Cx} {E:Value→Shared→Prop} (ok:(X.wish E).Ok):X.Ok :=
  ⟨ok.mod,ok.kind,ok.glob,ok.blt,ok.above,ok.inj,ok.has,ok.cab,ok.hd,ok.frames,ok.stk,ok.exf,ok.bs,ok.bsz,ok.noex,ok.exfs,ok.W4,ok.frf⟩
noncomputable section
variable {X:Cx} {pins:List (Addr × Obj)} {σ:St} {H:Hp} {s:Shared} {E:Value→Shared→Prop}
theorem Inv.wish (I:Inv X pins σ H s) (E:Value→Shared→Prop):Inv (X.wish E) pins σ H s:=⟨I.ok.wish E,I.os,I.bare,I.base,I.loc,I.cell,I.free,I.freeC,I.pin,I.hok,I.len⟩
theorem Inv.Ek (I:Inv (X.wish E) pins σ H s):Inv X pins σ H s:=⟨I.ok.Ek,I.os,I.bare,I.base,I.loc,I.cell,I.free,I.freeC,I.pin,I.hok,I.len⟩
theorem SP.Ek {D:Ends} {f:Flow} {s':Shared} (h:SP (X.wish E) pins D f s'):SP X pins D f s':=by
  cases f with
  | next=>obtain ⟨σ',H',I,q⟩:=h; exact ⟨σ',H',I.Ek,q⟩
  | brk=>obtain ⟨σ',H',I,q⟩:=h; exact ⟨σ',H',I.Ek,q⟩
  | cont=>obtain ⟨σ',H',I,q⟩:=h; exact ⟨σ',H',I.Ek,q⟩
  | ret u=>obtain ⟨v,σ',H',I,r,q⟩:=h; exact ⟨v,σ',H',I.Ek,r,q⟩
theorem PE.nox {e:Expr} {t:TE} (h:PE X.nox e t):PE X e t:=fun pins s σ H Q I hw =>
  wpAny_mono (h pins s σ H Q (I.wish _) hw) (fun _ _ z7=>by obtain ⟨v,H',I',r,q⟩:=z7; exact ⟨v,H',I'.Ek,r,q⟩) fun _ _ z=>False.elim z
theorem PT.nox {e:Expr} {t:TT} (h:PT X.nox e t):PT X e t:=fun pins s σ H Q I hw =>
  wpAny_mono (h pins s σ H Q (I.wish _) hw) (fun _ _ z7=>by obtain ⟨H',I',q⟩:=z7; exact ⟨H',I'.Ek,q⟩) fun _ _ z=>False.elim z
theorem PSs.nox {st:List Stmt} {t:TS} (h:PSs X.nox st t):PSs X st t:=fun pins s σ H D I hw =>
  wpAny_mono (h pins s σ H D (I.wish _) hw) (fun _ _ q=>q.Ek) fun _ _ z=>False.elim z
end
noncomputable section
variable {X:Cx} {st:Stmt} {rest:List Stmt} {t u:TS} {e:Expr} {te:TE} {pos:Pos}
noncomputable def aad:TS:=fun D σ H=>D.nx σ H
noncomputable def aci (t u:TS):TS:=fun D σ H=>t { D with nx:=u D } σ H
theorem a4r:PSs X [] aad:=fun _ _ σ H _ I h=>wpAny_execs_nil ⟨σ,H,I,h⟩
theorem a05 (h1:PS X st t) (h2:PSs X rest u):PSs X (st::rest) (aci t u):=by
  intro pins s σ H D I h
  refine wpAny_execs_cons (thn (h1 pins s σ H { D with nx:=u D } I h) fun f s1 q=>?_)
  cases f with
  | next =>
    obtain ⟨σ',H',I',q⟩:=q
    exact h2 pins s1 σ' H' D I' q
  | ret v=>exact q
  | brk=>exact q
  | cont=>exact q
theorem a4p (h1:PS X st t):PSs X [st] t:=by
  intro pins s σ H D I h
  refine wpAny_execs_cons (thn (h1 pins s σ H D I h) fun f s1 q=>?_)
  cases f with
  | next=>exact wpAny_execs_nil q
  | ret v=>exact q
  | brk=>exact q
  | cont=>exact q
theorem Inv.quiet {pins:List (Addr × Obj)} {σ:St} {H:Hp} {s:Shared} (I:Inv X pins σ H s):interactive X.env=false:=by simp [interactive,I.ok.kind]
noncomputable def a66 (te:TE):TS:=fun D σ H=>te σ H fun _ H1=>D.nx σ H1
theorem yq (he:PE X e te) (hs:swapsWith e none pos.line X.env=pure false:=by rfl):PS X (.Expr e pos) (a66 te):=by
  intro pins s σ H D I h
  exact wpAny_Expr_any (thn (he pins s σ H _ I h) fun v s1 z7=>by obtain ⟨x,H1,I1,r1,q1⟩:=z7; exact ⟨σ,H1,I1,q1⟩) I.quiet hs
noncomputable def acs (te:TE):TS:=fun D σ H=>te σ H D.rt
theorem a7p (he:PE X e te):PS X (.Return (some e) pos) (acs te):=by
  intro pins s σ H D I h
  exact wpAny_Return_some (thn (he pins s σ H _ I h) fun v s1 z7=>by obtain ⟨x,H1,I1,r1,q1⟩:=z7; exact ⟨x,σ,H1,I1,r1,q1⟩)
noncomputable def ad6 (c:TT) (t u:TS):TS:=fun D σ H=>c σ H fun b H1=>if b=true then t D σ H1 else u D σ H1
theorem abf {c:Expr} {a b:List Stmt} {tc:TT} (hc:PT X c tc) (ha:PSs X a t) (hb:PSs X b u):PS X (.If c a b pos) (ad6 tc t u):=by
  intro pins s σ H D I h
  refine wpAny_If (thn (hc pins s σ H _ I h) fun d s1 z0=>?_)
  obtain ⟨H1,I1,q1⟩:=z0
  cases d with
  | true=>exact ha pins s1 σ H1 D I1 q1
  | false=>exact hb pins s1 σ H1 D I1 q1
end
noncomputable abbrev TG:=V→St→Hp→(St→Hp→Prop)→Prop
noncomputable abbrev TGs:=List V→St→Hp→(St→Hp→Prop)→Prop
noncomputable def PG (X:Cx) (target:Expr) (t:TG):Prop :=
  ∀ (pins:List (Addr × Obj)) (s:Shared) (σ:St) (H:Hp) (v:V) (u:Value) (Q:St→Hp→Prop),Inv X pins σ H s→RelV v u→t v σ H Q →
    wpAny (model X.prog X.w) X.A (assign target X.env u) (fun _ s'=>∃ σ' H',Inv X pins σ' H' s'∧Q σ' H') X.xe s
noncomputable def PGs (X:Cx) (ts:List Expr) (t:TGs):Prop :=
  ∀ (pins:List (Addr × Obj)) (s:Shared) (σ:St) (H:Hp) (vs:List V) (us:List Value) (Q:St→Hp→Prop),Inv X pins σ H s→Vals vs us→t vs σ H Q →
    wpAny (model X.prog X.w) X.A (assignInOrder ((assignEach ts X.env).map (·.2)) us) (fun _ s'=>∃ σ' H',Inv X pins σ' H' s'∧Q σ' H') X.xe s
noncomputable section
variable {X:Cx} {pos:Pos}
noncomputable def Jq (i:Nat):TG:=fun v σ H Q=>Q (σ.set i (some v)) H
theorem jm {i:Nat} {x:Str} (hN:X.N.Nodup) (hi:X.N[i]? = some x) (hx:Loc X.env.scope x) (hf:X.fn x=true∨X.env.scope.names.lookup x=some .local:=by first | exact .inl rfl | exact .inr rfl | assumption):PG X (.Name x pos) (Jq i):=by
  intro pins s σ H v u Q I r h
  exact wpAny_assign_Name (U0 I hN hi hx r (fun s' I'=>⟨_,H,I',h⟩) hf)
noncomputable def abw:TGs:=fun vs σ H Q=>vs=[]∧Q σ H
noncomputable def a8h (t:TG) (u:TGs):TGs:=fun vs σ H Q=>∃ v r,vs=v::r∧t v σ H fun σ' H'=>u r σ' H' Q
theorem Aw:PGs X [] abw:=by
  intro pins s σ H vs us Q I r h
  obtain ⟨e,h⟩:=h
  subst e
  cases r
  exact assignInOrder_nil ⟨σ,H,I,h⟩
theorem qe {e:Expr} {es:List Expr} {t:TG} {u:TGs} (h1:PG X e t) (h2:PGs X es u)
    (hs:(assignEach (e::es) X.env).map (·.2)=assign e X.env::(assignEach es X.env).map (·.2):=by rfl):PGs X (e::es) (a8h t u):=by
  intro pins s σ H vs us Q I r h
  obtain ⟨v,vr,e1,h⟩:=h
  subst e1
  cases r with
  | cons r rr =>
    rw [hs]
    refine assignInOrder_cons (thn (h1 pins s σ H _ _ _ I r h) fun _ s1 z0=>?_)
    obtain ⟨σ1,H1,I1,q1⟩:=z0
    exact h2 pins s1 σ1 H1 _ _ Q I1 rr q1
noncomputable def ac4 (K:PySem.W.Frag) (n:Nat) (t:TGs):TG:=fun v σ H Q=>∃ a xs,v=.ref a∧SqT K H a xs∧xs.length=n∧t xs σ H Q
theorem Dl {es:List Expr} {k:Nat} {t:TGs} {n:Nat} (hc:X.calm=true) (h:PGs X es t)
    (hn:(assignEach es X.env).length=n:=by rfl) (hst:(assignEach es X.env).findIdx? (·.1)=none:=by rfl):PG X (.Tuple es k pos) (ac4 X.K n t):=by
  intro pins s σ H v u Q I r hw
  obtain ⟨a,xs,e1,hq,hl,hw⟩:=hw
  subst e1
  cases r
  obtain ⟨its,rv,ht,hz⟩:=I.tuple hq
  refine assign_Tuple_tuple (I.ok.hd hc) ht (by simp [hn,← hl,rv.length]) hst fun h' hx=>?_
  have I1:Inv X pins σ H { s with heap:=h' }:=I.kept (t':=s.toks) fun b o e=>hx b o (Nat.ne_of_lt (Heap.lt_size e)) e
  exact h pins _ σ H xs _ Q I1 (by simpa using rv) hw
noncomputable def a2v (te:TE) (g:TG):TS:=fun D σ H=>te σ H fun x H1=>g x σ H1 D.nx
theorem Tq {tg e:Expr} {te:TE} {g:TG} (he:PE X e te) (hg:PG X tg g) (hs:swapsWithSole [tg] e pos.line X.env=pure false:=by rfl) (hw:swappedStores [tg] e X.env=pure none:=by rfl)
    (h1:(assignEach [tg] X.env).map (·.2)=[assign tg X.env]:=by rfl):PS X (.Assign [tg] e pos) (a2v te g):=by
  intro pins s σ H D I h
  refine wpAny_Assign_stores (thn (he pins s σ H _ I h) fun v s1 z0=>?_) hs hw
  obtain ⟨x,H1,I1,r1,q1⟩:=z0
  rw [h1]
  exact thn (hg pins s1 σ H1 x v _ I1 r1 q1) fun _ s2 q=>q
theorem kh {i:Nat} {x:Str} {e:Expr} {te:TE} {pos':Pos} (hN:X.N.Nodup) (hi:X.N[i]? = some x) (hx:Loc X.env.scope x) (he:PE X e te) (hs:swapsWith e (some (.Name x pos')) pos.line X.env=pure false:=by rfl) (hf:X.fn x=true∨X.env.scope.names.lookup x=some .local:=by first | exact .inl rfl | exact .inr rfl | assumption) :
    PS X (.Assign [.Name x pos'] e pos) (a2v te (Jq i)):=by
  intro pins s σ H D I h
  refine wpAny_Assign_Name (thn (he pins s σ H _ I h) fun v s1 z0=>?_) hs
  obtain ⟨y,H1,I1,r1,q1⟩:=z0
  exact U0 I1 hN hi hx r1 (fun s2 I2=>⟨_,H1,I2,q1⟩) hf
end
noncomputable section
variable {X:Cx} {pos:Pos}
noncomputable def a7s (c:TT) (tb:TS):TS:=fun D σ H=>∃ W:Nat→St→Hp→Prop,(∃ m,W m σ H)∧∀ m σ H,W m σ H →
  c σ H fun b H1=>if b=true then ∃ N:St→Hp→Prop,(∀ σ' H',N σ' H'→∃ m',m'<m∧W m' σ' H')∧tb { D with nx:=N,ct:=N,bk:=D.nx } σ H1 else D.nx σ H1
theorem a2g {c:Expr} {body:List Stmt} {tc:TT} {tb:TS} (hp:PassesOwn (model X.prog X.w) X.A X.env X.xe) (hc:PT X c tc) (hb:PSs X body tb):PS X (.While c body [] pos) (a7s tc tb):=by
  intro pins s σ H D I h
  obtain ⟨W,⟨m0,w0⟩,turn⟩:=h
  refine wpAny_While (codeAny_whileLoop (fun n s'=>∃ σ' H',Inv X pins σ' H' s'∧W n σ' H') ?_ m0 ⟨σ,H,I,w0⟩)
  rintro n s1 ⟨σ1,H1,I1,w1⟩
  refine wpAny_passesOwn hp (thn (hc pins s1 σ1 H1 _ I1 (turn n σ1 H1 w1)) fun b s2 z0=>?_)
  obtain ⟨H2,I2,q2⟩:=z0
  cases b with
  | true =>
    obtain ⟨N,hN,q2⟩:=q2
    rw [if_pos rfl]
    refine wpAny_passesOwn hp (thn (hb pins s2 σ1 H2 _ I2 q2) fun f s3 q3=>?_)
    cases f with
    | next =>
      obtain ⟨σ3,H3,I3,n3⟩:=q3
      obtain ⟨m',hm,w3⟩:=hN σ3 H3 n3
      exact ⟨m',hm,σ3,H3,I3,w3⟩
    | cont =>
      obtain ⟨σ3,H3,I3,n3⟩:=q3
      obtain ⟨m',hm,w3⟩:=hN σ3 H3 n3
      exact ⟨m',hm,σ3,H3,I3,w3⟩
    | brk=>exact q3
    | ret v=>exact q3
  | false =>
    rw [if_neg Bool.false_ne_true]
    exact wpAny_execs_nil ⟨σ1,H2,I2,q2⟩
end
structure It where
  go:Nat→Hp→Prop
  yld:Nat→Hp→V→Hp→Prop
  stop:Nat→Hp→Prop
noncomputable def P0 (X:Cx) (pins:List (Addr × Obj)) (H:Hp) (b:Addr):Prop :=
  H b=none∧b≠X.env.locals∧b∉X.fs∧(b∈X.ex∨X.s₀.heap.objs.size≤b)∧(∀ x c,X.env.cells.lookup x=some c→c≠b)∧∀ p∈X.pn++pins,p.1≠b
theorem Inv.a85 {X:Cx} {pins:List (Addr × Obj)} {σ:St} {H H':Hp} {s:Shared} {b:Addr} (I:Inv X pins σ H s) (hb:s.heap.objs.size≤b) (hn:H' b=none):P0 X pins H' b:=by
  refine ⟨hn,Nat.ne_of_gt (Nat.lt_of_lt_of_le I.lt hb),I.ad8 hb,.inr (Nat.le_trans I.sz hb),fun x c e z=>?_,fun p hp z=>?_⟩
  · obtain ⟨v,q⟩:=I.cell x c e
    exact absurd (Nat.lt_of_lt_of_le q.lt (by rw [z]; exact hb)) (Nat.lt_irrefl _)
  · exact absurd (Nat.lt_of_lt_of_le (Heap.lt_size (I.pin p hp).1) (by rw [z]; exact hb)) (Nat.lt_irrefl _)
structure Turn (P:Program) (w:World) (K:PySem.W.Frag) (tg:Expr) (J:It) (fp:List Addr) (it:Addr) (tn:Nat→Heap→Prop):Prop where
  mem:it∈fp
  obj:∀ i h,tn i h→∀ b∈fp,∃ o,h.get? b=some o∧∀ v,o.data≠.cell v
  keep:∀ i h h',tn i h→(∀ b∈fp,∀ o,h.get? b=some o→h'.get? b=some o)→tn i h'
  item:∀ (X:Cx),X.prog=P→X.w=w→X.K=K→X.calm=true→∀ (i:Nat) (pins:List (Addr × Obj)) (s:Shared) (σ:St) (H:Hp) (E:Value→Shared→Prop),Inv X pins σ H s→(∀ b∈fp,P0 X pins H b)→tn i s.heap→J.go i H →
    wpAny (model P w) X.A (pyNext (.ref it)) (fun r s1=>∃ u,r=some u ∧
      wpAny (model P w) X.A (letOwnedTupleGo tg (.ref it) u) (fun _ s2=>∃ x H',Inv X pins σ H' s2∧RelV x u∧J.yld i H x H'∧tn (i+1) s2.heap∧∀ b∈fp,H' b=none) E s1) E s
  done:∀ (X:Cx),X.prog=P→X.w=w→X.K=K→X.calm=true→∀ (i:Nat) (pins:List (Addr × Obj)) (s:Shared) (σ:St) (H:Hp) (E:Value→Shared→Prop),Inv X pins σ H s→(∀ b∈fp,P0 X pins H b)→tn i s.heap→J.stop i H →
    wpAny (model P w) X.A (pyNext (.ref it)) (fun r s1=>r=none∧Inv X pins σ H s1) E s
  self:∀ (A:Around) (i:Nat) (s:Shared) (Q:Value→Shared→Prop) (E:Value→Shared→Prop),tn i s.heap→Q (.ref it) s→wpAny (model P w) A (pyIter (.ref it)) Q E s
noncomputable abbrev TI:=St→Hp→(It→Hp→Prop)→Prop
noncomputable def PIE (X:Cx) (pins:List (Addr × Obj)) (σ:St) (tg:Expr) (R:It→Hp→Prop) (itv:Value) (s2:Shared):Prop :=
  ∃ (it:Addr) (fp:List Addr) (tn:Nat→Heap→Prop) (J:It) (H':Hp),itv=.ref it∧Inv X pins σ H' s2∧Turn X.prog X.w X.K tg J fp it tn∧tn 0 s2.heap∧(∀ b∈fp,P0 X pins H' b)∧R J H'
noncomputable def PI (X:Cx) (tg iter:Expr) (wi:TI):Prop :=
  ∀ (pins:List (Addr × Obj)) (s:Shared) (σ:St) (H:Hp) (R:It→Hp→Prop),Inv X pins σ H s→wi σ H R →
    wpAny (model X.prog X.w) X.A (eval iter X.env) (fun v s1=>wpAny (model X.prog X.w) X.A (pyIter v) (PIE X pins σ tg R) X.xe s1) X.xe s
theorem a4g {M:Model} {A:Around} {E:Value→Shared→Prop} {s:Shared} {tg:Expr} {it:Addr} {u:Value} {o:Obj} {n:String} {vs:Array Value} {Q:Unit→Shared→Prop} (ho:s.heap.get? it=some o) (hc:o.cls=.type n) (hd:o.data=.fields vs)
    (hn:["enumerate","zip","dict_itemiterator","dict_reverseitemiterator","odict_iterator","itertools.zip_longest","itertools.pairwise"].contains n=false) (hQ:Q () s):wpAny M A (letOwnedTupleGo tg (.ref it) u) Q E s:=by
  unfold letOwnedTupleGo
  cases tg <;> first
    | exact wpAny_pure hQ
    | (cases u <;> first
        | exact wpAny_pure hQ
        | (refine wpAny_bind (wpAny_load ho ?_)
           rw [hc,hd]
           show wpAny M A (if (["enumerate","zip","dict_itemiterator","dict_reverseitemiterator","odict_iterator","itertools.zip_longest","itertools.pairwise"].contains n&&vs[0]? == some (rawInt _))=true then _ else _) Q E s
           rw [if_neg (by intro h; rw [hn,Bool.false_and] at h; cases h)]
           exact wpAny_pure hQ))
noncomputable def Itl (K:PySem.W.Frag) (a:Addr):It :=
  ⟨fun i H=>∃ xs x,SqL K H a xs∧xs[i]? = some x,fun i H x H'=>H'=H∧∀ xs,SqL K H a xs→xs[i]? = some x,fun i H=>∃ xs,SqL K H a xs∧xs.length≤i⟩
noncomputable def Itt (K:PySem.W.Frag) (a:Addr):It :=
  ⟨fun i H=>∃ xs x,SqT K H a xs∧xs[i]? = some x,fun i H x H'=>H'=H∧∀ xs,SqT K H a xs→xs[i]? = some x,fun i H=>∃ xs,SqT K H a xs∧xs.length≤i⟩
noncomputable def Itr (lo:Int) (n:Nat):It:=⟨fun i _=>i<n,fun i H x H'=>H'=H∧x=.int (lo+i),fun i _=>n≤i⟩
theorem Y8 {P:Program} {w:World} {K:PySem.W.Frag} {tg:Expr} (a it:Addr):Turn P w K tg (Itl K a) [it] it (fun i h=>h.IsListIter it a i) where
  mem:=by simp
  obj:=fun i h st b hb=>by
    have e:b=it:=by simpa using hb
    subst e
    obtain ⟨o,e,c,d⟩:=st
    exact ⟨o,e,fun v z=>by rw [d] at z; cases z⟩
  keep:=fun i h h' st k=>st.at fun o e=>k it (by simp) o e
  item:=by
    intro X hP hw hK hc i pins s σ H E I hf st hg
    subst hP hw hK
    obtain ⟨xs,x,hq,hx⟩:=hg
    obtain ⟨its,rv,p,hz⟩:=I.list hq
    obtain ⟨u,hu,ru⟩:=rv.get hx
    obtain ⟨f0,f1,f2,f3,f4,f5⟩:=hf it (by simp)
    refine wpAny_pyNext_list_item st p.isList (x:=u) (by simpa using hu) fun h' st' sb=>?_
    have I1:Inv X pins σ H { s with heap:=h' }:=I.turned (t':=s.toks) (fun b o hb e=>(sb.2 b hb).trans e) f0 f1 f3 f4 f5
    obtain ⟨o,e,c,d⟩:=id st'
    exact ⟨u,rfl,a4g (s:={ s with heap:=h' }) e c d (by decide) ⟨x,H,I1,ru,⟨rfl,fun ys hy=>by rw [I.Uk hy hq]; exact hx⟩,st',fun b hb=>(hf b hb).1⟩⟩
  done:=by
    intro X hP hw hK hc i pins s σ H E I hf st hg
    subst hP hw hK
    obtain ⟨xs,hq,hx⟩:=hg
    obtain ⟨its,rv,p,hz⟩:=I.list hq
    obtain ⟨f0,f1,f2,f3,f4,f5⟩:=hf it (by simp)
    have hl:=rv.length
    exact wpAny_pyNext_list_end (I.ok.hd hc) st p.isList (by simp; omega) fun h' eb=>⟨rfl,I.turned (t':=s.toks) (fun b o hb e=>eb b o hb e) f0 f1 f3 f4 f5⟩
  self:=fun _ _ _ _ _ st h=>wpAny_pyIter_listiter st h
theorem Vq {P:Program} {w:World} {K:PySem.W.Frag} {tg:Expr} (a it:Addr):Turn P w K tg (Itt K a) [it] it (fun i h=>h.IsTupleIter it a i) where
  mem:=by simp
  obj:=fun i h st b hb=>by
    have e:b=it:=by simpa using hb
    subst e
    obtain ⟨o,e,c,d⟩:=st
    exact ⟨o,e,fun v z=>by rw [d] at z; cases z⟩
  keep:=fun i h h' st k=>st.at fun o e=>k it (by simp) o e
  item:=by
    intro X hP hw hK hc i pins s σ H E I hf st hg
    subst hP hw hK
    obtain ⟨xs,x,hq,hx⟩:=hg
    obtain ⟨its,rv,p,hz⟩:=I.tuple hq
    obtain ⟨u,hu,ru⟩:=rv.get hx
    obtain ⟨f0,f1,f2,f3,f4,f5⟩:=hf it (by simp)
    refine wpAny_pyNext_tuple_item st (show s.heap.IsTuple a its.toArray from p) (x:=u) (by simpa using hu) fun h' st' sb=>?_
    have I1:Inv X pins σ H { s with heap:=h' }:=I.turned (t':=s.toks) (fun b o hb e=>(sb.2 b hb).trans e) f0 f1 f3 f4 f5
    obtain ⟨o,e,c,d⟩:=id st'
    exact ⟨u,rfl,a4g (s:={ s with heap:=h' }) e c d (by decide) ⟨x,H,I1,ru,⟨rfl,fun ys hy=>by rw [I.Ml hy hq]; exact hx⟩,st',fun b hb=>(hf b hb).1⟩⟩
  done:=by
    intro X hP hw hK hc i pins s σ H E I hf st hg
    subst hP hw hK
    obtain ⟨xs,hq,hx⟩:=hg
    obtain ⟨its,rv,p,hz⟩:=I.tuple hq
    obtain ⟨f0,f1,f2,f3,f4,f5⟩:=hf it (by simp)
    have hl:=rv.length
    exact wpAny_pyNext_tuple_end (I.ok.hd hc) st (show s.heap.IsTuple a its.toArray from p) (by simp; omega) fun h' eb=>⟨rfl,I.turned (t':=s.toks) (fun b o hb e=>eb b o hb e) f0 f1 f3 f4 f5⟩
  self:=fun _ _ _ _ _ st h=>wpAny_pyIter_tupleiter st h
theorem Vd {P:Program} {w:World} {K:PySem.W.Frag} {tg:Expr} (it:Addr) (lo:Int) (n:Nat):Turn P w K tg (Itr lo n) [it] it (fun i h=>IsRangeIter h it (lo+(i:Nat) * 1) ((n:Int) - (i:Nat)) 1) where
  mem:=by simp
  obj:=fun i h st b hb=>by
    have e:b=it:=by simpa using hb
    subst e
    exact ⟨_,st,fun v z=>by
      have z':Data.fields _=Data.cell v:=z
      cases z'⟩
  keep:=fun i h h' st k=>k it (by simp) _ st
  item:=by
    intro X hP hw hK hc i pins s σ H E I hf st hg
    subst hP hw hK
    obtain ⟨f0,f1,f2,f3,f4,f5⟩:=hf it (by simp)
    have W:=Walks.range (prog:=X.prog) (w:=X.w) (I.ok.hd hc) it lo 1 n
    refine W.item i s _ _ hg st fun v h' tk hv st' kk=>?_
    obtain ⟨t,rfl⟩:=hv
    have I1:Inv X pins σ H { s with heap:=h',toks:=tk }:=I.turned (fun b o hb e=>kk b o (by simpa using hb) e) f0 f1 f3 f4 f5
    refine ⟨_,rfl,a4g (s:={ s with heap:=h',toks:=tk }) (n := "range_iterator") st' rfl rfl (by decide) ⟨.int (lo+i),H,I1,⟨t,?_⟩,⟨rfl,rfl⟩,st',fun b hb=>(hf b hb).1⟩⟩
    rw [Int.mul_one]
  done:=by
    intro X hP hw hK hc i pins s σ H E I hf st hg
    subst hP hw hK
    obtain ⟨f0,f1,f2,f3,f4,f5⟩:=hf it (by simp)
    exact wpAny_pyNext_range_end (I.ok.hd hc) st (by have:n≤i:=hg; omega) fun h' eb=>⟨rfl,I.turned (t':=s.toks) (fun b o hb e=>eb b o hb e) f0 f1 f3 f4 f5⟩
  self:=fun _ _ _ _ _ st h=>wpAny_pyIter_rangeiter st h
end L2
namespace L2
open PySem PySem.Spec PyProof.Rows
noncomputable section
variable {X:Cx} {tg:Expr}
theorem a06 {pins:List (Addr × Obj)} {σ:St} {H:Hp} {s:Shared} {R:It→Hp→Prop} {E:Value→Shared→Prop} {lo hi:Int} {t u v:Tok} {tk:Nat} (I:Inv X pins σ H s) (h1:-(2 ^ 62)≤lo) (h2:lo<2 ^ 62) (h3:-(2 ^ 62)≤hi) (h4:hi<2 ^ 62)
    (q:R (Itr lo (hi - lo).toNat) H):wpAny (model X.prog X.w) X.A (pyIter (.ref s.heap.objs.size)) (PIE X pins σ tg R) E { s with heap:=s.heap.push { cls:=.type "range",data:=.fields #[.int lo t,.int hi u,.int 1 v] },toks:=tk }:=by
  refine wpAny_pyIter_range (IsRange.new ..) (small_one h1 h2 h3 h4) ?_
  have I1:Inv X pins σ H { s with heap:=s.heap.push { cls:=.type "range",data:=.fields #[.int lo t,.int hi u,.int 1 v] },toks:=tk }:=I.kept fun b o e=>Heap.get?_push_of_some _ e
  refine ⟨(s.heap.push { cls:=.type "range",data:=.fields #[.int lo t,.int hi u,.int 1 v] }).objs.size,[(s.heap.push { cls:=.type "range",data:=.fields #[.int lo t,.int hi u,.int 1 v] }).objs.size],_,_,H,rfl,
    I1.kept (t':=tk) fun b o e=>Heap.get?_push_of_some _ e,Vd _ lo (hi - lo).toNat,?_,fun b hb=>?_,q⟩
  · have e1:lo+((0:Nat):Int) * 1=lo:=by simp
    have e2:(((hi - lo).toNat:Nat):Int) - ((0:Nat):Int)=Builtin.Range.rangeSize lo hi 1:=by rw [rangeSize_one]; split <;> omega
    show IsRangeIter _ _ (lo+((0:Nat):Int) * 1) ((((hi - lo).toNat:Nat):Int) - ((0:Nat):Int)) 1
    rw [e1,e2]
    exact Heap.get?_push_size _ rfl
  · have e:b=(s.heap.push { cls:=.type "range",data:=.fields #[.int lo t,.int hi u,.int 1 v] }).objs.size:=by simpa using hb
    subst e
    exact I1.a85 (Nat.le_refl _) (I1.hok.fresh (Nat.le_refl _))
noncomputable def aa1 (ta:TA):TI:=fun σ H R=>ta σ H fun vs H1=>∃ j:Int,vs=[.int j]∧-(2 ^ 62)≤j∧j<2 ^ 62∧R (Itr 0 j.toNat) H1
theorem Zm {a:Expr} {ta:TA} {p pos:Pos} (hg:Gl X "range") (hm:X.mg "range" = none) (ha:PA X [a] ta) (hs:starEach [a] X.env=[(false,eval a X.env)]:=by rfl):PI X tg (.Call (.Name "range" p) [a] [] pos) (aa1 ta):=by
  intro pins s σ H R I h
  refine Call_ (Jc I hg hm boot_range (PyProof.Rows.callWith_type1 (thn (ha pos pins s σ H _ I h) fun us s1 z0=>?_) hs rfl))
  obtain ⟨vs,H1,I1,r1,q1⟩:=z0
  obtain ⟨j,e,q1,q2,q⟩:=q1
  subst e
  cases r1 with
  | cons r rr =>
    cases rr
    obtain ⟨t,rfl⟩:=r
    exact call_range_1 (a06 I1 (by omega) (by omega) q1 q2 (by simpa using q))
noncomputable def ad3 (wi:TI) (g:TG) (tb:TS):TS:=fun D σ H=>wi σ H fun J H1=>∃ W:Nat→Nat→St→Hp→Prop,(∃ m,W 0 m σ H1)∧∀ i m σ H,W i m σ H →
  (J.stop i H∧D.nx σ H)∨(J.go i H∧∃ N:St→Hp→Prop,(∀ σ' H',N σ' H'→∃ m',m'<m∧W (i+1) m' σ' H')∧∀ x H',J.yld i H x H'→g x σ H' fun σ2 H2=>tb { D with nx:=N,ct:=N,bk:=D.nx } σ2 H2)
noncomputable def Ol (fp:List Addr) (h:Heap):List (Addr × Obj):=fp.filterMap fun b=>(h.get? b).map fun o=>(b,o)
theorem Ca {fp:List Addr} {h:Heap} {b:Addr} {o:Obj} (hb:b∈fp) (e:h.get? b=some o):(b,o)∈Ol fp h:=List.mem_filterMap.mpr ⟨b,hb,by rw [e]; rfl⟩
theorem Xr {fp:List Addr} {h:Heap} {p:Addr × Obj} (hp:p∈Ol fp h):p.1∈fp∧h.get? p.1=some p.2:=by
  obtain ⟨b,hb,e⟩:=List.mem_filterMap.mp hp
  cases q:h.get? b with
  | none=>rw [q] at e; cases e
  | some o =>
    rw [q] at e
    have e':(b,o)=p:=Option.some.inj e
    subst e'
    exact ⟨hb,q⟩
theorem Inv.pinned {pins:List (Addr × Obj)} {σ:St} {H:Hp} {s:Shared} {fp:List Addr} (I:Inv X pins σ H s) (hf:∀ b∈fp,P0 X pins H b) (ho:∀ b∈fp,∃ o,s.heap.get? b=some o∧∀ v,o.data≠.cell v):Inv X (pins++Ol fp s.heap) σ H s :=
  I.Xm fun p hp=>(List.mem_append.mp hp).elim (fun z=>I.pin p (List.mem_append_right _ z)) fun z=>by
    obtain ⟨hb,e⟩:=Xr z
    obtain ⟨f0,f1,f2,_⟩:=hf p.1 hb
    obtain ⟨o,e',d⟩:=ho p.1 hb
    rw [e] at e'; cases e'
    exact ⟨e,f0,f1,f2,d⟩
theorem Inv.Fw {pins pl:List (Addr × Obj)} {σ:St} {H:Hp} {s:Shared} (I:Inv X (pins++pl) σ H s):Inv X pins σ H s:=I.Xm fun p hp=>I.pin p (List.mem_append_right _ (List.mem_append_left _ hp))
theorem a8g {iter:Expr} {body:List Stmt} {wi:TI} {g:TG} {tb:TS} {pos:Pos} (hp:PassesOwn (model X.prog X.w) X.A X.env X.xe) (hc:X.calm=true) (hi:PI X tg iter wi) (hg:PG X tg g) (hb:PSs X body tb)
    (hs:∀ x,foldedSetIterable iter X.env x=pure x:=by intro _; rfl):PS X (.For tg iter body [] pos) (ad3 wi g tb):=by
  intro pins s σ H D I h
  refine wpAny_For (thn (hi pins s σ H _ I h) fun v s1 h1=>thn h1 fun itv s2 h2=>?_) hs
  obtain ⟨it,fp,tn,J,H2,e,I2,T,st2,f2,W,⟨m0,w0⟩,turn⟩:=h2
  subst e
  have stat:∀ {H':Hp},(∀ b∈fp,H' b=none)→∀ b∈fp,P0 X pins H' b:=fun hn b hb=>⟨hn b hb,(f2 b hb).2⟩
  refine codeAny_forLoop_any (fun n s'=>∃ i σ' H',Inv X pins σ' H' s'∧tn i s'.heap∧(∀ b∈fp,H' b=none)∧W i n σ' H') ?_ m0 ⟨0,σ,H2,I2,st2,fun b hb=>(f2 b hb).1,w0⟩
  rintro n s3 ⟨i,σ3,H3,I3,st3,fr3,w3⟩
  rcases turn i n σ3 H3 w3 with ⟨stop,qn⟩ | ⟨go,N,hN,step⟩
  · refine wpAny_passesOwn hp (thn (T.done X rfl rfl rfl hc i pins s3 σ3 H3 X.xe I3 (stat fr3) st3 stop) fun r s4 z0=>?_)
    obtain ⟨hr,I4⟩:=z0
    subst hr
    exact wpAny_execs_nil ⟨σ3,H3,I4,qn⟩
  · refine wpAny_passesOwn hp (thn (T.item X rfl rfl rfl hc i pins s3 σ3 H3 X.xe I3 (stat fr3) st3 go) fun r s4 z0=>?_)
    obtain ⟨u,hr,h4⟩:=z0
    subst hr
    refine wpAny_passesOwn hp (thn h4 fun _ s5 z0=>?_)
    obtain ⟨x,H5,I5,r5,y5,st5,fr5⟩:=z0
    have I5':=I5.pinned (stat fr5) (T.obj _ _ st5)
    refine wpAny_passesOwn hp (thn (hg _ s5 σ3 H5 x u _ I5' r5 (step x H5 y5)) fun _ s6 z0=>?_)
    obtain ⟨σ6,H6,I6,q6⟩:=z0
    refine wpAny_passesOwn hp (thn (hb _ s6 σ6 H6 _ I6 q6) fun f s7 q7=>?_)
    have again:∀ {σ7:St} {H7:Hp},Inv X (pins++Ol fp s5.heap) σ7 H7 s7→N σ7 H7→∃ m,m<n∧∃ i σ' H',Inv X pins σ' H' s7∧tn i s7.heap∧(∀ b∈fp,H' b=none)∧W i m σ' H':=fun {σ7 H7} I7 n7=>by
      obtain ⟨m',hm,w7⟩:=hN σ7 H7 n7
      refine ⟨m',hm,i+1,σ7,H7,I7.Fw,T.keep _ _ _ st5 fun b hb o e=>(I7.pin (b,o) (List.mem_append_right _ (List.mem_append_right _ (Ca hb e)))).1,fun b hb=>?_,w7⟩
      obtain ⟨o,e,d⟩:=T.obj _ _ st5 b hb
      exact (I7.pin (b,o) (List.mem_append_right _ (List.mem_append_right _ (Ca hb e)))).2.1
    cases f with
    | next=>obtain ⟨σ7,H7,I7,n7⟩:=q7; exact again I7 n7
    | cont=>obtain ⟨σ7,H7,I7,n7⟩:=q7; exact again I7 n7
    | brk=>obtain ⟨σ7,H7,I7,q7⟩:=q7; exact ⟨σ7,H7,I7.Fw,q7⟩
    | ret v=>obtain ⟨x7,σ7,H7,I7,r7,q7⟩:=q7; exact ⟨x7,σ7,H7,I7.Fw,r7,q7⟩
end
end L2
namespace L2
open PySem PySem.Spec PyProof.Rows
noncomputable abbrev R2:=V→V→Hp→VK→Prop
noncomputable def OpR (X:Cx) (f:Value→Value→Sem Value) (r:R2):Prop :=
  ∀ (pins:List (Addr × Obj)) (s:Shared) (σ:St) (H:Hp) (x y:V) (v u:Value) (Q:VK),Inv X pins σ H s→RelV x v→RelV y u→r x y H Q →
    wpAny (model X.prog X.w) X.A (f v u) (EP X pins σ Q) X.xe s
noncomputable def UnR (X:Cx) (f:Value→Sem Value) (r:V→Hp→VK→Prop):Prop :=
  ∀ (pins:List (Addr × Obj)) (s:Shared) (σ:St) (H:Hp) (x:V) (v:Value) (Q:VK),Inv X pins σ H s→RelV x v→r x H Q →
    wpAny (model X.prog X.w) X.A (f v) (EP X pins σ Q) X.xe s
noncomputable def Eb (X:Cx) (f:Value) (r:List V→Hp→VK→Prop):Prop :=
  ∀ (pins:List (Addr × Obj)) (s:Shared) (σ:St) (H:Hp) (xs:List V) (us:List Value) (Q:VK),Inv X pins σ H s→Vals xs us→r xs H Q →
    wpAny (model X.prog X.w) X.A (call f us) (EP X pins σ Q) X.xe s
noncomputable def tOp (r:R2) (ta tb:TE):TE:=fun σ H Q=>ta σ H fun x H1=>tb σ H1 fun y H2=>r x y H2 Q
noncomputable def tUn (r:V→Hp→VK→Prop) (ta:TE):TE:=fun σ H Q=>ta σ H fun x H1=>r x H1 Q
noncomputable def rI (C:Int→Int→Prop) (g:Int→Int→V):R2:=fun x y H Q=>∃ i j,x=.int i∧y=.int j∧C i j∧Q (g i j) H
noncomputable def rI0 (g:Int→Int→V):R2:=fun x y H Q=>∃ i j,x=.int i∧y=.int j∧Q (g i j) H
noncomputable def rU (g:Int→V):V→Hp→VK→Prop:=fun x H Q=>∃ i,x=.int i∧Q (g i) H
noncomputable section
variable {X:Cx} {a b c:Expr} {ta tb tc:TE} {pos:Pos}
theorem abb (ha:PE X a ta) (hb:PE X b tb) {pins:List (Addr × Obj)} {s:Shared} {σ:St} {H:Hp} {R:V→V→Hp→Prop} (I:Inv X pins σ H s)
    (h:ta σ H fun x H1=>tb σ H1 fun y H2=>R x y H2) {Q:Value→Shared→Prop} {f:Value→Value→Sem Value}
    (hf:∀ v u s2 x y H2,Inv X pins σ H2 s2→RelV x v→RelV y u→R x y H2→wpAny (model X.prog X.w) X.A (f v u) Q X.xe s2) :
    wpAny (model X.prog X.w) X.A (eval a X.env) (fun v s₁=>wpAny (model X.prog X.w) X.A (eval b X.env) (fun u s₂=>wpAny (model X.prog X.w) X.A (f v u) Q X.xe s₂) X.xe s₁) X.xe s:=by
  refine thn (ha pins s σ H _ I h) fun v s1 z0=>?_
  obtain ⟨x,H1,I1,r1,q1⟩:=z0
  refine thn (hb pins s1 σ H1 _ I1 q1) fun u s2 z0=>?_
  obtain ⟨y,H2,I2,r2,q2⟩:=z0
  exact hf v u s2 x y H2 I2 r1 r2 q2
theorem a9t {op:Operator} {r:R2} (ho:OpR X (binaryOp op) r) (ha:PE X a ta) (hb:PE X b tb):PE X (.BinOp a op b pos) (tOp r ta tb):=by
  intro pins s σ H Q I h
  exact wpAny_BinOp (abb ha hb I h fun v u s2 x y H2 I2 rx ry q=>ho pins s2 σ H2 x y v u Q I2 rx ry q)
theorem a8y {op:UnaryOp} {r:V→Hp→VK→Prop} (ho:UnR X (unaryOp op) r) (ha:PE X a ta):PE X (.UnaryOp op a pos) (tUn r ta):=by
  intro pins s σ H Q I h
  exact UnaryOp_ (thn (ha pins s σ H _ I h) fun v s1 z7=>by obtain ⟨x,H1,I1,r1,q1⟩:=z7; exact ho pins s1 σ H1 x v Q I1 r1 q1)
theorem opI {f:Value→Value→Sem Value} {C:Int→Int→Prop} {g:Int→Int→Int}
    (rule:∀ (i j:Int) (t u:Tok) (s:Shared) (Q:Value→Shared→Prop) (E:Value→Shared→Prop),C i j→Q (.int (g i j) s.toks) { s with toks:=s.toks+1 }→wpAny (model X.prog X.w) X.A (f (.int i t) (.int j u)) Q E s) :
    OpR X f (rI C fun i j=>.int (g i j)):=by
  intro pins s σ H x y v u Q I rx ry h
  obtain ⟨i,j,rfl,rfl,hc,q⟩:=h
  obtain ⟨t,rfl⟩:=rx
  obtain ⟨t',rfl⟩:=ry
  exact rule i j t t' s _ _ hc ⟨.int (g i j),H,I.tok _,⟨_,rfl⟩,q⟩
theorem abz {f:Value→Value→Sem Value} {g:Int→Int→Int}
    (rule:∀ (i j:Int) (t u:Tok) (s:Shared) (Q:Value→Shared→Prop) (E:Value→Shared→Prop),Q (.int (g i j) s.toks) { s with toks:=s.toks+1 }→wpAny (model X.prog X.w) X.A (f (.int i t) (.int j u)) Q E s) :
    OpR X f (rI0 fun i j=>.int (g i j)):=by
  intro pins s σ H x y v u Q I rx ry h
  obtain ⟨i,j,rfl,rfl,q⟩:=h
  obtain ⟨t,rfl⟩:=rx
  obtain ⟨t',rfl⟩:=ry
  exact rule i j t t' s _ _ ⟨.int (g i j),H,I.tok _,⟨_,rfl⟩,q⟩
theorem abo {f:Value→Value→Sem Value} {g:Int→Int→Bool}
    (rule:∀ (i j:Int) (t u:Tok) (s:Shared) (Q:Value→Shared→Prop) (E:Value→Shared→Prop),Q (.bool (g i j)) s→wpAny (model X.prog X.w) X.A (f (.int i t) (.int j u)) Q E s) :
    OpR X f (rI0 fun i j=>.bl (g i j)):=by
  intro pins s σ H x y v u Q I rx ry h
  obtain ⟨i,j,rfl,rfl,q⟩:=h
  obtain ⟨t,rfl⟩:=rx
  obtain ⟨t',rfl⟩:=ry
  exact rule i j t t' s _ _ ⟨.bl (g i j),H,I,rfl,q⟩
noncomputable def acn (i j:Int):Prop:=0≤j∧j≤1000000∧i.natAbs<2 ^ 64
noncomputable def ab0 (i j:Int):Prop:=(-(2 ^ 64)<i∧i<2 ^ 64)∨(-(2 ^ 64)<j∧j<2 ^ 64)
theorem ab0.ok {i j:Int} (h:ab0 i j):IntMulOk i j:=by
  rcases h with ⟨h1,h2⟩ | ⟨h1,h2⟩
  · exact .of_left (intBits_le_64 h1 h2)
  · exact .of_right (intBits_le_64 h1 h2)
theorem a8f:OpR X (binaryOp .Add) (rI0 fun i j=>.int (i+j)):=abz fun _ _ _ _ _ _ _ q=>add_int q
theorem a7f:OpR X (binaryOp .Sub) (rI0 fun i j=>.int (i - j)):=abz fun _ _ _ _ _ _ _ q=>sub_int q
theorem a7d:OpR X (binaryOp .Mult) (rI ab0 fun i j=>.int (i * j)):=opI fun _ _ _ _ _ _ _ hc q=>mul_int q hc.ok
theorem a7l:OpR X (binaryOp .Mod) (rI (fun _ j=>0<j) fun i j=>.int (i%j)):=opI fun i j _ _ _ _ _ hc q=>by
  have h1:(0:Int)<j:=hc
  exact mod_int' (by omega) (by rw [Int.fmod_eq_emod_of_nonneg i (by omega)]; exact q)
theorem a8z:OpR X (binaryOp .Pow) (rI acn fun i j=>.int (i ^ j.toNat)):=opI fun _ _ _ _ _ _ _ hc q=>pow_int_small hc.1 hc.2.1 hc.2.2 q
theorem unI {f:Value→Sem Value} {g:Int→Int}
    (rule:∀ (i:Int) (t:Tok) (s:Shared) (Q:Value→Shared→Prop) (E:Value→Shared→Prop),Q (.int (g i) s.toks) { s with toks:=s.toks+1 }→wpAny (model X.prog X.w) X.A (f (.int i t)) Q E s) :
    UnR X f (rU fun i=>.int (g i)):=by
  intro pins s σ H x v Q I rx h
  obtain ⟨i,rfl,q⟩:=h
  obtain ⟨t,rfl⟩:=rx
  exact rule i t s _ _ ⟨.int (g i),H,I.tok _,⟨_,rfl⟩,q⟩
theorem a3c:UnR X (unaryOp .USub) (rU fun i=>.int (-i)):=unI fun _ _ _ _ _ q=>neg_int q
end
noncomputable section
variable {X:Cx} {a b c:Expr} {ta tb tc:TE} {pos:Pos}
theorem a3a {pins:List (Addr × Obj)} {σ:St} {H:Hp} {s:Shared} {Q:VK} {k k':Bool} (I:Inv X pins σ H s) (q:Q (.bl k) H) (e:k=k'):EP X pins σ Q (.bool k') s:=by
  subst e
  exact ⟨.bl k,H,I,rfl,q⟩
theorem ab8:OpR X (compareOp .Lt) (rI0 fun i j=>.bl (decide (i<j))):=abo fun _ _ _ _ _ _ _ q=>lt_int q
theorem a9u:OpR X (compareOp .LtE) (rI0 fun i j=>.bl (decide (i≤j))):=abo fun _ _ _ _ _ _ _ q=>le_int q
theorem aaf:OpR X (compareOp .Gt) (rI0 fun i j=>.bl (decide (j<i))):=abo fun _ _ _ _ _ _ _ q=>gt_int q
theorem a79:OpR X (compareOp .Is) (fun x y H Q=>y=.non∧Q (.bl (decide (x=.non))) H):=by
  intro pins s σ H x y v u Q I rx ry h
  obtain ⟨rfl,q⟩:=h
  cases ry
  refine is_none_gen (a3a I q ?_)
  cases x <;> first
    | (cases rx; rfl)
    | (obtain ⟨t,rfl⟩:=rx; rfl)
theorem a5a:OpR X (compareOp .IsNot) (fun x y H Q=>y=.non∧Q (.bl (!decide (x=.non))) H):=by
  intro pins s σ H x y v u Q I rx ry h
  obtain ⟨rfl,q⟩:=h
  cases ry
  refine isnot_none_gen (a3a I q ?_)
  cases x <;> first
    | (cases rx; rfl)
    | (obtain ⟨t,rfl⟩:=rx; rfl)
theorem OpR.or {f:Value→Value→Sem Value} {r r':R2} (h:OpR X f r) (h':OpR X f r'):OpR X f (fun x y H Q=>r x y H Q∨r' x y H Q):=by
  intro pins s σ H x y v u Q I rx ry q
  rcases q with q | q
  · exact h pins s σ H x y v u Q I rx ry q
  · exact h' pins s σ H x y v u Q I rx ry q
theorem qb (b:Expr) {op:CmpOp} (h:op≠.In:=by decide) (h2:op≠.NotIn:=by decide):behindInMarks op b=false:=by
  have e1:(op==CmpOp.In)=false:=by cases op <;> first | rfl | exact absurd rfl h
  have e2:(op==CmpOp.NotIn)=false:=by cases op <;> first | rfl | exact absurd rfl h2
  cases b <;> simp [behindInMarks,e1,e2]
theorem a6m {op:CmpOp} {r:R2} (ho:OpR X (compareOp op) r) (ha:PE X a ta) (hb:PE X b tb) (hm:behindInMarks op b=false):PE X (.Compare a [op] [b] pos) (tOp r ta tb):=by
  intro pins s σ H Q I h
  exact wpAny_Compare1 (abb ha hb I h fun v u s2 x y H2 I2 rx ry q=>ho pins s2 σ H2 x y v u Q I2 rx ry q) hm
noncomputable def a8c (t:TE):TT:=fun σ H Q=>t σ H fun x H'=>∃ k,x=.bl k∧Q k H'
theorem a4y {op:CmpOp} {r:R2} (ho:OpR X (compareOp op) r) (ha:PE X a ta) (hb:PE X b tb) (hm:behindInMarks op b=false):PT X (.Compare a [op] [b] pos) (a8c (tOp r ta tb)):=by
  intro pins s σ H Q I h
  refine wpAny_isTrue_Compare1 (thn (ha pins s σ H _ I h) fun v s1 ⟨x,H1,I1,r1,q1⟩=>thn (hb pins s1 σ H1 _ I1 q1) fun u s2 ⟨y,H2,I2,r2,q2⟩ =>
    thn (ho pins s2 σ H2 x y v u _ I2 r1 r2 q2) fun c s3 ⟨z,H3,I3,r3,k,e,q3⟩=>?_) hm
  subst e
  cases r3
  exact wpAny_truthy_bool ⟨H3,I3,q3⟩
theorem Nk:(sizeLine:Nat)<2 ^ 63:=by rw [sizeLine_eq]; decide
theorem V1:OpR X (binaryOp .Add) (fun x y H Q=>∃ i j,x=.str i∧y=.str j∧i.length+j.length≤sizeLine∧Q (.str (i++j)) H):=by
  intro pins s σ H x y v u Q I rx ry h
  obtain ⟨i,j,rfl,rfl,hz,q⟩:=h
  obtain ⟨t,rfl⟩:=rx
  obtain ⟨t',rfl⟩:=ry
  exact add_str (fun t' tk=>⟨.str (i++j),H,I.tok _,⟨_,rfl⟩,q⟩) hz
theorem vals1 {x:V} {us:List Value} (r:Vals [x] us):∃ u,us=[u]∧RelV x u:=by
  cases r with
  | cons r1 r2=>cases r2; exact ⟨_,rfl,r1⟩
theorem a0r:Eb X (.builtin "abs") (fun xs H Q=>∃ i,xs=[.int i]∧Q (.int (if i<0 then -i else i)) H):=by
  intro pins s σ H xs us Q I r h
  obtain ⟨i,rfl,q⟩:=h
  obtain ⟨u,rfl,t,rfl⟩:=vals1 r
  exact call_abs_int fun u tk=>⟨.int (if i<0 then -i else i),H,I.tok _,⟨_,rfl⟩,q⟩
theorem Nx:Eb X (.type "int") (fun xs H Q=>(∃ i,xs=[.int i]∧Q (.int i) H)∨∃ k,xs=[.bl k]∧Q (.int (if k then 1 else 0)) H):=by
  intro pins s σ H xs us Q I r h
  rcases h with ⟨i,rfl,q⟩ | ⟨k,rfl,q⟩
  · obtain ⟨u,rfl,t,rfl⟩:=vals1 r
    exact call_int_int ⟨.int i,H,I,⟨_,rfl⟩,q⟩
  · obtain ⟨u,rfl,r1⟩:=vals1 r
    cases r1
    exact call_int_bool ⟨.int (if k then 1 else 0),H,I.tok _,⟨_,rfl⟩,q⟩
end
end L2
namespace L2
open PySem PySem.Spec PyProof.Rows
structure abl (h:Heap) (x dx C:Addr) (mA:Str→Option Value):Prop where
  obj:h.get? x=some (PySem.W.instObj C dx)
  ns:h.Ns1 dx mA
  ne:dx≠x
theorem Yu {h:Heap} {dx:Addr} {mA:Str→Option Value} (n:h.Ns1 dx mA):∃ od,h.get? dx=some od∧∀ name,PySem.W.lookIn name od=some (mA name):=by
  obtain ⟨o,es,ep,ho,hd,hk,_,hm⟩:=n
  refine ⟨o,ho,fun name=>?_⟩
  have e:=hm name
  unfold nsFind findBy at e
  rw [← Array.find?_toList] at e
  unfold PySem.W.lookIn
  rw [hd]
  dsimp only
  split
  · rename_i y q
    rw [q] at e
    exact congrArg some e
  · rename_i q
    rw [q] at e
    have a:es.toList.any (·.refKey)=false:=by
      rw [List.any_eq_false]
      intro y hy
      obtain ⟨z,t,hkey⟩:=hk y (Array.mem_toList_iff.mp hy)
      simp [DictEntry.refKey,hkey]
    have a':¬ es.toList.any (·.refKey)=true:=by rw [a]; exact Bool.false_ne_true
    rw [if_neg a']
    exact congrArg some e
theorem abl.look {h:Heap} {x dx C:Addr} {mA:Str→Option Value} (I:abl h x dx C mA):∃ od,PySem.W.InstAt h x (PySem.W.instObj C dx) C (some od)∧∀ name,PySem.W.lookIn name od=some (mA name) :=
  let ⟨od,ho,hl⟩:=Yu I.ns
  ⟨od,⟨I.obj,rfl,rfl,ho⟩,hl⟩
noncomputable section
variable {prog:Program} {w:World} {A:Around} {E:Value→Shared→Prop} {s:Shared} {K:PySem.W.Frag} {x dx C f:Addr} {mA:Str→Option Value} {name:Str} {v:Value}
end
theorem Ph.some_of {v:V} {o:Option Value} (r:Ph (some v) o):∃ u,o=some u∧RelV v u:=by
  cases o with
  | none=>exact (show False from r).elim
  | some u=>exact ⟨u,rfl,r⟩
theorem Ph.none_of {o:Option Value} (r:Ph none o):o=none:=by
  cases o with
  | none=>rfl
  | some u=>exact (show False from r).elim
noncomputable section
variable {P:Program} {w:World} {H H':Hp} {h h':Heap} {a C dx:Addr} {fs fs':List (Str × V)}
theorem a5w (hok:HOk P w H h) (e:H a=some (.ins C dx fs)):∃ mA,abl h a dx C mA∧(∀ f,Ph (fs.lookup f) (mA f))∧PySem.Within mA (fs.map (·.1))∧fs.length≤1000∧H dx=some (.own a):=by
  obtain ⟨d,z,ne,ob,mA,n,r,q⟩:=(show yw P w H h a (.ins C dx fs) from hok a _ e)
  exact ⟨mA,⟨ob,n,ne⟩,r,q,z,d⟩
end
structure Cls (K:PySem.W.Frag) (C:Addr):Prop where
  pg:PySem.W.plainGet K C Str.empty=true
  hd:PySem.W.hasDictIn K C=true
  po:PySem.W.plainOver K C=true
  sa:PySem.W.findIn K (.ref C) "__setattr__" = some (some (.builtin "object.__setattr__"))
theorem Cls.get {K:PySem.W.Frag} {C:Addr} (c:Cls K C) (f:Str):PySem.W.plainGet K C f=true:=c.pg
structure Con (K:PySem.W.Frag) (C:Addr) (f:Str) (v:V) (u:Value):Prop where
  at_:PySem.W.findIn K (.ref C) f=some (some u)
  rel:RelV v u
  get:PySem.W.specialIn K u "__get__" = some none
  cp:PySem.W.copiedNames.contains f=false
structure Meth (K:PySem.W.Frag) (C:Addr) (m:Str) (f:Addr):Prop where
  at_:PySem.W.findIn K (.ref C) m=some (some (.ref f))
  fn:PySem.W.isFn K (.ref f)=true
  kp:PySem.W.keepIn K (.ref f)=true
noncomputable section
variable {X:Cx} {pins:List (Addr × Obj)} {σ:St} {H:Hp} {s:Shared} {a C dx:Addr} {fs:List (Str × V)} {f:Str} {v:V} {A:Around} {E:Value→Shared→Prop}
end
noncomputable section
variable {X:Cx} {o e value:Expr} {f:Str} {pos pos' tpos:Pos} {ta tv:TE}
end
noncomputable section
variable {X:Cx} {pins:List (Addr × Obj)} {σ:St} {H:Hp} {s:Shared} {A:Around} {E:Value→Shared→Prop} {Q:Value→Shared→Prop} {c:Value} {b:Bool}
inductive W5 (K:PySem.W.Frag) (H:Hp):V→Value→Prop where
  | non:W5 K H .non (.type "NoneType")
  | bl (x:Bool):W5 K H (.bl x) (.type "bool")
  | int (i:Int):W5 K H (.int i) (.type "int")
  | str (x:Str):W5 K H (.str x) (.type "str")
  | flt (x:UInt64):W5 K H (.flt x) (.type "float")
  | lst {a:Addr} {xs:List V} (e:H a=some (.lst xs)):W5 K H (.ref a) (.type "list")
  | frz {a:Addr} {o:Obj} {xs:List V} (e:H a=some (.frz o (.lst xs))):W5 K H (.ref a) (.type "list")
  | tup {a:Addr} {xs:List V} (e:H a=some (.tup xs)):W5 K H (.ref a) (.type "tuple")
  | dK {a:Addr} {kvs:List (Key × V)} (e:H a=some (.dK kvs)):W5 K H (.ref a) (.type "dict")
  | dT {a:Addr} {kvs:List (List Key × V)} (e:H a=some (.dT kvs)):W5 K H (.ref a) (.type "dict")
  | ins {a C dx:Addr} {fs:List (Str × V)} (e:H a=some (.ins C dx fs)) (cl:Cls K C) (ha:PySem.W.findIn K (.ref C) "__class__" = some (some (.builtin "object.__class__")))
      (hn:PySem.W.specialIn K (.builtin "object.__class__") "__get__" = some (some (.builtin "getset_descriptor.__get__"))) (htk:PySem.W.takesIn K (.builtin "object.__class__")=some true)
      (hm:PySem.W.mroIn K C (.type "object")=some true):W5 K H (.ref a) (.ref C)
theorem Fp {x:V} {u t:Value} (I:Inv X pins σ H s) (rx:RelV x u) (ty:W5 X.K H x t) (e:PySem.W.kitOne X.K t c=some b) (h:∀ tk,Q (.bool b) { s with toks:=tk }) :
    wpAny (model X.prog X.w) A (call (.builtin "isinstance") [u,c]) Q E s:=by
  cases ty with
  | non=>cases (show u=Value.none from rx); exact PySem.W.kia_one PySem.W.kitx_none I.kIn True.intro e (fun z=>nomatch z) h
  | bl y=>cases (show u=Value.bool y from rx); exact PySem.W.kia_one PySem.W.kitx_bool I.kIn True.intro e (fun z=>nomatch z) h
  | int i=>obtain ⟨t,q⟩:=(show ∃ t,u=Value.int i t from rx); cases q; exact PySem.W.kia_one PySem.W.kitx_int I.kIn True.intro e (fun z=>nomatch z) h
  | str y=>obtain ⟨t,q⟩:=(show ∃ t,u=Value.str y t from rx); cases q; exact PySem.W.kia_one PySem.W.kitx_str I.kIn True.intro e (fun z=>nomatch z) h
  | flt y=>obtain ⟨t,q⟩:=(show ∃ t,u=Value.float y t from rx); cases q; exact PySem.W.kia_one PySem.W.kitx_float I.kIn True.intro e (fun z=>nomatch z) h
  | @lst a xs ea =>
    cases (show u=Value.ref a from rx)
    obtain ⟨_,_,n,_,h1⟩:=(show yw X.prog X.w H s.heap a (.lst xs) from I.hok a _ ea)
    exact PySem.W.kia_one PySem.W.kitx_list I.kIn ⟨_,h1,rfl⟩ e (fun z=>nomatch z) h
  | @frz a ob xs ea =>
    cases (show u=Value.ref a from rx)
    obtain ⟨_,_,_,n,_,h1⟩:=(show yw X.prog X.w H s.heap a (.frz ob (.lst xs)) from I.hok a _ ea)
    exact PySem.W.kia_one PySem.W.kitx_list I.kIn ⟨_,h1,rfl⟩ e (fun z=>nomatch z) h
  | @tup a xs ea =>
    cases (show u=Value.ref a from rx)
    obtain ⟨_,_,_,p⟩:=(show yw X.prog X.w H s.heap a (.tup xs) from I.hok a _ ea)
    obtain ⟨o,h1,h2,_⟩:=p
    exact PySem.W.kia_one PySem.W.kitx_tuple I.kIn ⟨o,h1,h2⟩ e (fun z=>nomatch z) h
  | @dK a kvs ea =>
    cases (show u=Value.ref a from rx)
    obtain ⟨_,_,vs,_,p⟩:=(show yw X.prog X.w H s.heap a (.dK kvs) from I.hok a _ ea)
    obtain ⟨o,es,ep,h1,h2,_⟩:=p
    exact PySem.W.kia_one PySem.W.kitx_dict I.kIn ⟨o,h1,h2.1⟩ e (fun z=>nomatch z) h
  | @dT a kvs ea =>
    cases (show u=Value.ref a from rx)
    obtain ⟨_,_,xs,_,o,es,ep,h1,h2,_⟩:=(show yw X.prog X.w H s.heap a (.dT kvs) from I.hok a _ ea)
    exact PySem.W.kia_one PySem.W.kitx_dict I.kIn ⟨o,h1,h2.1⟩ e (fun z=>nomatch z) h
  | @ins a C dx fs ea cl ha hn htk hm =>
    cases (show u=Value.ref a from rx)
    obtain ⟨mA,O,_⟩:=a5w I.hok ea
    obtain ⟨od,J,_⟩:=O.look
    exact PySem.W.kia_one (PySem.W.kitx_own (cl.get _) cl.hd ha hn htk hm) I.kIn J e (fun z=>nomatch z) h
end
end L2
namespace L2
open PySem PySem.Spec PyProof.Rows
structure Jv (k:Nat) (A:Around):Prop where
  hd:A.handled=none
  dp:A.depth+3 * k+5<recursionLimit
  un:A.units+16 * k+200<cLine
theorem Jv.mono {j k:Nat} {A:Around} (r:Jv k A) (h:j≤k):Jv j A:=⟨r.hd,by have:=r.dp; omega,by have:=r.un; omega⟩
theorem Jv.deeper {k:Nat} {A:Around} (r:Jv (k+1) A) (env:Env):Jv k (A.deeper env) :=
  ⟨r.hd,by have:=r.dp; show A.depth+1+3 * k+5<_; omega,by have:=r.un; show A.units+3+16 * k+200<_; omega⟩
theorem Jv.depth {k:Nat} {A:Around} (r:Jv k A):A.depth<recursionLimit:=by have:=r.dp; omega
theorem Jv.units {k:Nat} {A:Around} (r:Jv k A):A.units+64<cLine:=by have:=r.un; omega
noncomputable def a80:TA:=fun _ H Q=>Q [] H
noncomputable def V2 (ta:TE) (tr:TA):TA:=fun σ H Q=>ta σ H fun x H1=>tr σ H1 fun xs H2=>Q (x::xs) H2
noncomputable section
variable {X:Cx} {e:Expr} {es:List Expr} {te:TE} {t:TA} {pos:Pos}
theorem vq:PA X [] a80:=fun _ _ _ _ H Q I h=>Calls.spliced_nil ⟨[],H,I,.nil,h⟩
theorem sy (ha:PE X e te) (hr:PA X es t) (hs:starEach (e::es) X.env=(false,eval e X.env)::starEach es X.env:=by rfl):PA X (e::es) (V2 te t):=by
  intro pos pins s σ H Q I h
  rw [hs]
  show wpAny _ _ (spliced ((false,eval e X.env)::backTo pos (starEach es X.env))) _ _ s
  refine Calls.spliced_cons (thn (ha pins s σ H _ I h) fun u s1 z0=>?_)
  obtain ⟨x,H1,I1,r1,q1⟩:=z0
  exact thn (hr pos pins s1 σ H1 _ I1 q1) fun us s2 ⟨xs,H2,I2,r2,q2⟩=>⟨x::xs,H2,I2,.cons r1 r2,q2⟩
noncomputable def acu (t:TA):TE:=fun σ H Q=>t σ H fun xs H1=>xs.length≤sizeLine∧∀ p,H1 p=none→Q (.ref p) (upd H1 p (.tup xs))
noncomputable def ach (t:TA):TE:=fun σ H Q=>t σ H fun xs H1=>xs.length≤sizeLine∧∀ p,H1 p=none→Q (.ref p) (upd H1 p (.lst xs))
theorem a7m {x1} (h:PA X es t):PE X (.Tuple es x1 pos) (acu t):=by
  intro pins s σ H Q I hq
  refine wpAny_Tuple_spliced (thn (h pos pins s σ H _ I hq) fun us s1 ⟨xs,H1,I1,r,z,q⟩=>⟨by rw [← r.length]; exact z,?_⟩)
  have hf:H1 s1.heap.objs.size=none:=I1.hok.fresh (Nat.le_refl _)
  refine ⟨.ref s1.heap.objs.size,upd H1 s1.heap.objs.size (.tup xs),I1.laid (t':=s1.toks) (fun b u e=>Heap.get?_push_of_some _ e) (Nat.le_refl _) ?_,rfl,q _ hf⟩
  exact ⟨z,us,r,⟨_,Heap.get?_push_size _ rfl,rfl,rfl,_,rfl⟩⟩
theorem a3u (h:PA X es t):PE X (.List es pos) (ach t):=by
  intro pins s σ H Q I hq
  refine wpAny_List_spliced (thn (h pos pins s σ H _ I hq) fun us s1 ⟨xs,H1,I1,r,z,q⟩=>⟨by rw [← r.length]; exact z,?_⟩)
  have hf:H1 s1.heap.objs.size=none:=I1.hok.fresh (Nat.le_refl _)
  refine ⟨.ref s1.heap.objs.size,upd H1 s1.heap.objs.size (.lst xs),I1.laid (t':=s1.toks) (fun b u e=>Heap.get?_push_of_some _ e) (Nat.le_refl _) ?_,rfl,q _ hf⟩
  exact ⟨z,us,0,r,Heap.get?_push_size _ rfl⟩
end
noncomputable abbrev Sp:=List V→Hp→VK→XK→Prop
noncomputable abbrev CXT:=List Env→Hp→Shared→XK→Value→Shared→Prop
structure a9k (P:Program) (w:World) (K:PySem.W.Frag) (mg:Str→Option Value) (base:Heap) (A:Around) (outer:List Env) (s:Shared) (H:Hp):Prop where
  frames:A.frames=some outer
  mod:Mod K mg base
  bs:∀ b o,base.get? b=some o→s.heap.get? b=some o∧H b=none
  bsz:base.objs.size≤s.heap.objs.size
  W4:s.heap.FunFrames base outer
  frf:∀ b∈frs outer,H b=none
  hok:HOk P w H s.heap
  bare:AllBare s.gens
noncomputable def CE (outer:List Env) (P:Program) (w:World) (H:Hp) (s:Shared) (Q:VK) (u:Value) (s':Shared):Prop :=
  ∃ v H',s'.os=s.os∧AllBare s'.gens∧Un (frs outer) [] H H' s.heap s'.heap∧HOk P w H' s'.heap∧RelV v u∧Q v H'
noncomputable def CR (CX:CXT) (outer:List Env) (P:Program) (w:World) (H:Hp) (s:Shared) (Q:VK) (E:XK) (r:Result) (s':Shared):Prop :=
  match r with
  | .ok (.ret u)=>CE outer P w H s Q u s'
  | .ok _=>False
  | .error e=>CX outer H s E e s'
structure Ad (P:Program) (w:World) (K:PySem.W.Frag) (mg:Str→Option Value) (base:Heap) (CX:CXT) (k:Nat) (f:Addr) (fd:FuncData) (ps:List Str) (sp:Sp):Prop where
  len:∀ vs H Q E,sp vs H Q E→vs.length=ps.length
  run:∀ (A:Around) (outer:List Env) (s:Shared) (H:Hp) (args:Args) (us:List Value) (vs:List V) (Q:VK) (E:XK),Jv k A→a9k P w K mg base A outer s H→BindsTo s fd args (ps.zip us)→Vals vs us→sp vs H Q E →
    codeAny (model P w) A (.call (.ref f) args) (CR CX outer P w H s Q E) s
theorem Ad.mono {P:Program} {w:World} {K:PySem.W.Frag} {mg:Str→Option Value} {base:Heap} {CX:CXT} {j k:Nat} {f:Addr} {fd:FuncData} {ps:List Str} {sp:Sp} (F:Ad P w K mg base CX j f fd ps sp) (h:j≤k) :
    Ad P w K mg base CX k f fd ps sp:=⟨F.len,fun A outer s H args us vs Q E hr=>F.run A outer s H args us vs Q E (hr.mono h)⟩
theorem Ad.imp {P:Program} {w:World} {K:PySem.W.Frag} {mg:Str→Option Value} {base:Heap} {CX:CXT} {k:Nat} {f:Addr} {fd:FuncData} {ps:List Str} {sp sp':Sp} (F:Ad P w K mg base CX k f fd ps sp)
    (h:∀ vs H Q E,sp' vs H Q E→sp vs H Q E):Ad P w K mg base CX k f fd ps sp' :=
  ⟨fun vs H Q E q=>F.len vs H Q E (h _ _ _ _ q),fun A outer s H args us vs Q E hr he hb hv hs=>F.run A outer s H args us vs Q E hr he hb hv (h _ _ _ _ hs)⟩
noncomputable section
variable {X:Cx} {pins:List (Addr × Obj)} {σ:St} {H:Hp} {s s':Shared}
theorem Inv.env0 (I:Inv X pins σ H s):a9k X.prog X.w X.K X.mg X.base X.A X.stack s H :=
  ⟨I.ok.frames,I.ok.mod,I.bs,Nat.le_trans I.ok.bsz I.sz,I.stack,I.W9,I.hok,I.bare⟩
theorem Inv.after {Q:VK} {u:Value} (I:Inv X pins σ H s) (h:CE X.stack X.prog X.w H s Q u s'):EP X pins σ Q u s':=by
  obtain ⟨v,H',os,bare,un,hok,r,q⟩:=h
  obtain ⟨hh,g,d,t,os'⟩:=s'
  obtain rfl:os'=s.os:=os
  exact ⟨v,H',I.call (h':=hh) (g':=g) (d':=d) (t':=t) (ch:=[]) un hok bare (fun b z=>absurd z (by simp)),r,q⟩
end
noncomputable def aa8 (sp:Sp) (dvs:List V) (E:XK) (t:TA):TE:=fun σ H Q=>t σ H fun vs H1=>sp (vs++dvs) H1 Q E
noncomputable def Binds (K:PySem.W.Frag) (fd:FuncData) (ps:List Str) (ds:List Value):Prop :=
  ∀ (s:Shared) (us:List Value),K.In s.heap→(us++ds).length=ps.length→BindsTo s fd ⟨us,[]⟩ (ps.zip (us++ds))
theorem Binds.all {K:PySem.W.Frag} {fd:FuncData} {ps:List Str} (h:∀ us:List Value,us.length=ps.length→bindArgs fd ⟨us,[]⟩=pure (ps.zip us)):Binds K fd ps []:=fun s us _ hl=>by
  rw [List.append_nil] at hl ⊢
  exact .of_eq (h us hl)
noncomputable def Passes (CX:CXT) (X:Cx) (E:XK):Prop:=∀ (pins:List (Addr × Obj)) (σ:St) (H:Hp) (s:Shared) (e:Value) (s':Shared),Inv X pins σ H s→CX X.stack H s E e s'→X.xe e s'
noncomputable section
variable {X:Cx} {CX:CXT} {k:Nat} {f C:Addr} {fd:FuncData} {ps:List Str} {sp:Sp} {dvs:List V} {ds:List Value} {E:XK} {x m:Str} {p pos apos:Pos} {e o:Expr} {es:List Expr} {ta:TE} {t:TA}
theorem a9h {pins:List (Addr × Obj)} {σ:St} {H:Hp} {s:Shared} {Q:VK} {us:List Value} {vs:List V} (F:Ad X.prog X.w X.K X.mg X.base CX k f fd ps sp) (hr:Jv k X.A) (hb:Binds X.K fd ps ds) (hd:Vals dvs ds) (hx:Passes CX X E)
    (I:Inv X pins σ H s) (r:Vals vs us) (h:sp (vs++dvs) H Q E):wpAny (model X.prog X.w) X.A (call (.ref f) us) (EP X pins σ Q) X.xe s:=by
  have r2:Vals (vs++dvs) (us++ds):=r.append hd
  have hl:(us++ds).length=ps.length:=by rw [← r2.length]; exact F.len _ _ _ _ h
  refine wpAny_call (codeAny_mono (F.run X.A X.stack s H ⟨us,[]⟩ (us++ds) (vs++dvs) Q E hr I.env0 (hb s us I.kIn hl) r2 h) fun r s' hq=>?_)
  cases r with
  | error e=>exact hx pins σ H s e s' I hq
  | ok fl =>
    cases fl with
    | ret u=>exact I.after hq
    | next=>exact False.elim hq
    | brk=>exact False.elim hq
    | cont=>exact False.elim hq
theorem a4t (F:Ad X.prog X.w X.K X.mg X.base CX k f fd ps sp) (hr:Jv k X.A) (hg:Gl X x) (hm:X.mg x=some (.ref f)) (hk:PySem.W.keepIn X.K (.ref f)=true) (hb:Binds X.K fd ps ds) (hd:Vals dvs ds) (hx:Passes CX X E)
    (ha:PA X (e::es) t) (hdb:(x==("__debug__" : Str))=false:=by decide) (he:starEach (e::es) X.env=(false,eval e X.env)::starEach es X.env:=by rfl) (hpl:(backTo pos (starEach es X.env)).any (·.1)=false:=by rfl) :
    PE X (.Call (.Name x p) (e::es) [] pos) (aa8 sp dvs E t):=by
  intro pins s σ H Q I h
  refine wpAny_Call_Name_kw (Zn I hg hm ?_ hdb)
  refine PySem.W.callWith_K (h₀:=X.base) I.ok.mod.kin hk (thn (ha pos pins s σ H _ I h) fun us s1 ⟨vs,H1,I1,r,q⟩=>⟨I1.kIn,?_⟩) he hpl
  exact a9h F hr hb hd hx I1 r q
structure Mk (K:PySem.W.Frag) (C f:Addr):Prop where
  makes:PySem.W.makesIn K C=true
  init:PySem.W.findIn K (.ref C) "__init__" = some (some (.ref f))
  fn:PySem.W.isFn K (.ref f)=true
  kp:PySem.W.keepIn K (.ref C)=true
end
noncomputable section
variable {X:Cx} {CX:CXT} {k:Nat} {f C:Addr} {fd:FuncData} {ps ks:List Str} {sp:Sp} {E:XK} {x m:Str} {p pos apos kpos:Pos} {e o:Expr} {es:List Expr} {kws:List Keyword} {te ta:TE} {t tk:TA} {nm:Option Str}
structure ac6 (K:PySem.W.Frag) (fd:FuncData) (ps ks:List Str) (g:List Value→List Value→List Value) (gV:List V→List V→List V):Prop where
  to:∀ (s:Shared) (us ws:List Value),K.In s.heap→(g us ws).length=ps.length→BindsTo s fd ⟨us,ks.zip ws⟩ (ps.zip (g us ws))
  rel:∀ {vs:List V} {us:List Value} {zs:List V} {ws:List Value},Vals vs us→Vals zs ws→Vals (gV vs zs) (g us ws)
variable {g:List Value→List Value→List Value} {gV:List V→List V→List V}
end
structure m9 (N P:List Str) (sc:Scope):Prop where
  kind:sc.kind=.function
  co:sc.isCoroutine=false
  gen:sc.isGenerator=false
  nd:N.Nodup
  pre:N.take P.length=P
  par:∀ x∈P,sc.names.lookup x=some .local∨sc.names.lookup x=some .cell
  nofree:∀ y∈sc.names,y.2≠.free
theorem Nv {kindOf:Str→Option NameKind} {x:Str}:∀ {binds:List (Str × Value)} {m:Str→Option Value},(∀ v,(x,v)∉binds)→bindL kindOf binds m x=m x
  | [],_,_=>rfl
  | (n,v)::r,m,h=>by
    unfold bindL
    rw [Nv fun w hw=>h w (List.mem_cons_of_mem _ hw)]
    split
    · have:x≠n:=by rintro rfl; exact h v List.mem_cons_self
      simp [this]
    · rfl
theorem Pa {kindOf:Str→Option NameKind} {x:Str}:∀ {binds:List (Str × Value)} {m:Str→Option Value},(∀ v,(x,v)∉binds)→bindC kindOf binds m x=m x
  | [],_,_=>rfl
  | (n,v)::r,m,h=>by
    unfold bindC
    rw [Pa fun w hw=>h w (List.mem_cons_of_mem _ hw)]
    split
    · rfl
    · have:x≠n:=by rintro rfl; exact h v List.mem_cons_self
      simp [this]
theorem Mt {kindOf:Str→Option NameKind} {x:Str} {v:Value}:∀ {P:List Str} {vs:List Value} {i:Nat} {m:Str→Option Value},P.Nodup→P[i]? = some x→vs[i]? = some v→kindOf x=some .local →
    bindL kindOf (P.zip vs) m x=some v
  | [],_,_,_,_,h,_,_=>by simp at h
  | _::_,[],_,_,_,_,h,_=>by simp at h
  | p::P,w::vs,0,m,nd,h1,h2,hk=>by
    simp at h1 h2; subst h1; subst h2
    show bindL kindOf ((p,w)::P.zip vs) m p=_
    unfold bindL
    rw [Nv fun v hv=>(List.nodup_cons.mp nd).1 (List.of_mem_zip hv).1,if_pos hk]
    simp
  | p::P,w::vs,i+1,m,nd,h1,h2,hk=>by
    show bindL kindOf ((p,w)::P.zip vs) m x=_
    unfold bindL
    exact Mt (i:=i) (List.nodup_cons.mp nd).2 (by simpa using h1) (by simpa using h2) hk
theorem Oz {kindOf:Str→Option NameKind} {x:Str} {v:Value}:∀ {P:List Str} {vs:List Value} {i:Nat} {m:Str→Option Value},P.Nodup→P[i]? = some x→vs[i]? = some v→kindOf x≠some .local →
    bindC kindOf (P.zip vs) m x=some v
  | [],_,_,_,_,h,_,_=>by simp at h
  | _::_,[],_,_,_,_,h,_=>by simp at h
  | p::P,w::vs,0,m,nd,h1,h2,hk=>by
    simp at h1 h2; subst h1; subst h2
    show bindC kindOf ((p,w)::P.zip vs) m p=_
    unfold bindC
    rw [Pa fun v hv=>(List.nodup_cons.mp nd).1 (List.of_mem_zip hv).1,if_neg hk]
    simp
  | p::P,w::vs,i+1,m,nd,h1,h2,hk=>by
    show bindC kindOf ((p,w)::P.zip vs) m x=_
    unfold bindC
    exact Oz (i:=i) (List.nodup_cons.mp nd).2 (by simpa using h1) (by simpa using h2) hk
noncomputable def start (N:List Str) (vs:List V):St:=vs.map some++List.replicate (N.length - vs.length) none
noncomputable def a5s (CX:CXT) (P:Program) (w:World) (K:PySem.W.Frag) (mg:Str→Option Value) (base:Heap) (N:List Str) (qual:Str) (scope:Scope) (f:Addr) (cd:Value) (A:Around) (outer:List Env) (s:Shared) (H:Hp) (E:XK):Cx where
  prog:=P
  w:=w
  K:=K
  mg:=mg
  base:=base
  A:=A.deeper (envOfC qual scope s.heap.objs.size f cd)
  N:=N
  s₀:=s
  H₀:=H
  env:=envOfC qual scope s.heap.objs.size f cd
  outer:=outer
  stack:=envOfC qual scope s.heap.objs.size f cd::outer
  ex:=[]
  calm:=true
  fn:=fun _=>true
  pn:=[]
  xe:=fun e s'=>wpAny (model P w) (A.deeper (envOfC qual scope s.heap.objs.size f cd)) (leaving (envOfC qual scope s.heap.objs.size f cd) e) (fun _ s''=>CX outer H s E e s'') (fun e' s''=>CX outer H s E e' s'') s'
theorem Sy {sc:Scope} {n:Nat} {x:Str} (h:sc.names.lookup x=some .cell):∃ c,(cellsFrom n sc.names []).lookup x=some c:=by
  have q:=PySem.W.cellsFrom_some sc.names n [] (.inl h)
  exact Option.isSome_iff_exists.mp q
theorem Xu {CX:CXT} {P:Program} {w:World} {K:PySem.W.Frag} {mg:Str→Option Value} {base:Heap} {N ps:List Str} {qual:Str} {scope:Scope} {f:Addr} {cd:Value} {A:Around} {outer:List Env} {s s1:Shared} {H:Hp} {E:XK} {us:List Value} {vs:List V}
    (S:m9 N ps scope) (hd:A.handled=none) (e0:a9k P w K mg base A outer s H) (hl:vs.length=ps.length) (r:Vals vs us)
    (x:InCallC s s.heap.objs.size (bindL (envOfC qual scope s.heap.objs.size f cd).kindOf (ps.zip us) fun _=>none) (cellsFrom (s.heap.objs.size+1) scope.names []) (bindC (envOfC qual scope s.heap.objs.size f cd).kindOf (ps.zip us) fun _=>none) s1) :
    Inv (a5s CX P w K mg base N qual scope f cd A outer s H E) [] (start N vs) H s1:=by
  have hpl:ps.length≤N.length:=by have:=congrArg List.length S.pre; rw [List.length_take] at this; omega
  obtain ⟨h1,tk,rfl,hk⟩:=x.done
  have noA:∀ b:Addr,b∉(a5s CX P w K mg base N qual scope f cd A outer s H E).ex:=fun b z=>absurd (show b∈([]:List Addr) from z) (by simp)
  refine ⟨⟨e0.mod,S.kind,rfl,rfl,Nat.le_refl _,fun y z c h1 h2=>?_,fun y hy=>?_,fun y c _ h=>?_,fun _=>hd,Around.frames_deeper e0.frames,.inr ⟨rfl,rfl⟩,fun b z=>absurd z (noA b),e0.bs,e0.bsz,fun b _ _=>noA b,fun b z=>absurd z (noA b),e0.W4,e0.frf⟩,
    rfl,e0.bare,Un.kept hk,⟨_,x.toInCall.ns,fun i y v h1 h2 h3=>?_⟩,fun y c h=>⟨_,x.cell y c h⟩,e0.hok.fresh (Nat.le_refl _),fun y c h=>?_,fun p hp=>absurd (show p∈([]:List (Addr × Obj)) from hp) (by simp),e0.hok.kept hk,?_⟩
  · exact name_of_addr x.apart (PySem.mem_of_lookup h1) (PySem.mem_of_lookup h2)
  · have hy:scope.names.lookup y=some .cell∨scope.names.lookup y=some .free:=hy
    rcases hy with hy | hy
    · exact Sy hy
    · exact absurd rfl (S.nofree _ (PySem.mem_of_lookup hy))
  · exact Nat.le_of_lt (x.above y c (PySem.mem_of_lookup h))
  · have hi:i<vs.length:=by
      unfold start at h2
      by_cases hi:i<vs.length
      · exact hi
      · rw [List.getElem?_append_right (by simpa using hi)] at h2
        rw [List.getElem?_replicate] at h2
        split at h2 <;> cases h2
    have ha:vs[i]? = some v:=by
      unfold start at h2
      rw [List.getElem?_append_left (by simpa using hi),List.getElem?_map] at h2
      cases e:vs[i]? with
      | none=>rw [e] at h2; cases h2
      | some a=>rw [e] at h2; cases h2; rfl
    obtain ⟨u,hu,rv⟩:=r.get ha
    have hp:ps[i]? = some y:=by
      rw [← S.pre,List.getElem?_take_of_lt (by omega)]; exact h1
    have ndP:ps.Nodup:=by rw [← S.pre]; exact S.nd.sublist (List.take_sublist _ _)
    refine ⟨u,rv,?_⟩
    rcases S.par y (List.mem_of_getElem? hp) with k | k
    · exact .inl ⟨k,Mt ndP hp hu k⟩
    · obtain ⟨c,e⟩:=Sy (n:=s.heap.objs.size+1) k
      refine .inr ⟨.inl k,c,e,?_⟩
      have q:=x.cell y c e
      rw [Oz ndP hp hu (by show scope.names.lookup y≠_; rw [k]; decide)] at q
      exact q
  · exact e0.hok.fresh (Nat.le_of_lt (x.above y c (PySem.mem_of_lookup h)))
  · unfold start
    show _=N.length
    rw [List.length_append,List.length_map,List.length_replicate]
    omega
theorem a9v {CX:CXT} {P:Program} {w:World} {K:PySem.W.Frag} {mg:Str→Option Value} {base:Heap} {k:Nat} {f:Addr} {name qual:Str} {params:Arguments} {body:List Stmt} {scope:Scope} {dV kV doc pm cdv ct oc:Value} {an od:Option Addr}
    {osl:Array (Option Value)} {N ps:List Str} {sp:Sp} (lk:K.lookup f=some ⟨oc,od,.func (PySem.W.fnOf name qual params body scope dV kV doc pm an cdv ct),osl⟩) (hcd:PySem.W.codeIn K cdv qual=true) (S:m9 N ps scope)
    (len:∀ vs H Q E,sp vs H Q E→vs.length=ps.length)
    (hbody:∀ (A:Around) (outer:List Env) (s:Shared) (H:Hp) (vs:List V) (Q:VK) (E:XK),Jv k (A.deeper (envOfC qual scope s.heap.objs.size f cdv))→sp vs H Q E →
      ∃ t,PSs (a5s CX P w K mg base N qual scope f cdv A outer s H E) body t∧t { nx:=fun _ H'=>Q .non H',rt:=Q } (start N vs) H) :
    Ad P w K mg base CX (k+1) f (PySem.W.fnOf name qual params body scope dV kV doc pm an cdv ct) ps sp:=by
  refine ⟨len,fun A outer s H args us vs Q E hr e0 hb r hsp=>?_⟩
  have hl:=len _ _ _ _ hsp
  have KX:K.In s.heap:=e0.mod.kin.keeps fun b o e=>(e0.bs b o e).1
  have lim:s.heap.NoLimit:=e0.mod.nolimit.keeps fun b o e=>(e0.bs b o e).1
  have hkind:∀ y∈ps.zip us,scope.names.lookup y.1=some .local∨(scope.names.lookup y.1=some .cell∧((cellsFrom (s.heap.objs.size+1) scope.names []).lookup y.1).isSome=true):=fun ⟨n,v⟩ hy=>by
    rcases S.par n (List.of_mem_zip hy).1 with q | q
    · exact .inl q
    · exact .inr ⟨q,PySem.W.cellsFrom_some _ _ _ (.inl q)⟩
  refine codeAny_call_function hr.depth (KX _ _ lk) rfl S.co S.gen rfl (PySem.W.codeRec_of KX hcd) (hb _ _ _ _ ?_)
  refine wpAny_newFunctionEnv_cells S.kind hkind fun env he s1 x=>?_
  subst he
  refine ⟨lim.keeps x.toInCall.keep,codeAny_func ?_⟩
  obtain ⟨t,ht,hq⟩:=hbody A outer s H vs Q E (hr.deeper _) hsp
  have I:Inv (a5s CX P w K mg base N qual scope f cdv A outer s H E) [] (start N vs) H s1:=Xu S hr.hd e0 hl r x
  refine wpAny_mono (ht [] s1 (start N vs) H _ I hq) (fun fl s' hs=>?_) fun e s' hs=>hs
  have fin:∀ {σ':St} {H':Hp} {v:V} {u:Value},Inv (a5s CX P w K mg base N qual scope f cdv A outer s H E) [] σ' H' s'→RelV v u→Q v H'→CE outer P w H s Q u s' :=
    fun {σ' H' v u} J rv q=>⟨v,H',J.os,J.bare,J.base,J.hok,rv,q⟩
  cases fl with
  | ret u =>
    obtain ⟨v,σ',H',J,rv,q⟩:=hs
    exact fin J rv q
  | next =>
    obtain ⟨σ',H',J,q⟩:=hs
    exact fin (v:=V.non) (u:=Value.none) J rfl q
  | brk =>
    obtain ⟨_,_,_,q⟩:=hs
    exact False.elim q
  | cont =>
    obtain ⟨_,_,_,q⟩:=hs
    exact False.elim q
end L2
namespace L2
open PySem PySem.Spec PyProof.Rows
noncomputable section
variable {X:Cx} {x:Str} {p pos:Pos} {e:Expr} {es:List Expr} {t:TA} {id T:String} {r:List V→Hp→VK→Prop}
noncomputable def tCB (r:List V→Hp→VK→Prop) (t:TA):TE:=fun σ H Q=>t σ H fun vs H1=>r vs H1 Q
theorem pq (hc:Eb X (.builtin id) r) (hg:Gl X x) (hm:X.mg x=none) (hv:bootBuiltins x=some (.builtin id)) (ha:PA X (e::es) t) (hn:x ≠ "__name__" := by decide) (hdb:(x==("__debug__" : Str))=false:=by decide)
    (he:starEach (e::es) X.env=(false,eval e X.env)::starEach es X.env:=by rfl) (hpl:(backTo pos (starEach es X.env)).any (·.1)=false:=by rfl):PE X (.Call (.Name x p) (e::es) [] pos) (tCB r t):=by
  intro pins s σ H Q I h
  refine wpAny_Call_Name_kw (Jc I hg hm hv ?_ hn hdb)
  exact PyProof.Rows.callWith_builtin1 (thn (ha pos pins s σ H _ I h) fun us s1 z7=>by obtain ⟨vs,H1,I1,r1,q1⟩:=z7; exact hc pins s1 σ H1 vs us Q I1 r1 q1) he hpl
theorem ur (hc:Eb X (.type T) r) (hg:Gl X x) (hm:X.mg x=none) (hv:bootBuiltins x=some (.type T)) (ha:PA X (e::es) t) (hn:x ≠ "__name__" := by decide) (hdb:(x==("__debug__" : Str))=false:=by decide)
    (he:starEach (e::es) X.env=(false,eval e X.env)::starEach es X.env:=by rfl) (hpl:(backTo pos (starEach es X.env)).any (·.1)=false:=by rfl):PE X (.Call (.Name x p) (e::es) [] pos) (tCB r t):=by
  intro pins s σ H Q I h
  refine wpAny_Call_Name_kw (Jc I hg hm hv ?_ hn hdb)
  exact PyProof.Rows.callWith_type1 (thn (ha pos pins s σ H _ I h) fun us s1 z7=>by obtain ⟨vs,H1,I1,r1,q1⟩:=z7; exact hc pins s1 σ H1 vs us Q I1 r1 q1) he hpl
end
end L2
end
noncomputable section
set_option linter.all false
set_option maxRecDepth 100000
namespace HT
open PySem PyProof.Rows
noncomputable section
open PySem.SeqAt
open PySem.AutoSeq1 (wpAny_loadPart')
open PySem.MeetsSeq PySem.MeetsSeq2 PySem.MeetsSeq3
end
noncomputable section
variable {prog:Program} {w:World} {A:Around} {E:Value→Shared→Prop} {s:Shared}
theorem a69 {t b:Addr} {vs ws:List Value} {Q:Value→Shared→Prop} (ht:IsTup s.heap t vs.toArray) (hb:IsTup s.heap b ws.toArray) (hv:vs≠[])
    (h1:ws=[]→Q (.ref t) s) (h2:ws≠[]→Q (.ref s.heap.objs.size) { s with heap:=s.heap.push { cls:=.type "tuple",data:=.seq (vs++ws).toArray } })
    (hsz:vs.length+ws.length≤sizeLine):wpAny (model prog w) A (binaryOp .Add (.ref t) (.ref b)) Q E s:=by
  obtain ⟨⟨cls,dd,data,sl⟩,ho,hc,n,hd⟩:=id ht
  obtain ⟨⟨cls2,dd2,data2,sl2⟩,ho2,hc2,n2,hd2⟩:=id hb
  simp only at hc hd hc2 hd2
  subst hc hd hc2 hd2
  have e:vs.toArray++ws.toArray=(vs++ws).toArray:=by simp
  by_cases hw:ws=[]
  · exact concat_meets ⟨_,ho,rfl⟩ ⟨_,ho2,rfl⟩ noFill_tuple_add seq_tuple_add PySem.F.slot_tuple_add PySem.F.entry_tuple_add (PySem.F.args_tuple_add_2 _ _)
      (tuple_addW1 t b vs.toArray ws.toArray n n2 dd dd2 sl sl2 (by simpa using hv) (by simp [hw])) ⟨ho,ho2,h1 hw⟩
  · refine concat_meets ⟨_,ho,rfl⟩ ⟨_,ho2,rfl⟩ noFill_tuple_add seq_tuple_add PySem.F.slot_tuple_add PySem.F.entry_tuple_add (PySem.F.args_tuple_add_2 _ _)
      (tuple_addW2 t b vs.toArray ws.toArray n n2 dd dd2 sl sl2 (by simpa using hv) (by simpa using hw) (by rw [List.size_toArray,List.size_toArray]; exact hsz)) ⟨ho,ho2,?_⟩
    rw [e]
    exact h2 hw
noncomputable def sIx (n d:Nat):Option Int→Nat
  | none=>d
  | some v=>if v<0 then (v+(n:Int)).toNat else min v.toNat n
theorem a8b (n d:Nat) (hd:d≤n) (o:Option Int):sIx n d o≤n:=by
  cases o with
  | none=>exact hd
  | some v =>
    show (if v<0 then (v+(n:Int)).toNat else min v.toNat n)≤n
    by_cases hv:v<0
    · rw [if_pos hv]; omega
    · rw [if_neg hv]; exact Nat.min_le_right _ _
theorem Wq (v:Int) (n d:Nat):(if v<0 then max (v+(n:Int)) 0 else min v (n:Int))=((sIx n d (some v):Nat):Int):=by
  show (if v<0 then max (v+(n:Int)) 0 else min v (n:Int))=(((if v<0 then (v+(n:Int)).toNat else min v.toNat n):Nat):Int)
  by_cases hv:v<0
  · simp only [if_pos hv]; omega
  · simp only [if_neg hv]; omega
theorem V3 (lo hi:Option Int) (n:Nat):Builtin.Slice.sliceAdjust lo hi 1 (n:Int)=(((sIx n 0 lo:Nat):Int),((sIx n n hi:Nat):Int)):=by
  have h1:¬ ((1:Int)<0):=by omega
  unfold Builtin.Slice.sliceAdjust
  simp only [h1,if_false]
  refine Prod.ext ?_ ?_
  · cases lo with
    | none=>rfl
    | some v=>exact Wq v n 0
  · cases hi with
    | none=>rfl
    | some v=>exact Wq v n n
theorem Vh (i j:Nat):Builtin.Slice.slicePlaces (i:Int) (j:Int) 1=j - i:=by
  unfold Builtin.Slice.slicePlaces
  have h1:(1:Int) > 0:=by omega
  simp only [h1,if_true,Int.ediv_one]
  split <;> omega
theorem Ce {v:Value} {o:Option Int} {Q:Option Int→Shared→Prop} (p:IsPart v o) (h:Q o s):wpAny (model prog w) A (Builtin.Slice.slicePartIndex v) Q E s:=by
  cases p with
  | none=>exact slicePart_none h
  | int i t=>exact slicePart_int h
theorem Hi {sl:Addr} {vl vu:Value} {lo hi:Option Int} {n:Nat} {Q:Int × Int × Nat→Shared→Prop} (hs:s.heap.IsSliceOf sl vl vu .none) (pl:IsPart vl lo) (pu:IsPart vu hi)
    (h:Q (((sIx n 0 lo:Nat):Int),1,sIx n n hi - sIx n 0 lo) s):wpAny (model prog w) A (Builtin.Slice.sliceApplied (.ref sl) (pure (n:Int))) Q E s:=by
  obtain ⟨os,hos,hcs,hds⟩:=id hs
  unfold Builtin.Slice.sliceApplied Builtin.Slice.sliceFields
  refine wpAny_bind (wpAny_bind (wpAny_field hos hds (x:=vl) rfl (wpAny_bind (wpAny_field hos hds (x:=vu) rfl (wpAny_bind (wpAny_field hos hds (x:=.none) rfl (wpAny_pure ?_)))))))
  refine wpAny_bind (slicePart_none ?_)
  show wpAny _ _ (if ((1:Int)==0)=true then _ else _) _ _ s
  rw [if_neg (by decide)]
  refine wpAny_bind (Ce pl (wpAny_bind (Ce pu (wpAny_bind (wpAny_pure ?_)))))
  show wpAny _ _ (match Builtin.Slice.sliceAdjust lo hi 1 (n:Int) with | (lo,hi)=>pure (lo,(1:Int),Builtin.Slice.slicePlaces lo hi 1)) _ _ s
  rw [V3 lo hi n]
  show wpAny _ _ (pure (((sIx n 0 lo:Nat):Int),(1:Int),Builtin.Slice.slicePlaces ((sIx n 0 lo:Nat):Int) ((sIx n n hi:Nat):Int) 1)) _ _ s
  rw [Vh]
  exact wpAny_pure h
theorem a1n (xs:Array Value) (i k:Nat):((List.range k).filterMap fun (m:Nat)=>xs[((i:Int)+(m:Int) * 1).toNat]?).toArray=((xs.toList.drop i).take k).toArray:=by
  have e:(fun (m:Nat)=>xs[((i:Int)+(m:Int) * 1).toNat]?)=fun m=>xs[i+m]?:=by
    funext m
    have:((i:Int)+(m:Int) * 1).toNat=i+m:=by omega
    rw [this]
  rw [e]
  have:=pick_run xs i k
  rw [List.filterMap_map] at this
  have e2:((fun x=>xs[x]?) ∘ fun x=>i+x)=fun m=>xs[i+m]?:=rfl
  rw [e2] at this
  rw [this]
theorem Gg {t sl:Addr} {items:Array Value} {vl vu:Value} {lo hi:Option Int} {Q:Value→Shared→Prop} (ht:IsTup s.heap t items) (hs:s.heap.IsSliceOf sl vl vu .none) (pl:IsPart vl lo) (pu:IsPart vu hi)
    (hw:¬ (sIx items.size 0 lo=0∧sIx items.size items.size hi=items.size))
    (h:Q (.ref s.heap.objs.size) { s with heap:=s.heap.push { cls:=.type "tuple",data:=.seq ((items.toList.drop (sIx items.size 0 lo)).take (sIx items.size items.size hi - sIx items.size 0 lo)).toArray } })
    (hsz:items.size≤sizeLine):wpAny (model prog w) A (getItem (.ref t) (.ref sl)) Q E s:=by
  have htake:sizeOk (.seq ((items.toList.drop (sIx items.size 0 lo)).take (sIx items.size items.size hi - sIx items.size 0 lo)).toArray):=by
    show ((items.toList.drop (sIx items.size 0 lo)).take (sIx items.size items.size hi - sIx items.size 0 lo)).toArray.size≤sizeLine
    rw [List.size_toArray,List.length_take,List.length_drop,Array.length_toList]
    omega
  have hj:sIx items.size items.size hi≤items.size:=a8b _ _ (Nat.le_refl _) hi
  obtain ⟨os,hos,hcs,hds⟩:=id hs
  have hTs:s.TypeIs (.ref sl) "slice" := ⟨os,hos,hcs⟩
  unfold getItem
  try with_reducible refine wpAny_holding ?_
  first | refine wpAny_bind (wpAny_pure ?_) | skip
  refine wpAny_bind (wpAny_sequenceKey ht.typeIs (by decide) ?_)
  refine wpAny_bind (wpAny_callSpecial?_slot (name:=Str.ofString "__getitem__") ht.typeIs PyProof.Rows.slot_tuple_getitem
    (wpAny_call_entry PyProof.Rows.slot_tuple_getitem ht.typeIs entry_tuple_getitem ?_ (args_tuple_getitem _ _)))
  show wpAny _ _ (Builtin.Tuple.tupleItemsOf (.ref t) >>= _) _ _ s
  refine wpAny_bind (tupleItemsOf_ ht ?_)
  refine wpAny_bind (wpAny_typeOf hTs ?_)
  rw [if_pos (by decide)]
  refine wpAny_bind (Hi hs pl pu ?_)
  have hno:¬ ((((sIx items.size 0 lo:Nat):Int)==0&&(1:Int)==1&&(sIx items.size items.size hi - sIx items.size 0 lo)==items.size)=true):=by
    intro q
    rw [Bool.and_eq_true,Bool.and_eq_true] at q
    have q1:((sIx items.size 0 lo:Nat):Int)=0:=eq_of_beq q.1.1
    have q2:sIx items.size items.size hi - sIx items.size 0 lo=items.size:=eq_of_beq q.2
    exact hw ⟨by omega,by omega⟩
  show wpAny _ _ (if (((sIx items.size 0 lo:Nat):Int)==0&&(1:Int)==1&&(sIx items.size items.size hi - sIx items.size 0 lo)==items.size)=true then _ else _) _ _ s
  rw [if_neg hno,a1n]
  first
    | exact wpAny_bind (m:=Builtin.Tuple.tupleExact _) (wpAny_newObj_type (wpAny_pure ⟨_,rfl,wpAny_pure h⟩) htake)
    | exact wpAny_bind (m:=Builtin.Tuple.tupleExact _) (wpAny_newObj_type (wpAny_bind (wpAny_pure (wpAny_pure ⟨_,rfl,wpAny_pure h⟩))) htake)
    | exact wpAny_bind (wpAny_bind (m:=Builtin.Tuple.tupleExact _) (wpAny_newObj_type (wpAny_pure (wpAny_pure ⟨_,rfl,wpAny_pure h⟩)) htake))
    | exact wpAny_bind (wpAny_bind (m:=Builtin.Tuple.tupleExact _) (wpAny_newObj_type (wpAny_pure ⟨_,rfl,wpAny_pure h⟩) htake))
end
end HT
namespace L2
open PySem PySem.Spec PyProof.Rows
noncomputable abbrev TO:=St→Hp→(Option Int→Hp→Prop)→Prop
noncomputable def PO (X:Cx) (e:Option Expr) (t:TO):Prop :=
  ∀ (pins:List (Addr × Obj)) (s:Shared) (σ:St) (H:Hp) (Q:Option Int→Hp→Prop),Inv X pins σ H s→t σ H Q →
    wpAny (model X.prog X.w) X.A (evalPart e X.env) (fun u s'=>∃ o H',Inv X pins σ H' s'∧IsPart u o∧Q o H') X.xe s
noncomputable def a6o:TO:=fun _ H Q=>Q none H
noncomputable def aa9 (t:TE):TO:=fun σ H Q=>t σ H fun x H1=>∃ i,x=.int i∧Q (some i) H1
noncomputable section
variable {X:Cx} {e:Expr} {te:TE} {lo hi:Option Expr} {tl th:TO} {pos p2:Pos}
theorem a5e:PO X none a6o:=by
  intro pins s σ H Q I h
  rw [evalPart_none]
  exact wpAny_pure ⟨none,H,I,.none,h⟩
theorem a68 (h:PE X e te):PO X (some e) (aa9 te):=by
  intro pins s σ H Q I hw
  rw [evalPart_some]
  refine thn (h pins s σ H _ I hw) fun u s1 z0=>?_
  obtain ⟨x,H1,I1,r1,q1⟩:=z0
  obtain ⟨i,rfl,q⟩:=q1
  obtain ⟨t,rfl⟩:=r1
  exact ⟨some i,H1,I1,.int i t,q⟩
noncomputable def SlR (X:Cx) (r:V→Option Int→Option Int→Hp→VK→Prop):Prop :=
  ∀ (pins:List (Addr × Obj)) (s:Shared) (σ:St) (H:Hp) (x:V) (v vl vu:Value) (lo hi:Option Int) (sl:Addr) (Q:VK),Inv X pins σ H s→RelV x v→s.heap.IsSliceOf sl vl vu .none→IsPart vl lo→IsPart vu hi→r x lo hi H Q →
    ∃ T id,typeLookup (.type T) "__getitem__" = pure (some (.builtin id))∧s.TypeIs v T∧wpAny (model X.prog X.w) X.A (getItem v (.ref sl)) (EP X pins σ Q) X.xe s
theorem SlR.or {r r':V→Option Int→Option Int→Hp→VK→Prop} (h:SlR X r) (h':SlR X r'):SlR X (fun x lo hi H Q=>r x lo hi H Q∨r' x lo hi H Q):=by
  intro pins s σ H x v vl vu lo hi sl Q I rx hs pl pu q
  rcases q with q | q
  · exact h pins s σ H x v vl vu lo hi sl Q I rx hs pl pu q
  · exact h' pins s σ H x v vl vu lo hi sl Q I rx hs pl pu q
noncomputable def tSl (r:V→Option Int→Option Int→Hp→VK→Prop) (te:TE) (tl th:TO):TE:=fun σ H Q=>te σ H fun x H1=>tl σ H1 fun l H2=>th σ H2 fun u H3=>r x l u H3 Q
theorem a1g {r:V→Option Int→Option Int→Hp→VK→Prop} (hr:SlR X r) (he:PE X e te) (hl:PO X lo tl) (hu:PO X hi th):PE X (.Subscript e (.Slice lo hi none p2) pos) (tSl r te tl th):=by
  intro pins s σ H Q I h
  refine Subscript_ (thn (he pins s σ H _ I h) fun v s1 z0=>?_)
  obtain ⟨x,H1,I1,r1,q1⟩:=z0
  refine wpAny_Slice (thn (hl pins s1 σ H1 _ I1 q1) fun vl s2 ⟨l,H2,I2,pl,q2⟩=>thn (hu pins s2 σ H2 _ I2 q2) fun vu s3 ⟨u,H3,I3,pu,q3⟩=>?_)
  rw [evalPart_none]
  refine wpAny_pure ?_
  have I4:Inv X pins σ H3 { s3 with heap:=s3.heap.push { cls:=.type "slice",data:=.fields #[vl,vu,.none] } }:=I3.kept (t':=s3.toks) fun b ob q=>Heap.get?_push_of_some _ q
  obtain ⟨T,id,hT,ht,hg⟩:=hr pins { s3 with heap:=s3.heap.push { cls:=.type "slice",data:=.fields #[vl,vu,.none] } } σ H3 x v vl vu l u s3.heap.objs.size Q I4 r1 (Heap.IsSliceOf.new ..) pl pu q3
  show wpAny (model X.prog X.w) X.A (subscriptTail e (.Slice lo hi none p2) v (.ref s3.heap.objs.size)) (EP X pins σ Q) X.xe { s3 with heap:=s3.heap.push { cls:=.type "slice",data:=.fields #[vl,vu,.none] } }
  exact tail_any (ops:=[.ref s3.heap.objs.size,v]) ht hT hg (by with_unfolding_all rfl)
noncomputable def Zv (xs:List V) (lo hi:Option Int):List V:=(xs.drop (HT.sIx xs.length 0 lo)).take (HT.sIx xs.length xs.length hi - HT.sIx xs.length 0 lo)
theorem Ie (xs:List V) (lo hi:Option Int):(Zv xs lo hi).length≤xs.length:=by
  unfold Zv
  rw [List.length_take,List.length_drop]
  omega
noncomputable def ad0 (K:PySem.W.Frag):V→Option Int→Option Int→Hp→VK→Prop:=fun x lo hi H Q=>∃ a xs,x=.ref a∧SqT K H a xs ∧
  ¬ (HT.sIx xs.length 0 lo=0∧HT.sIx xs.length xs.length hi=xs.length)∧∀ p,H p=none→Q (.ref p) (upd H p (.tup (Zv xs lo hi)))
theorem a82:SlR X (ad0 X.K):=by
  intro pins s σ H x v vl vu lo hi sl Q I rx hs pl pu h
  obtain ⟨a,xs,rfl,hx,hw,q⟩:=h
  cases rx
  obtain ⟨its,r,ht,hz⟩:=I.tuple hx
  have hlen:its.toArray.size=xs.length:=by rw [List.size_toArray]; exact r.length.symm
  refine ⟨"tuple",_,PyProof.Rows.slot_tuple_getitem.lookup,ht.typeIs,?_⟩
  refine HT.Gg ht hs pl pu (by rw [hlen]; exact hw) ?_ (by rw [hlen]; exact hz)
  rw [hlen]
  refine ⟨.ref s.heap.objs.size,_,I.laid (t':=s.toks) (o:=.tup (Zv xs lo hi)) (fun b ob q=>Heap.get?_push_of_some _ q) (Nat.le_refl _) ?_,rfl,q _ (I.hok.fresh (Nat.le_refl _))⟩
  exact ⟨Nat.le_trans (Ie xs lo hi) hz,_,(r.drop (HT.sIx xs.length 0 lo)).take (HT.sIx xs.length xs.length hi - HT.sIx xs.length 0 lo),a07.new _ _⟩
noncomputable def aac (K:PySem.W.Frag):R2:=fun x y H Q=>∃ a b xs ys,x=.ref a∧y=.ref b∧SqT K H a xs∧SqT K H b ys∧xs≠[]∧xs.length+ys.length≤sizeLine ∧
  (ys=[]→Q (.ref a) H)∧(ys≠[]→∀ p,H p=none→Q (.ref p) (upd H p (.tup (xs++ys))))
theorem Vals.Rx {xs:List V} {us:List Value} (r:Vals xs us):us=[]↔xs=[]:=by
  cases r with
  | nil=>simp
  | cons _ _=>simp
theorem a4x:OpR X (binaryOp .Add) (aac X.K):=by
  intro pins s σ H x y v u Q I rx ry h
  obtain ⟨a,b,xs,ys,rfl,rfl,ha,hb,hx,hz,q1,q2⟩:=h
  cases rx
  cases ry
  obtain ⟨its,r1,p1,_⟩:=I.tuple ha
  obtain ⟨its2,r2,p2,_⟩:=I.tuple hb
  refine HT.a69 p1 p2 (fun z=>hx (r1.Rx.mp z)) (fun z=>⟨.ref a,H,I,rfl,q1 (r2.Rx.mp z)⟩) (fun z=>?_) (by rw [← r1.length,← r2.length]; exact hz)
  refine ⟨.ref s.heap.objs.size,_,I.laid (t':=s.toks) (o:=.tup (xs++ys)) (fun b ob q=>Heap.get?_push_of_some _ q) (Nat.le_refl _) ?_,rfl,q2 (fun w=>z (r2.Rx.mpr w)) _ (I.hok.fresh (Nat.le_refl _))⟩
  exact ⟨by rw [List.length_append]; exact hz,_,r1.append r2,a07.new _ _⟩
end
end L2
namespace L2
open PySem PySem.Spec PyProof.Rows
noncomputable def ixN (n:Nat) (i:Int):Option Nat:=if 0≤i then (if i<n then some i.toNat else none) else if -(n:Int)≤i then some (i+n).toNat else none
noncomputable def atI {α:Type} (xs:List α) (i:Int):Option α:=(ixN xs.length i).bind fun j=>xs[j]?
theorem a4u {n:Nat} {i:Int} {j:Nat} (h:ixN n i=some j):seqIndex? i n=some j∧j<n∧-(n:Int)≤i∧i<n:=by
  unfold ixN at h
  by_cases h0:0≤i
  · rw [if_pos h0] at h
    by_cases h1:i<n
    · rw [if_pos h1] at h
      have e:i.toNat=j:=Option.some.inj h
      exact ⟨by rw [seqIndex_of h0 h1,e],by omega,by omega,h1⟩
    · rw [if_neg h1] at h; cases h
  · rw [if_neg h0] at h
    by_cases h1:-(n:Int)≤i
    · rw [if_pos h1] at h
      have e:(i+n).toNat=j:=Option.some.inj h
      exact ⟨by rw [seqIndex_neg (by omega) h1,e],by omega,h1,by omega⟩
    · rw [if_neg h1] at h; cases h
theorem Qa {α:Type} {xs:List α} {i:Int} {v:α} (h:atI xs i=some v):∃ j,seqIndex? i xs.length=some j∧xs[j]? = some v∧j<xs.length∧-(xs.length:Int)≤i∧i<xs.length:=by
  unfold atI at h
  cases e:ixN xs.length i with
  | none=>rw [e] at h; cases h
  | some j =>
    rw [e] at h
    obtain ⟨h1,h2,h3,h4⟩:=a4u e
    exact ⟨j,h1,h,h2,h3,h4⟩
noncomputable def Yh (b:Expr):Prop:=∀ o i,subscripted b false o i=operate [o,i] (getItem o i)
noncomputable def IxR (X:Cx) (r:R2):Prop :=
  ∀ (value slice:Expr) (pins:List (Addr × Obj)) (s:Shared) (σ:St) (H:Hp) (x y:V) (v u:Value) (Q:VK),Inv X pins σ H s→RelV x v→RelV y u→r x y H Q →
    subscripted slice false v u=operate [v,u] (getItem v u)→wpAny (model X.prog X.w) X.A (subscriptTail value slice v u) (EP X pins σ Q) X.xe s
noncomputable def MtR (X:Cx) (id:String) (r:V→List V→Hp→VK→Prop):Prop :=
  ∀ (pins:List (Addr × Obj)) (s:Shared) (σ:St) (H:Hp) (x:V) (xs:List V) (v:Value) (us:List Value) (Q:VK),Inv X pins σ H s→RelV x v→Vals xs us→r x xs H Q →
    wpAny (model X.prog X.w) X.A (call (.builtin id) (v::us)) (EP X pins σ Q) X.xe s
noncomputable section
variable {X:Cx} {a b:Expr} {ta tb:TE} {pos:Pos}
theorem IxR.or {r r':R2} (h:IxR X r) (h':IxR X r'):IxR X (fun x y H Q=>r x y H Q∨r' x y H Q):=by
  intro value slice pins s σ H x y v u Q I rx ry q hs
  rcases q with q | q
  · exact h value slice pins s σ H x y v u Q I rx ry q hs
  · exact h' value slice pins s σ H x y v u Q I rx ry q hs
theorem MtR.or {id:String} {r r':V→List V→Hp→VK→Prop} (h:MtR X id r) (h':MtR X id r'):MtR X id (fun x xs H Q=>r x xs H Q∨r' x xs H Q):=by
  intro pins s σ H x xs v us Q I rx rs q
  rcases q with q | q
  · exact h pins s σ H x xs v us Q I rx rs q
  · exact h' pins s σ H x xs v us Q I rx rs q
theorem aag {r:R2} (hr:IxR X r) (ha:PE X a ta) (hb:PE X b tb) (hs:Yh b):PE X (.Subscript a b pos) (tOp r ta tb):=by
  intro pins s σ H Q I h
  exact Subscript_ (abb ha hb I h fun v u s2 x y H2 I2 rx ry q=>hr a b pins s2 σ H2 x y v u Q I2 rx ry q (hs _ _))
noncomputable def acw (K:PySem.W.Frag):R2:=fun x y H Q=>∃ p xs i v,x=.ref p∧y=.int i∧SqL K H p xs∧atI xs i=some v∧Q v H
noncomputable def acd (K:PySem.W.Frag):R2:=fun x y H Q=>∃ p xs i v,x=.ref p∧y=.int i∧SqT K H p xs∧atI xs i=some v∧Q v H
noncomputable def acf:R2:=fun x y H Q=>∃ z i c,x=.str z∧y=.int i∧z.length≤sizeLine∧atI z.cps.toList i=some c∧Q (.str ⟨#[c]⟩) H
theorem a5h:IxR X (acw X.K):=by
  intro value slice pins s σ H x y v u Q I rx ry h hs
  obtain ⟨p,xs,i,z,rfl,rfl,hq,he,q⟩:=h
  cases rx
  obtain ⟨t,rfl⟩:=ry
  obtain ⟨its,r,pl,hz⟩:=I.list hq
  obtain ⟨j,h1,h2,h3,h4,h5⟩:=Qa he
  obtain ⟨w,ew,rw'⟩:=r.get h2
  have hl:=r.length
  have hn:=Nk
  have fin:EP X pins σ Q w s:=⟨z,H,I,rw',q⟩
  by_cases h0:0≤i
  · have hj:i.toNat=j:=by
      rw [seqIndex_of h0 h5] at h1
      exact Option.some.inj h1
    exact item_listR pl.isList h0 (by omega) (by rw [hj]; simpa using ew) fin hs
  · have hj:(i+(its.toArray.size:Int)).toNat=j:=by
      rw [seqIndex_neg (by omega) h4] at h1
      rw [List.size_toArray,← hl]
      exact Option.some.inj h1
    exact subscriptTail_builtinR (x:=w) pl.isList.typeIs slot_list_getitem.lookup
      (wpAny_getItem_list_neg (Q:=fun r s'=>r=w∧EP X pins σ Q r s') pl.isList (by omega) (by rw [List.size_toArray] <;> omega) (by omega) (by rw [hj]; simpa using ew) ⟨rfl,fin⟩) hs
theorem a8l:IxR X (acd X.K):=by
  intro value slice pins s σ H x y v u Q I rx ry h hs
  obtain ⟨p,xs,i,z,rfl,rfl,hq,he,q⟩:=h
  cases rx
  obtain ⟨t,rfl⟩:=ry
  obtain ⟨its,r,pl,hz⟩:=I.tuple hq
  obtain ⟨j,h1,h2,h3,h4,h5⟩:=Qa he
  obtain ⟨w,ew,rw'⟩:=r.get h2
  have hl:=r.length
  have hn:=Nk
  have fin:EP X pins σ Q w s:=⟨z,H,I,rw',q⟩
  exact subscriptTail_builtinR (x:=w) pl.typeIs slot_tuple_getitem.lookup
    (getItem_tuple (j:=j) (Q:=fun r s'=>r=w∧EP X pins σ Q r s') pl (by omega) (by omega) (by rw [List.size_toArray,← hl]; exact h1) (by simpa using ew) ⟨rfl,fin⟩) hs
theorem a8e:IxR X acf:=by
  intro value slice pins s σ H x y v u Q I rx ry h hs
  obtain ⟨z,i,c,rfl,rfl,hz,he,q⟩:=h
  obtain ⟨t,rfl⟩:=rx
  obtain ⟨t',rfl⟩:=ry
  obtain ⟨j,h1,h2,h3,h4,h5⟩:=Qa he
  have hl:z.cps.toList.length=z.length:=by simp [Str.length]
  rw [hl] at h1 h4 h5
  have hn:=Nk
  exact tail_any (typeIs_str s z t) slot_str_getitem.lookup (getItem_str (c:=c) (by
    have e1:decide (i < -(2 ^ 63:Int))=false:=decide_eq_false (by omega)
    have e2:decide (i ≥ 2 ^ 63)=false:=decide_eq_false (by omega)
    rw [e1,e2,Bool.or_false]) (by rw [h1]; simpa using h2) ⟨.str ⟨#[c]⟩,H,I.tok _,⟨_,rfl⟩,q⟩) hs
theorem Inv.lst {pins:List (Addr × Obj)} {σ:St} {H:Hp} {s:Shared} {p:Addr} {xs:List V} (I:Inv X pins σ H s) (h:H p=some (.lst xs)) :
    ∃ (its:List Value) (n:Nat),Vals xs its∧s.heap.get? p=some { cls:=.type "list",data:=.seq its.toArray n }∧xs.length≤sizeLine:=by
  obtain ⟨z,its,n,r,e⟩:=I.hok p _ h
  exact ⟨its,n,r,e,z⟩
theorem O1 (lo hi:Option Int) (n:Nat):(sliceBounds lo hi none n).1=((HT.sIx n 0 lo:Nat):Int)∧(sliceBounds lo hi none n).2.1=((HT.sIx n n hi:Nat):Int)∧(sliceBounds lo hi none n).2.2=1:=by
  refine ⟨?_,?_,rfl⟩
  · cases lo with
    | none=>simp [sliceBounds,HT.sIx]
    | some i =>
      simp only [sliceBounds,HT.sIx,Option.getD_none,show (1:Int) > 0 by decide,if_true]
      by_cases h:i<0
      · simp only [h,if_true] <;> omega
      · simp only [h,if_false] <;> omega
  · cases hi with
    | none=>simp [sliceBounds,HT.sIx]
    | some i =>
      simp only [sliceBounds,HT.sIx,Option.getD_none,show (1:Int) > 0 by decide,if_true]
      by_cases h:i<0
      · simp only [h,if_true] <;> omega
      · simp only [h,if_false] <;> omega
theorem Kw (its:List Value) (lo hi:Option Int):slicePick its.toArray lo hi none=((its.drop (HT.sIx its.length 0 lo)).take (HT.sIx its.length its.length hi - HT.sIx its.length 0 lo)).toArray:=by
  obtain ⟨h1,h2,h3⟩:=O1 lo hi its.toArray.size
  unfold slicePick
  rw [h1,h2,h3]
  simp only [sliceRange_one,pick_run,List.size_toArray] <;> rfl
noncomputable def aco (K:PySem.W.Frag):V→Option Int→Option Int→Hp→VK→Prop:=fun x lo hi H Q=>∃ a xs,x=.ref a∧SqL K H a xs∧∀ p,H p=none→Q (.ref p) (upd H p (.lst (Zv xs lo hi)))
theorem a4l:SlR X (aco X.K):=by
  intro pins s σ H x v vl vu lo hi sl Q I rx hs pl pu h
  obtain ⟨a,xs,rfl,hx,q⟩:=h
  cases rx
  obtain ⟨its,r,ht,hz⟩:=I.list hx
  have hlen:=r.length
  refine ⟨"list",_,slot_list_getitem.lookup,ht.isList.typeIs,?_⟩
  refine wpAny_getItem_list_slice ht.isList hs pl pu .none (by simp) ?_ (by rw [List.size_toArray] <;> omega)
  rw [Kw,← hlen]
  refine ⟨.ref s.heap.objs.size,_,I.laid (t':=s.toks) (o:=.lst (Zv xs lo hi)) (fun b ob q=>Heap.get?_push_of_some _ q) (Nat.le_refl _) ?_,rfl,q _ (I.hok.fresh (Nat.le_refl _))⟩
  exact ⟨Nat.le_trans (Ie xs lo hi) hz,_,0,(r.drop (HT.sIx xs.length 0 lo)).take (HT.sIx xs.length xs.length hi - HT.sIx xs.length 0 lo),Heap.get?_push_size _ rfl⟩
theorem Bf:Eb X (.builtin "len") (fun xs H Q=>∃ p ys,xs=[.ref p]∧(SqL X.K H p ys∨SqT X.K H p ys)∧Q (.int ys.length) H):=by
  intro pins s σ H xs us Q I r h
  obtain ⟨p,ys,rfl,hq,q⟩:=h
  obtain ⟨u,rfl,rx⟩:=vals1 r
  cases rx
  have hn:=Nk
  rcases hq with hq | hq
  · obtain ⟨its,r',pl,hz⟩:=I.list hq
    have hlen:=r'.length
    exact Calls.call_len_list pl.isList (by simp only [List.size_toArray] <;> omega) ⟨.int ys.length,H,I.tok _,⟨s.toks+1,by rw [List.size_toArray,hlen]⟩,q⟩
  · obtain ⟨its,r',pl,hz⟩:=I.tuple hq
    have hlen:=r'.length
    exact len_tuple pl (by simp only [List.size_toArray] <;> omega) ⟨.int ys.length,H,I.tok _,⟨s.toks+1,by rw [List.size_toArray,hlen]⟩,q⟩
theorem Ni:Eb X (.builtin "len") (fun xs H Q=>∃ z,xs=[.str z]∧z.length≤sizeLine∧Q (.int z.length) H):=by
  intro pins s σ H xs us Q I r h
  obtain ⟨z,rfl,hz,q⟩:=h
  obtain ⟨u,rfl,t,rfl⟩:=vals1 r
  have hn:=Nk
  exact len_str (by omega) ⟨.int z.length,H,I.tok _,⟨_,rfl⟩,q⟩
theorem Eb.or {f:Value} {r r':List V→Hp→VK→Prop} (h:Eb X f r) (h':Eb X f r'):Eb X f (fun xs H Q=>r xs H Q∨r' xs H Q):=by
  intro pins s σ H xs us Q I rs q
  rcases q with q | q
  · exact h pins s σ H xs us Q I rs q
  · exact h' pins s σ H xs us Q I rs q
theorem Dn:Eb X (.type "list") (fun xs H Q=>∃ p ys,xs=[.ref p]∧(SqL X.K H p ys∨SqT X.K H p ys)∧∀ l,H l=none→Q (.ref l) (upd H l (.lst ys))):=by
  intro pins s σ H xs us Q I r h
  obtain ⟨p,ys,rfl,hq,q⟩:=h
  obtain ⟨u,rfl,rx⟩:=vals1 r
  cases rx
  have fin:∀ (its:List Value),Vals ys its→ys.length≤sizeLine→∀ (h':Heap) (c':Nat),(∀ b o',s.heap.get? b=some o'→h'.get? b=some o') →
      h'.get? s.heap.objs.size=some { cls:=.type "list",dict:=none,data:=.seq its.toArray c',slots:=#[] }→EP X pins σ Q (.ref s.heap.objs.size) { s with heap:=h' }:=fun its r' hz h' c' kp e =>
    ⟨.ref s.heap.objs.size,_,I.laid (t':=s.toks) kp (Nat.le_refl _) (show yw X.prog X.w _ h' _ (.lst ys) from ⟨hz,its,c',r',e⟩),rfl,q _ (I.hok.fresh (Nat.le_refl _))⟩
  rcases hq with hq | hq
  · obtain ⟨its,r',pl,hz⟩:=I.list hq
    have hlen:=r'.length
    obtain ⟨o,ho,hc,n,hd⟩:=pl.isList
    exact call_list_seq p (.inl rfl) ho hc hd (fun h' c' kp e=>fin its r' hz h' c' kp e) (by simp only [List.size_toArray] <;> omega)
  · obtain ⟨its,r',pl,hz⟩:=I.tuple hq
    have hlen:=r'.length
    obtain ⟨o,ho,hc,n,hd⟩:=pl
    exact call_list_seq p (.inr rfl) ho hc hd (fun h' c' kp e=>fin its r' hz h' c' kp e) (by simp only [List.size_toArray] <;> omega)
theorem G4:Eb X (.type "tuple") (fun xs H Q=>∃ p ys,xs=[.ref p]∧((SqL X.K H p ys∧∀ l,H l=none→Q (.ref l) (upd H l (.tup ys)))∨(SqT X.K H p ys∧Q (.ref p) H))):=by
  intro pins s σ H xs us Q I r h
  obtain ⟨p,ys,rfl,h⟩:=h
  obtain ⟨u,rfl,rx⟩:=vals1 r
  cases rx
  rcases h with ⟨hq,q⟩ | ⟨hq,q⟩
  · obtain ⟨its,r',pl,hz⟩:=I.list hq
    have hlen:=r'.length
    refine call_tuple_list pl.isList (fun h' kp=>?_) (by simp only [List.size_toArray] <;> omega)
    have I1:Inv X pins σ H { s with heap:=h' }:=I.kept (t':=s.toks) kp
    have I2:Inv X pins σ (upd H h'.objs.size (.tup ys)) { s with heap:=h'.push { cls:=.type "tuple",data:=.seq its.toArray } } :=
      I1.laid (t':=s.toks) (fun b o e=>Heap.get?_push_of_some _ e) (Nat.le_refl _) (show yw X.prog X.w _ _ _ (.tup ys) from ⟨hz,its,r',a07.new _ _⟩)
    exact ⟨.ref h'.objs.size,_,I2,rfl,q _ (I1.hok.fresh (Nat.le_refl _))⟩
  · obtain ⟨its,r',pl,hz⟩:=I.tuple hq
    exact call_tuple_same pl ⟨.ref p,H,I,rfl,q⟩
noncomputable def tyV (K:PySem.W.Frag) (T:String) (x:V) (H:Hp):Prop:=match x with
  | .str _=>T = "str"
  | .int _=>T = "int"
  | .ref p=>(T = "list" ∧ ∃ xs,SqL K H p xs)∨(T = "tuple" ∧ ∃ o,K.lookup p=some o∧o.cls=.type "tuple" ∧ o.dict=none) ∨
      (T = "dict" ∧ ((∃ kvs,H p=some (.dK kvs))∨∃ kvs,H p=some (.dT kvs)))∨(T = "set" ∧ ∃ S n,H p=some (.set S n))
  | _=>False
theorem a2z {pins:List (Addr × Obj)} {σ:St} {H:Hp} {s:Shared} {T:String} {x:V} {v:Value} (I:Inv X pins σ H s) (r:RelV x v) (ty:tyV X.K T x H) :
    s.TypeIs v T∧∀ a,v=.ref a→∃ ob,s.heap.get? a=some ob∧ob.dict=none:=by
  cases x with
  | str z =>
    obtain ⟨t,rfl⟩:=r
    cases (show T = "str" from ty)
    exact ⟨typeIs_str s z t,fun _ e=>nomatch e⟩
  | int i =>
    obtain ⟨t,rfl⟩:=r
    cases (show T = "int" from ty)
    exact ⟨typeIs_int s i t,fun _ e=>nomatch e⟩
  | ref p =>
    cases r
    rcases ty with ⟨rfl,xs,hq⟩ | ⟨rfl,o,hk,hc,hd⟩ | ⟨rfl,hk⟩ | ⟨rfl,S,n,hk⟩
    · obtain ⟨its,_,pl,_⟩:=I.list hq
      refine ⟨pl.isList.typeIs,fun a e=>?_⟩
      cases e
      obtain ⟨o,n,e,c,hd,_⟩:=pl
      exact ⟨o,e,hd⟩
    · refine ⟨⟨o,I.kIn p o hk,hc⟩,fun a e=>?_⟩
      cases e
      exact ⟨o,I.kIn _ o hk,hd⟩
    · have z:∃ o,s.heap.get? p=some o∧o.ExactDict:=by
        rcases hk with ⟨kvs,hk⟩ | ⟨kvs,hk⟩
        · obtain ⟨_,_,_,_,o,_,_,e,ex,_⟩:=I.hok p _ hk
          exact ⟨o,e,ex⟩
        · obtain ⟨_,_,_,_,o,_,_,e,ex,_⟩:=I.hok p _ hk
          exact ⟨o,e,ex⟩
      obtain ⟨o,e,ex⟩:=z
      refine ⟨⟨o,e,ex.1⟩,fun a e2=>?_⟩
      cases e2
      exact ⟨o,e,ex.2.1⟩
    · obtain ⟨o,_,_,_,e,ex,_⟩:=I.hok p _ hk
      refine ⟨⟨o,e,ex.1⟩,fun a e2=>?_⟩
      cases e2
      exact ⟨o,e,ex.2.1⟩
  | _=>exact False.elim ty
noncomputable def ab5 (K:PySem.W.Frag) (T:String) (r:V→List V→Hp→VK→Prop) (to:TE):TE:=fun σ H Q=>to σ H fun x H1=>tyV K T x H1∧r x [] H1 Q
noncomputable def tBM (K:PySem.W.Frag) (T:String) (r:V→List V→Hp→VK→Prop) (to:TE) (t:TA):TE:=fun σ H Q=>to σ H fun x H1=>tyV K T x H1∧t σ H1 fun xs H2=>r x xs H2 Q
variable {o e:Expr} {es:List Expr} {to:TE} {t:TA} {name:Str} {apos cpos:Pos} {T id:String} {r:V→List V→Hp→VK→Prop}
theorem Wx (pa:PlainAttrs T) (slot:Slot T name id) (hty:typeOf (.builtin id)=pure (.type "method_descriptor")) (hm:MtR X id r) (ho:PE X o to)
    (hbase:attributeBase o name X.env (eval o X.env)=eval o X.env:=by rfl) (hline:(apos.endLine==cpos.line)=true:=by rfl):PE X (.Call (.Attribute o name apos) [] [] cpos) (ab5 X.K T r to):=by
  intro pins s σ H Q I h
  refine wpAny_Call_method0_late hbase hline (thn (ho pins s σ H _ I h) fun v s1 z0=>?_)
  obtain ⟨x,H1,I1,r1,ty,q1⟩:=z0
  obtain ⟨h1,h2⟩:=a2z I1 r1 ty
  exact ⟨T,id,pa,slot,hty,h1,h2,Calls.callWith_builtin rfl (PySem.evalArgs_none (hm pins s1 σ H1 x [] v [] Q I1 r1 .nil q1))⟩
theorem Ew (pa:PlainAttrs T) (slot:Slot T name id) (hty:typeOf (.builtin id)=pure (.type "method_descriptor")) (hm:MtR X id r) (ho:PE X o to) (ha:PA X (e::es) t)
    (hbase:attributeBase o name X.env (eval o X.env)=eval o X.env:=by rfl)
    (hfew:((backTo cpos (starEach (e::es) X.env)).all (fun x=>!x.1)&&(backToKw cpos (keywordEach [] X.env)).all (fun x=>x.1.isSome)
      && decide ((e::es).length+([]:List Keyword).length+(if ([]:List Keyword).isEmpty then 0 else 1)<30))=true:=by rfl)
    (hline:(apos.endLine==cpos.line)=true:=by rfl) (hs:starEach (e::es) X.env=(false,eval e X.env)::starEach es X.env:=by rfl) (hplain:(backTo cpos (starEach es X.env)).any (·.1)=false:=by rfl) :
    PE X (.Call (.Attribute o name apos) (e::es) [] cpos) (tBM X.K T r to t):=by
  intro pins s σ H Q I h
  refine wpAny_Call_method_late hbase hfew hline rfl (thn (ho pins s σ H _ I h) fun v s1 z0=>?_)
  obtain ⟨x,H1,I1,r1,ty,q1⟩:=z0
  obtain ⟨h1,h2⟩:=a2z I1 r1 ty
  refine ⟨T,id,pa,slot,hty,h1,h2,?_⟩
  have hA:=ha cpos pins s1 σ H1 _ I1 q1
  rw [hs] at hA ⊢
  refine Calls.callWith_builtin (by show (false||(backTo cpos (starEach es X.env)).any (·.1))=false; rw [hplain] <;> rfl) (Calls.evalArgs_plain ?_)
  exact thn hA fun us s2 ⟨vs,H2,I2,r2,q2⟩=>hm pins s2 σ H2 x vs v us Q I2 r1 r2 q2
end
end L2
namespace L2
open PySem PySem.Spec PyProof.Rows
noncomputable def MtM (X:Cx) (id:String) (r:V→List V→Hp→VK→Prop):Prop :=
  ∀ (pins:List (Addr × Obj)) (s:Shared) (σ:St) (H:Hp) (x:V) (xs:List V) (v:Value) (us:List Value) (Q:VK),Inv X pins σ H s→RelV x v→Vals xs us→r x xs H Q →
    wpAny (model X.prog X.w) X.A (call (.builtin id) (v::us)) (EP X pins σ Q) X.xe s
theorem Vals.one {x:V} {us:List Value} (h:Vals [x] us):∃ u,us=[u]∧RelV x u:=by
  cases h with
  | cons r t=>cases t; exact ⟨_,rfl,r⟩
theorem Vals.two {x y:V} {us:List Value} (h:Vals [x,y] us):∃ u v,us=[u,v]∧RelV x u∧RelV y v:=by
  cases h with
  | cons r t=>obtain ⟨v,e,q⟩:=Vals.one t; exact ⟨_,v,congrArg _ e,r,q⟩
theorem Vals.zero:∀ {us:List Value},Vals [] us→us=[]
  | _,.nil=>rfl
theorem Vals.dropLast {xs:List V} {us:List Value} (h:Vals xs us):Vals xs.dropLast us.dropLast:=by
  induction h with
  | nil=>exact .nil
  | cons r t ih =>
    cases t with
    | nil=>exact .nil
    | cons q t'=>exact .cons r ih
theorem Vals.reverse {xs:List V} {us:List Value} (h:Vals xs us):Vals xs.reverse us.reverse:=by
  induction h with
  | nil=>exact .nil
  | cons r t ih=>rw [List.reverse_cons,List.reverse_cons]; exact Vals.append ih (.cons r .nil)
theorem Vals.rep {xs:List V} {us:List Value} (h:Vals xs us):∀ k:Nat,Vals (List.replicate k xs).flatten (List.replicate k us).flatten
  | 0=>.nil
  | k+1=>by
    rw [List.replicate_succ,List.replicate_succ,List.flatten_cons,List.flatten_cons]
    exact Vals.append h (Vals.rep h k)
theorem Uz {α:Type} (l:List α):l.eraseIdx (l.length - 1)=l.dropLast:=by
  induction l with
  | nil=>rfl
  | cons a r ih =>
    cases r with
    | nil=>rfl
    | cons b r =>
      have e:(a::b::r).length - 1=((b::r).length - 1)+1:=by
        have h1:(a::b::r).length=r.length+2:=rfl
        have h2:(b::r).length=r.length+1:=rfl
        omega
      rw [e,List.eraseIdx_cons_succ,ih]
      all_goals rfl
noncomputable section
variable {X:Cx} {pins:List (Addr × Obj)} {σ:St} {H:Hp} {s:Shared} {l b:Addr} {xs ys zs:List V}
theorem Inv.aah {its its':List Value} {n:Nat} {f:Array Value→Array Value} {t':Nat} (I:Inv X pins σ H s) (hH:H l=some (.lst xs))
    (e:s.heap.get? l=some { cls:=.type "list",data:=.seq its.toArray n }) (hf:f its.toArray=its'.toArray) (hv:Vals ys its') (hz:ys.length≤sizeLine) :
    Inv X pins σ (upd H l (.lst ys)) { s with heap:=s.heap.update l (Obj.mapSeq f),toks:=t' }:=by
  have q:=PySem.IsL.update e f
  rw [hf] at q
  refine I.write (x:=l) (e:=l) (by rw [hH]; exact trivial) (.inl rfl) (fun b' u hb hu=>(Heap.get?_update_other s.heap (Obj.mapSeq f) (Ne.symm hb)).trans hu) ⟨_,q⟩ ?_
  exact ⟨hz,its',_,hv,q⟩
theorem Inv.acr {its:List Value} {t':Nat} (I:Inv X pins σ H s) (hv:Vals ys its) (hz:ys.length≤sizeLine) :
    Inv X pins σ (upd H s.heap.objs.size (.lst ys)) { s with heap:=s.heap.push { cls:=.type "list",data:=.seq its.toArray },toks:=t' } :=
  I.laid (fun _ _ q=>Heap.get?_push_of_some _ q) (Nat.le_refl _) ⟨hz,its,0,hv,Heap.get?_push_size _ rfl⟩
theorem Inv.fresh (I:Inv X pins σ H s):H s.heap.objs.size=none:=I.hok.fresh (Nat.le_refl _)
theorem Inv.a9z (I:Inv X pins σ H s) (hH:H l=some (.lst xs)):xs.length≤sizeLine∧∃ (its:List Value) (n:Nat),Vals xs its∧xs.length=its.length∧s.heap.get? l=some { cls:=.type "list",data:=.seq its.toArray n }:=by
  obtain ⟨z,its,n,r,e⟩:=I.hok l _ hH
  exact ⟨z,its,n,r,r.length,e⟩
theorem a2b {n:Nat} (h:n≤sizeLine):Builtin.List.listTooLong n=false:=by
  unfold Builtin.List.listTooLong
  exact decide_eq_false (by omega)
end
noncomputable section
variable {X:Cx}
noncomputable def Yd:V→List V→Hp→VK→Prop:=fun x vs H Q=>∃ l xs y,x=.ref l∧vs=[y]∧H l=some (.lst xs)∧xs.length<sizeLine∧Q .non (upd H l (.lst (xs++[y])))
theorem v9:MtM X "list.append" Yd:=by
  intro pins s σ H x vs v us Q I rx rv h
  obtain ⟨l,xs,y,rfl,rfl,hH,hz,q⟩:=h
  cases rx
  obtain ⟨u,rfl,ru⟩:=rv.one
  obtain ⟨z,its,n,r,hl,e⟩:=I.a9z hH
  refine call_meets F.slot_list_append ⟨_,e,rfl⟩ F.entry_list_append (F.args_list_append_2 _ _) (PySem.list_append l its.toArray n u (by rw [List.size_toArray]; omega)) ⟨e,?_⟩
  refine ⟨.non,_,I.aah (its':=its++[u]) hH e (by simp) (r.append (.cons ru .nil)) ?_,rfl,q⟩
  rw [List.length_append,List.length_singleton]
  omega
noncomputable def aax:V→List V→Hp→VK→Prop:=fun x vs H Q=>∃ l xs y,x=.ref l∧vs=[]∧H l=some (.lst xs)∧xs[xs.length - 1]? = some y∧Q y (upd H l (.lst xs.dropLast))
theorem Xn:MtM X "list.pop" aax:=by
  intro pins s σ H x vs v us Q I rx rv h
  obtain ⟨l,xs,y,rfl,rfl,hH,hy,q⟩:=h
  cases rx
  have hus:=rv.zero
  subst hus
  obtain ⟨z,its,n,r,hl,e⟩:=I.a9z hH
  obtain ⟨u,hu,ru⟩:=r.get hy
  have hy':its.toArray[its.toArray.size - 1]? = some u:=by
    show its.toArray[its.length - 1]? = some u
    rw [← Array.getElem?_toList,← hl]
    exact hu
  refine call_meets F.slot_list_pop ⟨_,e,rfl⟩ F.entry_list_pop (F.args_list_pop_1 _) (MeetsSeq.list_pop_last l its.toArray n u hy' (by rw [List.size_toArray]; omega)) ⟨e,?_⟩
  refine ⟨y,_,I.aah (its':=its.dropLast) hH e ?_ r.dropLast ?_,ru,q⟩
  · show its.toArray.eraseIdxIfInBounds (its.toArray.size - 1)=its.dropLast.toArray
    rw [List.size_toArray,List.eraseIdxIfInBounds_toArray,Uz]
  · rw [List.length_dropLast]
    omega
end
noncomputable section
variable {prog:Program} {w:World} {A:Around} {E:Value→Shared→Prop} {s:Shared}
end
noncomputable section
variable {X:Cx}
end
end L2
end
noncomputable section
set_option linter.all false
set_option maxRecDepth 100000
namespace L2
open PySem PySem.Spec PyProof.Rows
noncomputable section
variable {κ:Type} [DecidableEq κ]
noncomputable def Qv (kvs:List (κ × V)) (k:κ):Option V:=(kvs.find? fun kv=>decide (kv.1=k)).map (·.2)
noncomputable def putK (kvs:List (κ × V)) (k:κ) (v:V):List (κ × V) :=
  if (kvs.any fun kv=>decide (kv.1=k))=true then kvs.map (fun kv=>if kv.1=k then (kv.1,v) else kv) else kvs++[(k,v)]
theorem Ht {p:κ × V} {r:List (κ × V)} {k:κ} (e:p.1=k):Qv (p::r) k=some p.2:=by simp [Qv,List.find?_cons,e]
theorem Hs {p:κ × V} {r:List (κ × V)} {k:κ} (e:¬ p.1=k):Qv (p::r) k=Qv r k:=by simp [Qv,List.find?_cons,e]
theorem T4 (k:κ):∀ kvs:List (κ × V),(kvs.any fun kv=>decide (kv.1=k))=(Qv kvs k).isSome
  | []=>rfl
  | p::r=>by
    rw [List.any_cons]
    by_cases e:p.1=k
    · simp only [Ht e,decide_eq_true e,Bool.true_or,Option.isSome_some]
    · rw [Hs e,decide_eq_false e,Bool.false_or]; exact T4 k r
theorem Ji (kvs:List (κ × V)) (k:κ) (v:V):(putK kvs k v).length≤kvs.length+1:=by
  unfold putK
  split
  · rw [List.length_map]; omega
  · rw [List.length_append,List.length_cons,List.length_nil]; omega
theorem Ph.Wv {o:Option V} {u:Option Value} (r:Ph o u):o.isSome=u.isSome:=by
  cases o with
  | none=>cases u with
    | none=>rfl
    | some _=>exact (show False from r).elim
  | some _=>cases u with
    | none=>exact (show False from r).elim
    | some _=>rfl
theorem Ph.getD {o:Option V} {u:Option Value} {d:V} {d':Value} (r:Ph o u) (rd:RelV d d'):RelV (o.getD d) (u.getD d'):=by
  cases o with
  | none=>cases u with
    | none=>exact rd
    | some _=>exact (show False from r).elim
  | some _=>cases u with
    | none=>exact (show False from r).elim
    | some _=>exact r
theorem KV.val {kvs:List (κ × V)} {vs:List (κ × Value)} (r:KV kvs vs) (k:κ):Ph (Qv kvs k) (valueAt vs k):=by
  unfold KV at r
  induction r with
  | nil=>exact True.intro
  | @cons p q ps qs h t ih =>
    obtain ⟨h1,h2⟩:=h
    by_cases e:p.1=k
    · have e':q.1=k:=h1.symm.trans e
      have b:valueAt (q::qs) k=some q.2:=by simp [valueAt,List.find?_cons,e']
      rw [Ht e,b]; exact h2
    · have e':¬ q.1=k:=fun z=>e (h1.trans z)
      have b:valueAt (q::qs) k=valueAt qs k:=by simp [valueAt,List.find?_cons,e']
      rw [Hs e,b]; exact ih
theorem KV.any {kvs:List (κ × V)} {vs:List (κ × Value)} (r:KV kvs vs) (k:κ):(kvs.any fun kv=>decide (kv.1=k))=vs.any fun kv=>decide (kv.1=k):=by
  unfold KV at r
  induction r with
  | nil=>rfl
  | cons h t ih=>rw [List.any_cons,List.any_cons,ih,h.1]
theorem KV.repl {kvs:List (κ × V)} {vs:List (κ × Value)} (r:KV kvs vs) (k:κ) {y:V} {u:Value} (ry:RelV y u) :
    KV (kvs.map fun kv=>if kv.1=k then (kv.1,y) else kv) (vs.map fun kv=>if kv.1=k then (kv.1,u) else kv):=by
  unfold KV at r ⊢
  induction r with
  | nil=>exact .nil
  | @cons p q ps qs h t ih =>
    rw [List.map_cons,List.map_cons]
    refine .cons ?_ ih
    obtain ⟨h1,h2⟩:=h
    by_cases e:p.1=k
    · rw [if_pos e,if_pos (h1.symm.trans e)]; exact ⟨h1,ry⟩
    · rw [if_neg e,if_neg (fun z=>e (h1.trans z))]; exact ⟨h1,h2⟩
theorem KV.put {kvs:List (κ × V)} {vs:List (κ × Value)} (r:KV kvs vs) (k:κ) {y:V} {u:Value} (ry:RelV y u):KV (putK kvs k y) (stored vs k u):=by
  unfold putK stored
  rw [r.any k]
  by_cases e:(vs.any fun kv=>decide (kv.1=k))=true
  · rw [if_pos e,if_pos e]; exact r.repl k ry
  · rw [if_neg e,if_neg e]; exact Paired.snoc r ⟨rfl,ry⟩
theorem KV.keys {kvs:List (κ × V)} {vs:List (κ × Value)} (r:KV kvs vs):kvs.map (·.1)=vs.map (·.1):=by
  unfold KV at r
  induction r with
  | nil=>rfl
  | cons h t ih=>rw [List.map_cons,List.map_cons,ih,h.1]
theorem KV.length {kvs:List (κ × V)} {vs:List (κ × Value)} (r:KV kvs vs):kvs.length=vs.length:=Paired.length r
end
theorem a2m {P:Program} {w:World} {k:Key} {u:Value} (r:RelV (kV k) u):(v8 P w).is k u=true:=by
  cases k with
  | inl i=>obtain ⟨t,e⟩:=(show ∃ t,u=Value.int i t from r); subst e; exact Py P w i t
  | inr x=>obtain ⟨t,e⟩:=(show ∃ t,u=Value.str x t from r); subst e; exact Qh P w x t
theorem Ms {P:Program} {w:World}:∀ {ks:List Key} {us:List Value},Vals (ks.map kV) us→ItemsAre (v8 P w) ks us
  | [],_,r=>by rw [List.map_nil] at r; cases r; exact .nil
  | k::ks,_,r=>by
    rw [List.map_cons] at r
    cases r with
    | cons h t=>exact .cons (a2m h) (Ms t)
noncomputable abbrev KT (H:Hp):List (List Key × V)→List (List Key × Addr × Value)→Prop:=Paired fun p q=>p.1=q.1∧H q.2.1=some (.tup (p.1.map kV))∧RelV p.2 q.2.2
theorem KT.val {H:Hp} {kvs:List (List Key × V)} {xs:List (List Key × Addr × Value)} (r:KT H kvs xs) (k:List Key):Ph (Qv kvs k) ((atKey xs k).map (·.2)):=by
  induction r with
  | nil=>exact True.intro
  | @cons p q ps qs h t ih =>
    obtain ⟨h1,_,h2⟩:=h
    by_cases e:p.1=k
    · have e':q.1=k:=h1.symm.trans e
      have b:atKey (q::qs) k=some q.2:=by simp [atKey,List.find?_cons,e']
      rw [Ht e,b]; exact h2
    · have e':¬ q.1=k:=fun z=>e (h1.trans z)
      have b:atKey (q::qs) k=atKey qs k:=by simp [atKey,List.find?_cons,e']
      rw [Hs e,b]; exact ih
theorem KT.repl {H:Hp} {kvs:List (List Key × V)} {xs:List (List Key × Addr × Value)} (r:KT H kvs xs) (k:List Key) {y:V} {u:Value} (ry:RelV y u) :
    KT H (kvs.map fun kv=>if kv.1=k then (kv.1,y) else kv) (xs.map (putAt k u)):=by
  induction r with
  | nil=>exact .nil
  | @cons p q ps qs h t ih =>
    rw [List.map_cons,List.map_cons]
    refine .cons ?_ ih
    obtain ⟨h1,h2,h3⟩:=h
    unfold putAt
    by_cases e:p.1=k
    · rw [if_pos e,if_pos (h1.symm.trans e)]; exact ⟨h1,h2,ry⟩
    · rw [if_neg e,if_neg (fun z=>e (h1.trans z))]; exact ⟨h1,h2,h3⟩
theorem KT.put {H:Hp} {kvs:List (List Key × V)} {xs:List (List Key × Addr × Value)} (r:KT H kvs xs) (k:List Key) {b:Addr} {y:V} {u:Value} (hb:H b=some (.tup (k.map kV))) (ry:RelV y u) :
    KT H (putK kvs k y) (storedH xs k b u):=by
  have e:(kvs.any fun kv=>decide (kv.1=k))=(atKey xs k).isSome:=by
    rw [T4,(r.val k).Wv,Option.isSome_map]
  unfold putK storedH
  rw [e]
  by_cases q:(atKey xs k).isSome=true
  · rw [if_pos q,if_pos q]; exact r.repl k ry
  · rw [if_neg q,if_neg q]; exact Paired.snoc r ⟨rfl,hb,ry⟩
theorem KT.keeps {H H':Hp} {kvs:List (List Key × V)} {xs:List (List Key × Addr × Value)} (r:KT H kvs xs) (ht:∀ b ys,H b=some (.tup ys)→H' b=some (.tup ys)):KT H' kvs xs :=
  Paired.abr r fun _ _ z=>⟨z.1,ht _ _ z.2.1,z.2.2⟩
noncomputable section
variable {P:Program} {w:World} {H:Hp} {h:Heap} {a:Addr}
theorem a8t {u:HO} (ok:HOk P w H h) (e:Rd H a u):yw P w H h a u:=e.ok ok
theorem K4 {kvs:List (Key × V)} (ok:HOk P w H h) (e:Rd H a (.dK kvs)):kvs.length≤sizeLine∧(a==sysModules)=false∧∃ vs,KV kvs vs∧h.DictOf (v8 P w) a vs :=
  show yw P w H h a (.dK kvs) from a8t ok e
theorem aaz {kvs:List (Key × V)} (ok:HOk P w H h) (e:H a=some (.dK kvs)):kvs.length≤sizeLine∧(a==sysModules)=false∧∃ vs,KV kvs vs∧h.DictOf (v8 P w) a vs:=K4 ok (.inl e)
theorem U7 {ks:List Key} (ok:HOk P w H h) (e:H a=some (.tup (ks.map kV))):(tupleKind (v8 P w)).is h ks a:=by
  obtain ⟨_,its,r,o,h1,h2,_,n,h3⟩:=(show yw P w H h a (.tup (ks.map kV)) from ok a _ e)
  exact ⟨o,its.toArray,n,h1,h2,h3,by simpa using Ms r⟩
theorem Z6 {kvs:List (List Key × V)} (ok:HOk P w H h) (e:Rd H a (.dT kvs)):kvs.length≤sizeLine∧(a==sysModules)=false ∧
    ∃ xs,KT H kvs xs∧h.DictOfH (tupleKind (v8 P w)) a xs:=by
  obtain ⟨z,y,xs,r,o,es,ep,h1,h2,h3,h4,h5⟩:=(show yw P w H h a (.dT kvs) from a8t ok e)
  refine ⟨z,y,xs,r,o,es,ep,h1,h2,h3,h4,fun x hx=>?_,h5⟩
  have all:∀ {l:List (List Key × V)} {m:List (List Key × Addr × Value)},KT H l m→∀ x∈m,(tupleKind (v8 P w)).is h x.1 x.2.1:=by
    intro l m q
    induction q with
    | nil=>intro x hx; exact nomatch hx
    | @cons p q ps qs hq t ih =>
      intro x hx
      rcases List.mem_cons.mp hx with e | hx
      · subst e
        exact U7 ok (by rw [← hq.1]; exact hq.2.1)
      · exact ih x hx
  exact all r x hx
theorem aa2 {kvs:List (List Key × V)} (ok:HOk P w H h) (e:H a=some (.dT kvs)):kvs.length≤sizeLine∧(a==sysModules)=false ∧
    ∃ xs,KT H kvs xs∧h.DictOfH (tupleKind (v8 P w)) a xs:=Z6 ok (.inl e)
end
noncomputable def a0k (H:Hp) (a:Addr) (y:V) (r:Option V):Prop :=
  (∃ kvs k,Rd H a (.dK kvs)∧y=kV k∧r=Qv kvs k)∨∃ kvs k b,Rd H a (.dT kvs)∧y=.ref b∧H b=some (.tup (k.map kV))∧r=Qv kvs k
noncomputable def a6y (H:Hp) (a:Addr) (y v:V) (H':Hp):Prop :=
  (∃ kvs k,H a=some (.dK kvs)∧y=kV k∧kvs.length<sizeLine∧H'=upd H a (.dK (putK kvs k v))) ∨
  ∃ kvs k b,H a=some (.dT kvs)∧y=.ref b∧H b=some (.tup (k.map kV))∧kvs.length<sizeLine∧H'=upd H a (.dT (putK kvs k v))
theorem a0k.k {H:Hp} {a:Addr} {kvs:List (Key × V)} {k:Key} (e:H a=some (.dK kvs)):a0k H a (kV k) (Qv kvs k):=.inl ⟨kvs,k,.inl e,rfl,rfl⟩
theorem a0k.t {H:Hp} {a b:Addr} {kvs:List (List Key × V)} {k:List Key} (e:H a=some (.dT kvs)) (eb:H b=some (.tup (k.map kV))):a0k H a (.ref b) (Qv kvs k):=.inr ⟨kvs,k,b,.inl e,rfl,eb,rfl⟩
theorem a6y.k {H:Hp} {a:Addr} {kvs:List (Key × V)} {k:Key} {v:V} (e:H a=some (.dK kvs)) (hl:kvs.length<sizeLine):a6y H a (kV k) v (upd H a (.dK (putK kvs k v))):=.inl ⟨kvs,k,e,rfl,hl,rfl⟩
theorem a6y.t {H:Hp} {a b:Addr} {kvs:List (List Key × V)} {k:List Key} {v:V} (e:H a=some (.dT kvs)) (eb:H b=some (.tup (k.map kV))) (hl:kvs.length<sizeLine) :
    a6y H a (.ref b) v (upd H a (.dT (putK kvs k v))):=.inr ⟨kvs,k,b,e,rfl,eb,hl,rfl⟩
noncomputable section
variable {X:Cx} {pins:List (Addr × Obj)} {σ:St} {H:Hp} {s:Shared} {a:Addr} {y v:V} {u r:Value} {o:Option V} {A:Around} {E:Value→Shared→Prop}
theorem Inv.big (I:Inv X pins σ H s):sysModules<s.heap.objs.size:=by
  have h:mainGlobals<s.heap.objs.size:=(I.mod.glob.keeps I.bk).lt
  exact Nat.lt_trans (by decide) h
theorem Xv {Q:Value→Shared→Prop} (hu:A.units+1<cLine) (I:Inv X pins σ H s) (g:a0k H a y (some v)) (ry:RelV y u) (h:∀ w' s',Inv X pins σ H s'→RelV v w'→Q w' s') :
    wpAny (model X.prog X.w) A (getItem (.ref a) u) Q E s:=by
  rcases g with ⟨kvs,k,e,ey,l⟩ | ⟨kvs,k,b,e,ey,eb,l⟩
  · subst ey
    obtain ⟨z,hd,vs,rel,dd⟩:=K4 I.hok e
    obtain ⟨w',hw,rw'⟩:=Ph.some_of (v:=v) (o:=valueAt vs k) (by rw [l]; exact rel.val k)
    exact wpAny_getItem_of (a2m ry) dd.mapOf hw (h w' _ (I.tok _) rw')
  · subst ey
    cases (show u=Value.ref b from ry)
    obtain ⟨z,hd,xs,rel,dd⟩:=Z6 I.hok e
    obtain ⟨w',hw,rw'⟩:=Ph.some_of (v:=v) (o:=(atKey xs k).map (·.2)) (by rw [l]; exact rel.val k)
    obtain ⟨p,hp,hp2⟩:=Option.map_eq_some_iff.mp hw
    refine wpAny_getItem_heap (tupleKind_room_in1 hu) (U7 I.hok eb) dd hp ?_
    rw [hp2]
    exact h w' _ (I.tok _) rw'
theorem Wi {h':Heap} {t':Nat} {ob:HO} (I:Inv X pins σ H s) (mu:Mut (H a)) (hs:Heap.SameBut a s.heap h') (he:∃ q,h'.get? a=some q) (new:yw X.prog X.w (upd H a ob) h' a ob) :
    Inv X pins σ (upd H a ob) { s with heap:=h',toks:=t' } :=
  I.write (x:=a) (e:=a) mu (.inl rfl) (fun b q hb z=>(hs.2 b hb).trans z) he new
theorem a7i {P:Program} {w:World} {H':Hp} {h':Heap} {kvs:List (Key × V)} {vs:List (Key × Value)} (z:kvs.length≤sizeLine) (hd:(a==sysModules)=false) (rel:KV kvs vs) (dd:h'.DictOf (v8 P w) a vs) :
    yw P w H' h' a (.dK kvs):=⟨z,hd,vs,rel,dd⟩
theorem X8 {H':Hp} {Q:Unit→Shared→Prop} (hu:A.units+1<cLine) (I:Inv X pins σ H s) (g:a6y H a y v H') (ry:RelV y u) (rv:RelV v r) (h:∀ s',Inv X pins σ H' s'→Q () s') :
    wpAny (model X.prog X.w) A (setItem (.ref a) u r) Q E s:=by
  rcases g with ⟨kvs,k,e,ey,l,eH⟩ | ⟨kvs,k,b,e,ey,eb,l,eH⟩
  · subst ey eH
    obtain ⟨z,hd,vs,rel,dd⟩:=aaz I.hok e
    have hz:vs.length≤sizeLine:=by rw [← rel.length]; exact z
    have hl:(putK kvs k v).length≤sizeLine:=by have:=Ji kvs k v; omega
    refine wpAny_setItem_pairs (hsz:=hz) (a2m ry) dd fun h' dd' hs=>h _ ?_
    have he:∃ q,h'.get? a=some q:=let ⟨q,_,_,hq,_⟩:=dd'; ⟨q,hq⟩
    exact Wi I (by rw [e]; exact True.intro) hs he (a7i hl hd (rel.put k rv) dd')
  · subst ey eH
    cases (show u=Value.ref b from ry)
    obtain ⟨z,hd,xs,rel,dd⟩:=aa2 I.hok e
    have hz:xs.length≤sizeLine:=by rw [← Paired.length rel]; exact z
    have hl:(putK kvs k v).length≤sizeLine:=by have:=Ji kvs k v; omega
    refine wpAny_setItem_heap (hsz:=hz) (tupleKind_room_in1 hu) (U7 I.hok eb) dd fun h' dd' hs=>h _ ?_
    obtain ⟨q,es,ep,hq,h2,h3,h4,_,h5⟩:=dd'
    refine Wi I (by rw [e]; exact True.intro) hs ⟨q,hq⟩ ⟨hl,hd,_,(rel.put k eb rv).keeps fun c ys ec=>?_,q,es,ep,hq,h2,h3,h4,h5⟩
    rw [n8 (aa0 ec e (fun z=>nomatch z))]
    exact ec
end
noncomputable section
variable {X:Cx} {pins:List (Addr × Obj)} {σ:St} {H:Hp} {s:Shared} {a:Addr} {kvs:List (Key × V)} {k:Key} {u:Value} {A:Around} {E:Value→Shared→Prop}
theorem a94 {Q:Value→Shared→Prop} (I:Inv X pins σ H s) (e:Rd H a (.dK kvs)) (h:∀ t s',Inv X pins σ H s'→Q (.int kvs.length t) s'):wpAny (model X.prog X.w) A (call (.builtin "len") [.ref a]) Q E s:=by
  obtain ⟨z,hd,vs,rel,dd⟩:=K4 I.hok e
  refine call_len_dict hd dd (by rw [← rel.length]; rw [sizeLine_eq] at z; omega) ?_
  rw [← rel.length]
  exact h _ _ (I.tok _)
end
theorem Qq {X:Cx} {pins:List (Addr × Obj)} {σ:St} {H:Hp} {s:Shared} {a:Addr} {y:V} {o:Option V} (I:Inv X pins σ H s) (g:a0k H a y o):s.TypeIs (.ref a) "dict" := by
  rcases g with ⟨kvs,k,e,_,_⟩ | ⟨kvs,k,b,e,_,_,_⟩
  · obtain ⟨_,_,vs,_,dd⟩:=K4 I.hok e
    exact dd.typeIs
  · obtain ⟨_,_,xs,_,dd⟩:=Z6 I.hok e
    exact dd.typeIs
noncomputable def aa7 (td ty tv:TE):TS:=fun D σ H=>tv σ H fun v H1=>td σ H1 fun x H2=>ty σ H2 fun y H3=>∃ a H4,x=.ref a∧a6y H3 a y v H4∧D.nx σ H4
noncomputable section
variable {X:Cx} {o i e value:Expr} {pos pos' tpos:Pos} {td ty tv:TE}
theorem a4q (hu:X.A.units+1<cLine) (ho:PE X o td) (hi:PE X i ty) (hv:PE X value tv) (hs:swapsWith value (some (.Subscript o i pos')) pos.line X.env=pure false) :
    PS X (.Assign [.Subscript o i pos'] value pos) (aa7 td ty tv):=by
  intro pins s σ H D I h
  refine wpAny_Assign_Subscript (thn (hv pins s σ H _ I h) fun r s1 ⟨v,H1,I1,rv,q1⟩=>thn (ho pins s1 σ H1 _ I1 q1) fun u s2 ⟨x,H2,I2,rx,q2⟩=>thn (hi pins s2 σ H2 _ I2 q2) fun iv s3 ⟨y,H3,I3,ry,a,H4,ex,g,q3⟩=>?_) hs
  subst ex
  obtain rfl:u=Value.ref a:=rx
  exact X8 hu I3 g ry rv fun s4 I4=>⟨σ,H4,I4,q3⟩
end
theorem a0v {P:Program} {w:World} {H:Hp} (h:Heap) (hb:sysModules<h.objs.size):yw P w H (h.push { cls:=.type "dict",data:=.dict #[] }) h.objs.size (.dK []) :=
  ⟨Nat.zero_le _,beq_eq_false_iff_ne.mpr (Ne.symm (Nat.ne_of_lt hb)),[],.nil,Heap.DictOf.new h⟩
noncomputable def a8q:TE:=fun _ H Q=>∀ p,H p=none→Q (.ref p) (upd H p (.dK []))
noncomputable section
variable {X:Cx} {pos:Pos}
theorem a0q:PE X (.Dict [] [] pos) a8q:=fun pins s σ H Q I h =>
  wpAny_Dict_empty ⟨.ref s.heap.objs.size,_,I.laid (a:=s.heap.objs.size) (o:=.dK []) (t':=s.toks) (fun _ _ q=>Heap.get?_push_of_some _ q) (Nat.le_refl _) (a0v s.heap I.big),rfl,h _ (I.hok.fresh (Nat.le_refl _))⟩
end
structure M1 (X:Cx) (o:Expr) (m:Str) (apos:Pos) (e:Expr) (cpos:Pos):Prop where
  base:attributeBase o m X.env (eval o X.env)=eval o X.env
  few:((backTo cpos (starEach [e] X.env)).all (fun x=>!x.1)&&(backToKw cpos (keywordEach [] X.env)).all (fun x=>x.1.isSome)
    && decide (([e]:List Expr).length+([]:List Keyword).length+(if ([]:List Keyword).isEmpty then 0 else 1)<30))=true
  line:(apos.endLine==cpos.line)=true
  trees:backTo cpos (starEach [e] X.env)=[(false,eval e X.env)]
structure M2 (X:Cx) (o:Expr) (m:Str) (apos:Pos) (e f:Expr) (cpos:Pos):Prop where
  base:attributeBase o m X.env (eval o X.env)=eval o X.env
  few:((backTo cpos (starEach [e,f] X.env)).all (fun x=>!x.1)&&(backToKw cpos (keywordEach [] X.env)).all (fun x=>x.1.isSome)
    && decide (([e,f]:List Expr).length+([]:List Keyword).length+(if ([]:List Keyword).isEmpty then 0 else 1)<30))=true
  line:(apos.endLine==cpos.line)=true
  trees:backTo cpos (starEach [e,f] X.env)=[(false,eval e X.env),(false,eval f X.env)]
noncomputable def IsD (H:Hp) (a:Addr):Prop:=(∃ kvs,Rd H a (.dK kvs))∨∃ kvs,Rd H a (.dT kvs)
theorem a8m {X:Cx} {pins:List (Addr × Obj)} {σ:St} {H:Hp} {s:Shared} {a:Addr} (I:Inv X pins σ H s) (d:IsD H a) :
    s.TypeIs (.ref a) "dict" ∧ (∀ b,Value.ref a=.ref b→∃ ob,s.heap.get? b=some ob∧ob.dict=none)∧(a==sysModules)=false:=by
  rcases d with ⟨kvs,e⟩ | ⟨kvs,e⟩
  · obtain ⟨_,hd,vs,_,dd⟩:=K4 I.hok e
    refine ⟨dd.typeIs,fun b q=>?_,hd⟩
    cases q
    obtain ⟨ob,_,_,h1,h2,_⟩:=dd
    exact ⟨ob,h1,h2.2.1⟩
  · obtain ⟨_,hd,xs,_,dd⟩:=Z6 I.hok e
    refine ⟨dd.typeIs,fun b q=>?_,hd⟩
    cases q
    obtain ⟨ob,_,_,h1,h2,_⟩:=dd
    exact ⟨ob,h1,h2.2.1⟩
noncomputable section
variable {X:Cx} {pins:List (Addr × Obj)} {σ:St} {H:Hp} {s:Shared} {a:Addr} {y d:V} {u r:Value} {o:Option V} {A:Around} {E:Value→Shared→Prop}
theorem a7n {Q:Value→Shared→Prop} (hu:A.units+1<cLine) (I:Inv X pins σ H s) (g:a0k H a y o) (ry:RelV y u) (rd:RelV d r) (h:∀ w' s',Inv X pins σ H s'→RelV (o.getD d) w'→Q w' s') :
    wpAny (model X.prog X.w) A (call (.builtin "dict.get") [.ref a,u,r]) Q E s:=by
  rcases g with ⟨kvs,k,e,ey,l⟩ | ⟨kvs,k,b,e,ey,eb,l⟩
  · subst ey
    obtain ⟨z,hd,vs,rel,dd⟩:=K4 I.hok e
    refine call_meetsIn PySem.F.slot_dict_get dd.typeIs PySem.F.entry_dict_get (PySem.F.args_dict_get_3 _ _ _) (meets_dict_get_default (v8 X.prog X.w) a (a2m ry) hd r) ⟨_,dd.mapOf,h _ _ (I.tok _) ?_⟩
    rw [l]
    exact (rel.val k).getD rd
  · subst ey
    cases (show u=Value.ref b from ry)
    obtain ⟨z,hd,xs,rel,dd⟩:=Z6 I.hok e
    refine call_meetsIn PySem.F.slot_dict_get dd.typeIs PySem.F.entry_dict_get (PySem.F.args_dict_get_3 _ _ _) (meetsH_dict_get_default (tupleKind (v8 X.prog X.w)) a b hd r) ⟨tupleKind_room_in1 hu,k,xs,U7 I.hok eb,dd,h _ _ (I.tok _) ?_⟩
    rw [l]
    exact (rel.val k).getD rd
end
noncomputable def a8u (td ty tx:TE):TE:=fun σ H Q=>td σ H fun x H1=>∃ a,x=.ref a∧IsD H1 a∧ty σ H1 fun y H2=>tx σ H2 fun z H3=>∃ o,a0k H3 a y o∧Q (o.getD z) H3
noncomputable section
variable {X:Cx} {o e f:Expr} {apos cpos:Pos} {td ty tx:TE}
theorem a0t (hu:X.A.units+1<cLine) (ho:PE X o td) (he:PE X e ty) (hf:PE X f tx) (m:M2 X o "get" apos e f cpos):PE X (.Call (.Attribute o "get" apos) [e,f] [] cpos) (a8u td ty tx):=by
  intro pins s σ H Q I h
  refine wpAny_Call_method m.base m.few m.line PySem.F.plainAttrs_dict PySem.F.slot_dict_get PySem.F.type_dict_get (thn (ho pins s σ H _ I h) fun u s1 z0=>?_)
  obtain ⟨x,H1,I1,rx,a,ex,d,q1⟩:=z0
  subst ex
  obtain rfl:u=Value.ref a:=rx
  obtain ⟨t1,t2,_⟩:=a8m I1 d
  refine ⟨t1,t2,?_⟩
  rw [m.trees]
  refine Calls.callWith_builtin rfl (Calls.evalArgs_plain (Calls.spliced_cons (thn (he pins s1 σ H1 _ I1 q1) fun iv s2 ⟨y,H2,I2,ry,q2⟩ =>
    Calls.spliced_cons (thn (hf pins s2 σ H2 _ I2 q2) fun fv s3 ⟨z,H3,I3,rz,ov,g,q3⟩=>Calls.spliced_nil ?_))))
  exact a7n hu I3 g ry rz fun w' s4 I4 rw'=>⟨_,H3,I4,rw',q3⟩
end
noncomputable section
variable {X:Cx} {pins:List (Addr × Obj)} {σ:St} {H:Hp} {s:Shared} {a:Addr} {kvs:List (Key × V)} {A:Around} {E:Value→Shared→Prop}
end
noncomputable section
variable {X:Cx} {pins:List (Addr × Obj)} {σ:St} {H:Hp} {s:Shared} {a:Addr} {y:V} {u:Value} {A:Around} {E:Value→Shared→Prop}
end
end L2
end
noncomputable section
set_option linter.all false
set_option maxRecDepth 100000
namespace Att
open PySem PySem.W PySem.Calls PyProof.Rows
theorem Jd {P:Params} {h:Heap}:∀ (ns:List Int) (vs:List Value),WellAll P h vs (ns.map WData.int)→IntsAre vs ns:=by
  intro ns
  induction ns with
  | nil =>
    intro vs w
    rw [List.map_nil] at w
    cases w
    exact .nil
  | cons n ns ih =>
    intro vs w
    rw [List.map_cons] at w
    cases w with
    | cons a b =>
      cases a
      exact .cons _ _ (ih _ b)
theorem Zk {l:OpenLaw} {n:Nat} (hn:l.most=some n) {P:Params} {h:Heap} {args:List WData} {vals:List Value}
    (hpre:l.row.toRowW.claim.pre args=true) (hwl:WellAll P h vals args) :
    ∃ a vs ns,vals=[Value.ref a]∧args=[WData.list (ns.map WData.int)]∧h.get? a=some { cls:=.type "list",data:=.seq vs.toArray }∧IntsAre vs ns∧ns.length≤n:=by
  have hsh:WShape.hasAll [] args [.list .int]=true:=(pre_splitW hpre).1
  have hc:l.pre.holds [] { args:=args } = true:=(pre_splitW hpre).2
  obtain ⟨d,r,rfl,h1,h2⟩:=hasAllW_cons hsh
  obtain rfl:=hasAllW_nil h2
  obtain ⟨xs,rfl,h3⟩:=hasW_list h1
  obtain ⟨ns,rfl⟩:=items_int h3
  have hlen:ns.length≤n:=by
    unfold OpenLaw.pre at hc
    have h4:(WTm.not (.lt (.lit (.int (n:Int))) (.len (.arg 0)))).holds [] { args:=[.list (ns.map .int)] } = true:=by
      have h4:=(holds_andW hc).1
      rw [hn] at h4
      exact h4
    have h5:=condW_of h4 (w_not (w_lt w_lit (w_len_list (w_arg rfl))))
    rw [List.length_map] at h5
    refine Nat.le_of_not_lt fun q=>?_
    have q':(n:Int)<((ns.length:Nat):Int):=by omega
    first
      | (rw [decide_eq_true q'] at h5; exact absurd h5 (by decide))
      | (simp at h5; omega)
  cases hwl with
  | cons w1 w2 =>
    cases w2
    cases w1 with
    | list ho hall=>exact ⟨_,_,ns,rfl,rfl,ho,Jd ns _ hall,hlen⟩
theorem Yg (l:OpenLaw) (args:List WData):l.row.toRowW.claim.post args (.bool true) args=true :=
  postW_of (r:=l.row.toRowW) (X:=(true==true))
    (show WShape.has [] (.bool true) .bool=true by first | rfl | decide | simp [WShape.has,WShape.arms,WShape.armsAll])
    (show (WTm.eq .res (.lit (.bool true))).value [] { args:=args,res:=some (.bool true),after:=args } = some (.bool (true==true)) from w_eq_bool (w_res rfl) w_lit) rfl
theorem Qj {l:OpenLaw} {n:Nat} {q:Program} {loose:List Str} {XP:(Str→Option Value)→Heap→Prop} {YP:World→Heap→Prop} {d:DefRec}
    (hn:l.most=some n) (hdf:d.params.defaults=[])
    (call:∀ (w:World) (s₀ s₁:Shared) (mg mb:Str→Option Value) (fa:Addr) (o:Obj) (pm cd doc:Value) (a:Addr) (vs:List Value) (ns:List Int),
      Ground q loose [] XP w s₀ mg mb s₁.heap→YP w s₁.heap →
      s₁.heap.get? fa=some o→o.data=.func (docDef d.name d.params d.body d.scope pm cd doc)→s₁.heap.CodeRec cd d.name→mg d.name=some (.ref fa) →
      s₁.heap.get? a=some { cls:=.type "list",data:=.seq vs.toArray }→IntsAre vs ns→ns.length≤n→s₁.gens = #[] →
      codeAny (model l.prog w) callerA (.call (.ref fa) ⟨[.ref a],[]⟩) (fun r s'=>r=.ok (.ret (.bool true))∧OldK s₁.heap s'.heap∧s'.os=s₁.os∧AllBare s'.gens) s₁) :
    WalkO q loose XP YP l.row.toRowW d [] (fun f vs=>PySem.call f vs):=by
  intro w s₀ s₁ mg mb G Y fa o pm cd doc dV kV ho hd hcd hD hmg hg args vals as hpre hlay hrd hwl hlo
  obtain rfl:dV=.none:=Dflts.none hD hdf
  obtain rfl:kV=.none:=Dflts.noKw hD
  obtain ⟨a,vs,ns,rfl,rfl,hobj,hints,hlen⟩:=Zk hn hpre hwl
  refine enter_call (codeAny_mono (call w s₀ s₁ mg mb fa o pm cd doc a vs ns G Y ho (fd_plain hd) hcd hmg hobj hints hlen hg) fun r s' hq=>?_)
  obtain ⟨rfl,h2,h3,h4⟩:=hq
  exact ⟨.inl ⟨.bool true,.bool true,[],rfl,fun _=>rfl,.bool true,Yg l _,fun _=>⟨List.Pairwise.nil,fun _ hm=>(nomatch hm)⟩⟩,h2,h3,h4⟩
noncomputable section
variable {prog:Program} {w:World} {A:Around} {E:Value→Shared→Prop} {s:Shared} {K:Frag}
end
end Att
namespace L2
open PySem PySem.Spec PyProof.Rows
theorem Mi:∀ {vs:List Value} {ns:List Int},IntsAre vs ns→Vals (ns.map V.int) vs
  | _,_,.nil=>.nil
  | _,_,.cons n t h=>.cons ⟨t,rfl⟩ (Mi h)
noncomputable def Only (H:Hp):Prop:=∀ b,H b=none∨∃ o xs,H b=some (.frz o (.lst xs))
theorem a1j {P:Program} {w:World} {K:PySem.W.Frag} {mg mb:Str→Option Value} {CX:CXT} {k:Nat} {fa a:Addr} {fd:FuncData} {x:Str} {sp:Sp} {s₁:Shared} {vs:List Value} {ns:List Int}
    (KX:K.In s₁.heap) (hns:s₁.heap.Ns mainGlobals mg) (hb:s₁.heap.Ns builtinsNs mb) (hbb:∀ x:Str,x ≠ "__name__" → mb x=bootBuiltins x) (hlim:s₁.heap.NoLimit) (hg:s₁.gens = #[])
    (ha:s₁.heap.get? a=some { cls:=.type "list",data:=.seq vs.toArray }) (hi:IntsAre vs ns) (hl:ns.length≤sizeLine) (hr:Jv k callerA)
    (F:∀ base:Heap,K.In base→base.Ns mainGlobals mg→Ad P w K mg base CX k fa fd [x] sp) (hbind:∀ (s:Shared) (u:Value),BindsTo s fd ⟨[u],[]⟩ [(x,u)])
    (hsp:∀ H:Hp,Only H→SqL K H a (ns.map V.int)→sp [.ref a] H (fun v _=>v=.bl true) fun _ _ _=>False)
    (hCX:∀ H e s',CX [] H s₁ (fun _ _ _=>False) e s'→False) :
    codeAny (model P w) callerA (.call (.ref fa) ⟨[.ref a],[]⟩) (fun r s'=>r=.ok (.ret (.bool true))∧OldK s₁.heap s'.heap∧s'.os=s₁.os∧AllBare s'.gens) s₁:=by
  have rv:=Mi hi
  have lenV:=hi.length
  have core:∀ H:Hp,Only H→SqL K H a (ns.map V.int)→HOk P w H s₁.heap→(∀ b,H b≠none→b=a)→(H a≠none→K.lookup a=none) →
      codeAny (model P w) callerA (.call (.ref fa) ⟨[.ref a],[]⟩) (fun r s'=>r=.ok (.ret (.bool true))∧OldK s₁.heap s'.heap∧s'.os=s₁.os∧AllBare s'.gens) s₁:=by
    intro H hO hS hok hA hK
    have base_of:∀ {b:Addr} {o:Obj},s₁.heap.get? b=some o→H b=none→(a1d s₁.heap H).get? b=some o:=fun e n=>a1c e n
    have noA:∀ {b:Addr} {o:Obj} {es:Array DictEntry} {ep:Nat},s₁.heap.get? b=some o→o.data=.dict es ep→H b=none:=fun {b o es ep} e d=>by
      cases q:H b with
      | none=>rfl
      | some u =>
        have e':b=a:=hA b (by rw [q]; simp)
        subst e'
        rw [ha] at e; cases e
        have d':Data.seq vs.toArray _=Data.dict es ep:=d
        cases d'
    have nsK:∀ {b:Addr} {m:Str→Option Value},s₁.heap.Ns b m→(a1d s₁.heap H).Ns b m:=fun {b m} ⟨o,es,ep,e,d,r⟩=>⟨o,es,ep,base_of e (noA e d),d,r⟩
    have hKb:K.In (a1d s₁.heap H):=fun b o e=>base_of (KX b o e) (by
      cases q:H b with
      | none=>rfl
      | some u =>
        have e':b=a:=hA b (by rw [q]; simp)
        subst e'
        rw [hK (by rw [q]; simp)] at e; cases e)
    have hM:Mod K mg (a1d s₁.heap H):=⟨hKb,nsK hns,⟨mb,nsK hb,hbb⟩,let ⟨mc,h1,h2⟩:=hlim; ⟨mc,nsK h1,h2⟩⟩
    have e0:a9k P w K mg (a1d s₁.heap H) callerA [] s₁ H:=⟨rfl,hM,fun b o e=>a6z e,Nat.le_of_eq (W7 _ _),trivial,fun b hb=>absurd (show b∈([]:List Addr) from hb) (by simp),hok,.of_eq hg⟩
    refine codeAny_mono ((F _ hKb (nsK hns)).run callerA [] s₁ H ⟨[.ref a],[]⟩ [.ref a] [.ref a] _ _ hr e0 (hbind s₁ (.ref a)) (.cons rfl .nil) (hsp H hO hS)) fun r s' h=>?_
    cases r with
    | error e=>exact (hCX H e s' h).elim
    | ok fl =>
      cases fl with
      | next=>exact False.elim h
      | brk=>exact False.elim h
      | cont=>exact False.elim h
      | ret u =>
        obtain ⟨v,H',os,bare,un,hok',r',q⟩:=h
        have q':v=.bl true:=q
        subst q'
        obtain rfl:u=Value.bool true:=r'
        refine ⟨rfl,OldK.of_keep fun b o e=>?_,os,bare⟩
        cases q:H b with
        | none=>exact un.keep b o e q (by intro z; exact absurd (show b∈([]:List Addr) from z) (by simp)) (by simp)
        | some u =>
          rcases hO b with z | ⟨ob,xs,z⟩
          · rw [q] at z; cases z
          · have z2:=un.frzs b ob _ z
            obtain ⟨e1,_⟩:=hok b _ z
            obtain ⟨e2,_⟩:=hok' b _ z2
            rw [e] at e1; cases e1
            exact e2
  cases hk:K.lookup a with
  | some o =>
    have e:=KX a o hk
    rw [ha] at e
    cases e
    refine core (fun _=>none) (fun _=>.inl rfl) (.inr ⟨_,vs.toArray,_,hk,rfl,rfl,rfl,by rw [List.size_toArray,lenV]; exact hl,by simpa using rv⟩) (fun b u z=>by have z':(none:Option HO)=some u:=z; cases z') (fun b z=>absurd rfl z) fun z=>absurd rfl z
  | none =>
    refine core (fun b=>if b=a then some (.frz { cls:=.type "list",data:=.seq vs.toArray } (.lst (ns.map V.int))) else none) (fun b=>?_) (.inl (.inr ⟨{ cls:=.type "list",data:=.seq vs.toArray },if_pos rfl⟩)) (fun b u z=>?_) (fun b z=>?_) fun _=>hk
    · by_cases hb:b=a
      · exact .inr ⟨_,_,if_pos hb⟩
      · exact .inl (if_neg hb)
    · by_cases hb:b=a
      · have z':=(if_pos hb).symm.trans z
        cases z'
        subst hb
        exact ⟨ha,by rw [List.length_map]; exact hl,vs,_,rv,ha⟩
      · have z':=(if_neg hb).symm.trans z
        cases z'
    · by_cases hb:b=a
      · exact hb
      · exact absurd (if_neg hb) z
end L2
namespace L2
open PySem PySem.Spec PyProof.Rows
theorem a6r {l:PySem.W.OpenLaw} {n k:Nat} {q:Program} {loose:List Str} {XP:(Str→Option Value)→Heap→Prop} {YP:World→Heap→Prop} {d:DefRec} {K:Params→PySem.W.Frag} {CX:World→CXT} {sp:World→Sp} {x:Str}
    (hn:l.most=some n) (hn2:n≤sizeLine) (hdf:d.params.defaults=[]) (hr:Jv k callerA)
    (hY:∀ (w:World) (h:Heap),YP w h→(K w.params).In h)
    (F:∀ (w:World) (mg:Str→Option Value) (fa:Addr) (h:Heap),(K w.params).In h→h.Ns mainGlobals mg→mg d.name=some (.ref fa) →
      ∃ fd:FuncData,(∀ (s:Shared) (u:Value),BindsTo s fd ⟨[u],[]⟩ [(x,u)]) ∧
        ∀ base:Heap,(K w.params).In base→base.Ns mainGlobals mg→Ad l.prog w (K w.params) mg base (CX w) k fa fd [x] (sp w))
    (hsp:∀ (w:World) (H:Hp) (a:Addr) (ns:List Int),ns.length≤n→Only H→SqL (K w.params) H a (ns.map V.int)→sp w [.ref a] H (fun v _=>v=.bl true) fun _ _ _=>False)
    (hCX:∀ (w:World) (H:Hp) (s:Shared) (e:Value) (s':Shared),CX w [] H s (fun _ _ _=>False) e s'→False) :
    PySem.W.WalkO q loose XP YP l.row.toRowW d [] (fun f vs=>PySem.call f vs):=by
  refine Att.Qj hn hdf fun w s₀ s₁ mg mb fa o pm cd doc a vs ns G Y ho hd hcd hmg hobj hints hlen hg=>?_
  have KX:=hY w _ Y
  obtain ⟨fd,hb,hF⟩:=F w mg fa _ KX G.T.g hmg
  exact a1j KX G.T.g G.T.b G.T.builtins G.T.nolimit hg hobj hints (Nat.le_trans hlen hn2) hr hF hb (fun H hO hS=>hsp w H a ns hlen hO hS) fun H e s'=>hCX w H s₁ e s'
end L2
namespace L2
open PySem PySem.Spec PyProof.Rows
noncomputable def Df (s:Stmt):Arguments:=match s with
  | .FunctionDef _ a _ _ _ _ _ _ _ _=>a
  | _=>{ posonlyargs:=[],args:=[],vararg:=none,kwonlyargs:=[],kw_defaults:=[],kwarg:=none,defaults:=[] }
noncomputable def Bq (s:Stmt):List Stmt:=match s with
  | .FunctionDef _ _ b _ _ _ _ _ _ _=>b
  | _=>[]
noncomputable def jd (s:Stmt):Scope:=match s with
  | .FunctionDef _ _ _ _ _ _ sc _ _ _=>sc
  | _=>{ kind:=.function,names:=[],isGenerator:=false,isCoroutine:=false }
noncomputable abbrev CX0:CXT:=fun _ _ _ _ _ _=>False
noncomputable abbrev E0:XK:=fun _ _ _=>False
theorem aap {X:Cx}:Passes CX0 X E0:=fun _ _ _ _ _ _ _ h=>h.elim
structure Fun (K:PySem.W.Frag) (x qual:Str) (st:Stmt) (f:Addr) (fd:FuncData):Prop where
  ex:∃ (oc:Value) (od:Option Addr) (kV doc pm:Value) (an:Option Addr) (cdv ct:Value) (osl:Array (Option Value)),
    fd=PySem.W.fnOf x qual (Df st) (Bq st) (jd st) .none kV doc pm an cdv ct∧K.lookup f=some ⟨oc,od,.func fd,osl⟩∧PySem.W.codeIn K cdv qual=true
  kp:PySem.W.keepIn K (.ref f)=true
noncomputable section
variable {P:Program} {w:World} {K:PySem.W.Frag} {mg:Str→Option Value} {base:Heap}
theorem Fun.ok {x qual:Str} {st:Stmt} {f:Addr} {fd:FuncData} {N ps:List Str} {k:Nat} {sp:Sp} (F:Fun K x qual st f fd) (S:m9 N ps (jd st)) (len:∀ vs H Q E,sp vs H Q E→vs.length=ps.length)
    (hbody:∀ (cdv:Value) (A:Around) (outer:List Env) (s:Shared) (H:Hp) (vs:List V) (Q:VK) (E:XK),Jv k (A.deeper (envOfC qual (jd st) s.heap.objs.size f cdv))→sp vs H Q E →
      ∃ t,PSs (a5s CX0 P w K mg base N qual (jd st) f cdv A outer s H E).nox (Bq st) t∧t { nx:=fun _ H'=>Q .non H',rt:=Q } (start N vs) H):Ad P w K mg base CX0 (k+1) f fd ps sp:=by
  obtain ⟨oc,od,kV,doc,pm,an,cdv,ct,osl,rfl,lk,hcd⟩:=F.ex
  refine a9v lk hcd S len fun A outer s H vs Q E hr hsp=>?_
  obtain ⟨t,h,q⟩:=hbody cdv A outer s H vs Q E hr hsp
  exact ⟨t,h.nox,q⟩
theorem Fun.binds {x qual:Str} {st:Stmt} {f:Addr} {fd:FuncData} {ps:List Str} (F:Fun K x qual st f fd)
    (h:∀ (kV doc pm:Value) (an:Option Addr) (cdv ct:Value) (us:List Value),us.length=ps.length→bindArgs (PySem.W.fnOf x qual (Df st) (Bq st) (jd st) .none kV doc pm an cdv ct) ⟨us,[]⟩=pure (ps.zip us)):Binds K fd ps []:=by
  obtain ⟨oc,od,kV,doc,pm,an,cdv,ct,osl,rfl,lk,hcd⟩:=F.ex
  exact .all (h kV doc pm an cdv ct)
theorem bd1 {fd:FuncData} {ps:List Str} (h:∀ a,bindArgs fd ⟨[a],[]⟩=pure (ps.zip [a])) (us:List Value) (hl:us.length=1):bindArgs fd ⟨us,[]⟩=pure (ps.zip us):=by
  cases us with
  | nil=>exact nomatch hl
  | cons a us =>
  cases us with
  | cons _ _=>simp at hl
  | nil=>exact h a
theorem bd2 {fd:FuncData} {ps:List Str} (h:∀ a b,bindArgs fd ⟨[a,b],[]⟩=pure (ps.zip [a,b])) (us:List Value) (hl:us.length=2):bindArgs fd ⟨us,[]⟩=pure (ps.zip us):=by
  cases us with
  | nil=>exact nomatch hl
  | cons a us =>
  cases us with
  | nil=>exact nomatch hl
  | cons b us =>
  cases us with
  | cons _ _=>simp at hl
  | nil=>exact h a b
theorem bd3 {fd:FuncData} {ps:List Str} (h:∀ a b c,bindArgs fd ⟨[a,b,c],[]⟩=pure (ps.zip [a,b,c])) (us:List Value) (hl:us.length=3):bindArgs fd ⟨us,[]⟩=pure (ps.zip us):=by
  cases us with
  | nil=>exact nomatch hl
  | cons a us =>
  cases us with
  | nil=>exact nomatch hl
  | cons b us =>
  cases us with
  | nil=>exact nomatch hl
  | cons c us =>
  cases us with
  | cons _ _=>simp at hl
  | nil=>exact h a b c
theorem bd4 {fd:FuncData} {ps:List Str} (h:∀ a b c d,bindArgs fd ⟨[a,b,c,d],[]⟩=pure (ps.zip [a,b,c,d])) (us:List Value) (hl:us.length=4):bindArgs fd ⟨us,[]⟩=pure (ps.zip us):=by
  cases us with
  | nil=>exact nomatch hl
  | cons a us =>
  cases us with
  | nil=>exact nomatch hl
  | cons b us =>
  cases us with
  | nil=>exact nomatch hl
  | cons c us =>
  cases us with
  | nil=>exact nomatch hl
  | cons d us =>
  cases us with
  | cons _ _=>simp at hl
  | nil=>exact h a b c d
theorem bd5 {fd:FuncData} {ps:List Str} (h:∀ a b c d e,bindArgs fd ⟨[a,b,c,d,e],[]⟩=pure (ps.zip [a,b,c,d,e])) (us:List Value) (hl:us.length=5):bindArgs fd ⟨us,[]⟩=pure (ps.zip us):=by
  cases us with
  | nil=>exact nomatch hl
  | cons a us =>
  cases us with
  | nil=>exact nomatch hl
  | cons b us =>
  cases us with
  | nil=>exact nomatch hl
  | cons c us =>
  cases us with
  | nil=>exact nomatch hl
  | cons d us =>
  cases us with
  | nil=>exact nomatch hl
  | cons e us =>
  cases us with
  | cons _ _=>simp at hl
  | nil=>exact h a b c d e
theorem a3p {x qual:Str} {st:Stmt} {f:Addr} {oc:Value} {od an:Option Addr} {osl:Array (Option Value)} {kV doc pm cdv ct:Value} (l:K.lookup f=some ⟨oc,od,.func (PySem.W.fnOf x qual (Df st) (Bq st) (jd st) .none kV doc pm an cdv ct),osl⟩)
    (c:PySem.W.codeIn K cdv qual=true) (k:PySem.W.keepIn K (.ref f)=true):Fun K x qual st f (PySem.W.fnOf x qual (Df st) (Bq st) (jd st) .none kV doc pm an cdv ct):=⟨⟨oc,od,kV,doc,pm,an,cdv,ct,osl,rfl,l,c⟩,k⟩
end
theorem wj {A:Around} {k:Nat} (hr:Jv k A):A.units+1<cLine:=Nat.lt_of_le_of_lt (Nat.add_le_add_left (by decide:1≤64) _) hr.units
theorem J7 {n:Nat} (h:n≤1000):n<sizeLine:=Nat.lt_of_le_of_lt h (by decide)
noncomputable section
variable {X:Cx}
theorem pv (i:Nat) {x:Str} {pos:Pos} (hN:X.N[i]? = some x:=by rfl) (hv:Vis X.env.scope x:=by first | exact Or.inl rfl | exact Or.inr (Or.inl rfl) | exact Or.inr (Or.inr rfl)) (hd:(x==("__debug__" : Str))=false:=by decide)
    (hcd:(x==("__classdict__" : Str))=false:=by decide):PE X (.Name x pos) (Zz i):=a88 hN hv hd hcd
end
theorem a4s {A B:Prop} (h:B):if false=true then A else B:=by
  rw [if_neg Bool.false_ne_true]
  exact h
theorem a6a {A B:Prop} (h:A):if true=true then A else B:=by
  rw [if_pos rfl]
  exact h
noncomputable def Same (H H':Hp):Prop:=∀ b o,H b=some o→H' b=some o
theorem Same.refl (H:Hp):Same H H:=fun _ _ h=>h
theorem Same.trans {H H1 H2:Hp} (a:Same H H1) (b:Same H1 H2):Same H H2:=fun c o h=>b c o (a c o h)
theorem Same.free {H H':Hp} (e:Same H H') {l:Addr} (h:H' l=Option.none):H l=Option.none:=by
  cases q:H l with
  | none=>rfl
  | some o =>
    rw [e l o q] at h
    cases h
theorem Same.seq {K:PySem.W.Frag} {H H':Hp} {a:Addr} {xs:List V} (e:Same H H') (h:SqL K H a xs):SqL K H' a xs:=by
  rcases h with (h | ⟨o,h⟩) | h
  · exact .inl (.inl (e _ _ h))
  · exact .inl (.inr ⟨o,e _ _ h⟩)
  · exact .inr h
end L2
end
noncomputable section
set_option linter.all false
set_option maxRecDepth 100000
namespace L2
open PySem PySem.Spec PyProof.Rows
noncomputable section
variable {X:Cx}
end
noncomputable section
variable {κ:Type} [DecidableEq κ]
end
end L2
end
noncomputable section
namespace C
open PySem
theorem nu {α:Type} {w:α} {P:Prop} (h:none=some w):P:=nomatch h
theorem Eu {α:Type} {c:Prop} [Decidable c] {o:Option α} {w:α} (h:(if c then o else none)=some w):c∧o=some w:=by
  by_cases z:c
  · rw [if_pos z] at h; exact ⟨z,h⟩
  · rw [if_neg z] at h; exact nu h
noncomputable abbrev Key:=Sum Int Str
inductive T where
  | non | bl (b:Bool) | int (i:Int) | str (x:Str)
  | tup (xs:List T) | lst (xs:List T) | dic (kvs:List (Key × T)) | obj (n:Nat)
instance:Inhabited T:=⟨.non⟩
inductive SO where
  | dic (kvs:List (Key × T)) | lst (xs:List T) | dit (kvs:List (List Key × T))
noncomputable abbrev Slot:=Option (T × Bool)
structure Sta where
  env:List Slot
  sto:List SO
noncomputable abbrev M (α:Type):=Sta→Option (α × Sta)
noncomputable def Uw (k:Key):List (Key × T)→Option T
  | []=>none
  | (q,t)::r=>if q=k then some t else Uw k r
noncomputable def a3f (k:Key) (t:T) (kvs:List (Key × T)):List (Key × T) :=
  if kvs.any fun p=>decide (p.1=k) then kvs.map fun p=>if p.1=k then (p.1,t) else p else kvs++[(k,t)]
noncomputable def keyOf:T→Option Key
  | .int i=>some (.inl i)
  | .str x=>some (.inr x)
  | _=>none
noncomputable def Vn:Key→T
  | .inl i=>.int i
  | .inr x=>.str x
mutual
noncomputable def dat:T→Option PyData
  | .non=>some .none
  | .bl b=>some (.bool b)
  | .int i=>some (.int i)
  | .str x=>if PyData.canLay0 (.str x) then some (.str x) else none
  | .tup xs=>(Gb xs).map .tuple
  | .lst xs=>(Gb xs).map .list
  | .dic _=>none
  | .obj _=>none
noncomputable def Gb:List T→Option (List PyData)
  | []=>some []
  | x::r=>match dat x with
    | some a=>(Gb r).map (a :: ·)
    | none=>none
end
noncomputable def eqD (a b:T):Option Bool:=match dat a with
  | some x=>match dat b with
    | some y=>if x.depth≤40 then some (PyData.eqv x y) else none
    | none=>none
  | none=>none
noncomputable def a74:List (Key × T)→List (Key × T)→Option Bool
  | [],_=>some true
  | (k,x)::r,ys=>match Uw k ys with
    | none=>some false
    | some y=>match eqD x y with
      | some e=>(a74 r ys).map (e && ·)
      | none=>none
noncomputable def eqT:T→T→Option Bool
  | .dic a,.dic b=>if a.length=b.length then a74 a b else some false
  | x,y=>eqD x y
noncomputable def ao (t:T):M T:=fun s=>some (t,s)
noncomputable def bw (i:Nat):M T:=fun s=>match s.env[i]? with
  | some (some (t,false))=>some (t,s)
  | some (some (t,true))=>some (t,{ s with env:=s.env.set i (some (t,false)) })
  | _=>none
noncomputable def fj:M (List T):=fun s=>some ([],s)
noncomputable def ak (a:M T) (r:M (List T)):M (List T):=fun s=>match a s with
  | some (t,s1)=>match r s1 with
    | some (ts,s2)=>some (t::ts,s2)
    | none=>none
  | none=>none
noncomputable def j6:List Str→M (List T)
  | []=>fj
  | x::r=>ak (ao (.str x)) (j6 r)
noncomputable def iu (f:List T→Option T) (a:M (List T)):M T:=fun s=>match a s with
  | some (ts,s1)=>match f ts with
    | some t=>some (t,s1)
    | none=>none
  | none=>none
noncomputable def mUn (f:T→Option T) (a:M T):M T:=fun s=>match a s with
  | some (t,s1)=>match f t with
    | some u=>some (u,s1)
    | none=>none
  | none=>none
noncomputable def mOp (f:T→T→Option T) (a b:M T):M T:=fun s=>match a s with
  | some (t,s1)=>match b s1 with
    | some (u,s2)=>match f t u with
      | some v=>some (v,s2)
      | none=>none
    | none=>none
  | none=>none
noncomputable abbrev Fn:=List T→List SO→Option (T × List SO)
noncomputable def dw (F:Fn) (a:M (List T)):M T:=fun s=>match a s with
  | some (ts,s1)=>match F ts s1.sto with
    | some (t,sto)=>some (t,{ s1 with sto:=sto })
    | none=>none
  | none=>none
noncomputable def dj (a:M T):M Bool:=fun s=>match a s with
  | some (.bl b,s1)=>some (b,s1)
  | _=>none
noncomputable def m7 (a:M Bool):M Bool:=fun s=>match a s with
  | some (b,s1)=>some (!b,s1)
  | none=>none
noncomputable def jw (a b:M Bool):M Bool:=fun s=>match a s with
  | some (true,s1)=>b s1
  | some (false,s1)=>some (false,s1)
  | none=>none
noncomputable def mOr (a b:M Bool):M Bool:=fun s=>match a s with
  | some (true,s1)=>some (true,s1)
  | some (false,s1)=>b s1
  | none=>none
noncomputable def iw (a:M Bool):M T:=fun s=>match a s with
  | some (b,s1)=>some (.bl b,s1)
  | none=>none
noncomputable def mIf (c:M Bool) (a b:M T):M T:=fun s=>match c s with
  | some (true,s1)=>a s1
  | some (false,s1)=>b s1
  | none=>none
noncomputable abbrev lim:Nat:=1000000
noncomputable def Af (i:Int):Bool:=decide (-(2 ^ 64)<i∧i<2 ^ 64)
noncomputable def jk:T→T→Option T
  | .int i,.int j=>some (.int (i+j))
  | .str x,.str y=>if x.length+y.length<lim then some (.str (x++y)) else none
  | .tup x,.tup y=>if x.length+y.length<lim then some (.tup (x++y)) else none
  | .lst x,.lst y=>if x.length+y.length<lim then some (.lst (x++y)) else none
  | _,_=>none
noncomputable def lq:T→T→Option T
  | .int i,.int j=>some (.int (i - j))
  | _,_=>none
noncomputable def Ej:T→T→Option T
  | .int i,.int j=>if Af i||Af j then some (.int (i * j)) else none
  | .str x,.int j=>if 0≤j∧j≤1000∧x.length≤100 then some (.str ⟨((List.replicate j.toNat x.cps.toList).flatten).toArray⟩) else none
  | _,_=>none
noncomputable def jj:T→T→Option T
  | .int i,.int j=>if 0<j then some (.int (i%j)) else none
  | _,_=>none
noncomputable def fdl:Nat:=2 ^ 200
noncomputable def gb:T→T→Option T
  | .int i,.int j=>if 0<j∧(j<1073741824∨j.natAbs<fdl) then some (.int (i / j)) else none
  | _,_=>none
noncomputable def a3h:T→T→Option T
  | .int i,.int j=>if 0≤j∧j≤1000∧i.natAbs<1000 then some (.int (i ^ j.toNat)) else none
  | _,_=>none
noncomputable def mj:T→Option T
  | .int i=>some (.int (-i))
  | _=>none
noncomputable def ltT:T→T→Option T
  | .int i,.int j=>some (.bl (decide (i<j)))
  | _,_=>none
noncomputable def leT:T→T→Option T
  | .int i,.int j=>some (.bl (decide (i≤j)))
  | _,_=>none
noncomputable def gtT:T→T→Option T
  | .int i,.int j=>some (.bl (decide (j<i)))
  | _,_=>none
noncomputable def eqO (x y:T):Option T:=match eqT x y with
  | some b=>some (.bl b)
  | none=>none
noncomputable def neO (x y:T):Option T:=match eqT x y with
  | some b=>some (.bl (!b))
  | none=>none
noncomputable def ixI (n:Nat) (i:Int):Option Nat:=if 0≤i then (if i<n then some i.toNat else none) else if -(n:Int)≤i then some (i+n).toNat else none
noncomputable def gq:T→T→Option T
  | .tup xs,.int i=>(ixI xs.length i).bind (xs[·]?)
  | .lst xs,.int i=>(ixI xs.length i).bind (xs[·]?)
  | .str x,.int i=>if x.length<lim then (ixI x.cps.toList.length i).bind fun j=>(x.cps.toList[j]?).map fun c=>.str ⟨#[c]⟩ else none
  | .dic kvs,k=>(keyOf k).bind (Uw · kvs)
  | _,_=>none
noncomputable def jx:List T→Option T
  | [.tup xs]=>some (.int xs.length)
  | [.lst xs]=>some (.int xs.length)
  | [.str x]=>if x.length<lim then some (.int x.length) else none
  | [.dic kvs]=>some (.int kvs.length)
  | _=>none
noncomputable def inL (x:T):List T→Option Bool
  | []=>some false
  | y::r=>match eqD y x with
    | some e=>(inL x r).map (e || ·)
    | none=>none
noncomputable def Ag:List T→Option T
  | [.lst xs]=>some (.tup xs)
  | [.tup xs]=>some (.tup xs)
  | _=>none
noncomputable def Ed:List T→Option T
  | [.lst xs]=>some (.lst xs)
  | [.tup xs]=>some (.lst xs)
  | _=>none
noncomputable def Vj:List T→Option (List Int)
  | []=>some []
  | .int i::r=>(Vj r).map (i :: ·)
  | _=>none
noncomputable def aa3:List T→Option T
  | [.lst xs]=>(Vj xs).map fun l=>.int l.sum
  | _=>none
noncomputable def O7:List T→Option (List Bool)
  | []=>some []
  | .bl b::r=>(O7 r).map (b :: ·)
  | _=>none
noncomputable def a1e:List T→Option T
  | [.lst xs]=>(O7 xs).map fun l=>.bl (l.all id)
  | _=>none
noncomputable def Jg:List T→Option (List Str)
  | []=>some []
  | .str x::r=>(Jg r).map (x :: ·)
  | _=>none
noncomputable def W3 (x:Str):List Str→List Str
  | []=>[x]
  | y::r=>if decide (x.cps.toList<y.cps.toList) then x::y::r else y::W3 x r
noncomputable def Cd (l:List Str):List Str:=l.foldl (fun acc x=>W3 x acc) []
noncomputable def Lp:List T→Option T
  | [.lst xs]=>if xs.length<64 then (Jg xs).map fun l=>.lst ((Cd l).map .str) else none
  | [.dic kvs]=>if kvs.length<64 then (Jg (kvs.map fun p=>Vn p.1)).map fun l=>.lst ((Cd l).map .str) else none
  | _=>none
noncomputable def isTup:List T→Option T
  | [.tup _]=>some (.bl true)
  | [.obj _]=>none
  | [_]=>some (.bl false)
  | _=>none
noncomputable def isInt:List T→Option T
  | [.int _]=>some (.bl true)
  | [.bl _]=>some (.bl true)
  | [.obj _]=>none
  | [_]=>some (.bl false)
  | _=>none
noncomputable def a95:List T→Option T
  | [.bl _]=>some (.bl true)
  | [.obj _]=>none
  | [_]=>some (.bl false)
  | _=>none
noncomputable def isStr:List T→Option T
  | [.str _]=>some (.bl true)
  | [.obj _]=>none
  | [_]=>some (.bl false)
  | _=>none
noncomputable def a2i:T→Option T
  | .lst xs=>some (.lst xs.reverse)
  | .tup xs=>some (.tup xs.reverse)
  | _=>none
noncomputable def Mv:T→Bool
  | .non=>true
  | _=>false
noncomputable def a3q (x y:T):Option T:=if Mv y then some (.bl (Mv x)) else none
noncomputable def ni:List T→Option T
  | [.int i]=>some (.int (if i<0 then -i else i))
  | _=>none
noncomputable def yh (i:Nat):M T:=fun s=>match s.env[i]? with
  | some (some (.lst xs,_))=>some (.int xs.length,s)
  | some (some (.dic xs,_))=>some (.int xs.length,s)
  | _=>none
noncomputable def N8 (i:Nat) (s:Sta):Bool:=match s.env[i]? with
  | some (some (.dic _,_))=>true
  | _=>false
noncomputable def j4 (i:Nat) (s:Sta):Bool:=match s.env[i]? with
  | some (some (.lst _,_))=>true
  | _=>false
noncomputable def Gd (i:Nat) (k d:M T):M T:=fun s=>if N8 i s then (match k s with
  | some (kt,s1)=>match d s1 with
    | some (dt,s2)=>match s2.env[i]? with
      | some (some (.dic kvs,_))=>match keyOf kt with
        | some q=>some ((Uw q kvs).getD dt,s2)
        | none=>none
      | _=>none
    | none=>none
  | none=>none) else none
noncomputable def Bp (o:M T):M T:=fun s=>match o s with
  | some (.obj n,s1)=>match s1.sto[n]? with
    | some (.lst xs)=>some (.int xs.length,s1)
    | _=>none
  | _=>none
inductive Flow where
  | next | ret (t:T) | brk | cont
noncomputable abbrev S:=Sta→Option (Flow × Sta)
noncomputable def jt:S:=fun s=>some (.next,s)
noncomputable def j9 (a b:S):S:=fun s=>match a s with
  | some (.next,s1)=>b s1
  | r=>r
noncomputable def jh (e:M T):S:=fun s=>match e s with
  | some (t,s1)=>some (.ret t,s1)
  | none=>none
noncomputable def sIf (c:M Bool) (a b:S):S:=fun s=>match c s with
  | some (true,s1)=>a s1
  | some (false,s1)=>b s1
  | none=>none
noncomputable def bh (i:Nat) (t:T) (own:Bool) (s:Sta):Sta:={ s with env:=s.env.set i (some (t,own)) }
noncomputable def jg (i:Nat) (e:M T):S:=fun s=>match e s with
  | some (t,s1)=>some (.next,bh i t false s1)
  | none=>none
noncomputable def sNew (i:Nat) (e:M T):S:=fun s=>match e s with
  | some (t,s1)=>some (.next,bh i t true s1)
  | none=>none
noncomputable def c7 (i:Nat) (e:M T):S:=fun s=>if j4 i s then (match e s with
  | some (t,s1)=>match s1.env[i]? with
    | some (some (.lst xs,true))=>if xs.length<lim then some (.next,bh i (.lst (xs++[t])) true s1) else none
    | _=>none
  | none=>none) else none
noncomputable def iy:T→Option (List T)
  | .lst xs=>some xs
  | .tup xs=>some xs
  | _=>none
noncomputable def cu (i:Nat) (e:M T):S:=fun s=>if j4 i s then (match e s with
  | some (t,s1)=>match iy t,s1.env[i]? with
    | some ys,some (some (.lst xs,true))=>if xs.length+ys.length<lim then some (.next,bh i (.lst (xs++ys)) true s1) else none
    | _,_=>none
  | none=>none) else none
noncomputable def Bo (i:Nat) (k v:M T):S:=fun s=>match v s with
  | some (t,s1)=>if N8 i s1 then (match k s1 with
    | some (kt,s2)=>match s2.env[i]?,keyOf kt with
      | some (some (.dic kvs,true)),some q=>if kvs.length<lim then some (.next,bh i (.dic (a3f q t kvs)) true s2) else none
      | _,_=>none
    | none=>none) else none
  | none=>none
noncomputable def bx (i:Nat):S:=fun s=>match s.env[i]? with
  | some (some (.lst xs,true))=>some (.next,bh i (.lst xs.reverse) true s)
  | _=>none
noncomputable def sNx (u:S):S:=fun s=>match u s with
  | some (.next,s1)=>some (.next,s1)
  | _=>none
noncomputable def dh (i:Nat):S:=fun s=>match s.env[i]? with
  | some (some (t,true))=>some (.ret t,s)
  | _=>none
noncomputable abbrev G:=T→Sta→Option Sta
noncomputable def hName (i:Nat):G:=fun t s=>some (bh i t false s)
noncomputable def jz (is:List Nat):G:=fun t s=>match t with
  | .tup xs=>if xs.length=is.length then some ((is.zip xs).foldl (fun s p=>bh p.1 p.2 false s) s) else none
  | _=>none
noncomputable def sGo (g:G) (m:M T):S:=fun s=>match m s with
  | some (t,s1)=>match g t s1 with
    | some s2=>some (.next,s2)
    | none=>none
  | none=>none
noncomputable def forL (g:G) (b:S):List T→S
  | []=>fun s=>some (.next,s)
  | t::r=>fun s=>match g t s with
    | some s1=>match b s1 with
      | some (.next,s2)=>forL g b r s2
      | some (.cont,s2)=>forL g b r s2
      | some (.brk,s2)=>some (.next,s2)
      | some (.ret v,s2)=>some (.ret v,s2)
      | none=>none
    | none=>none
noncomputable def lu (g:G) (it:M (List T)) (b:S):S:=fun s=>match it s with
  | some (ts,s1)=>forL g b ts s1
  | none=>none
noncomputable def rangeT (n:Nat):List T:=(List.range n).map fun (k:Nat)=>.int (k:Int)
noncomputable def dz (a:M T):M (List T):=fun s=>match a s with
  | some (.int n,s1)=>if n.natAbs<lim then some (rangeT n.toNat,s1) else none
  | _=>none
noncomputable def jo (a:M T):M (List T):=fun s=>match a s with
  | some (.lst xs,s1)=>if xs.length<lim then some (xs,s1) else none
  | some (.tup xs,s1)=>if xs.length<lim then some (xs,s1) else none
  | _=>none
noncomputable def m8 (s:Slot):Slot:=match s with
  | some (t,_)=>some (t,false)
  | none=>none
noncomputable def ug (s:Sta):Sta:={ s with env:=s.env.map m8 }
noncomputable def Ei (g:G) (c:M Bool) (e:M T):List T→Sta→List T→Option (List T × Sta)
  | [],s,acc=>some (acc,s)
  | t::r,s,acc=>match g t s with
    | some s1=>match c s1 with
      | some (true,s2)=>match e s2 with
        | some (u,s3)=>if acc.length<lim then Ei g c e r (ug s3) (acc++[u]) else none
        | none=>none
      | some (false,s2)=>Ei g c e r (ug s2) acc
      | none=>none
    | none=>none
noncomputable def gw:M Bool:=fun s=>some (true,s)
noncomputable def bf (is:List Nat) (env:List Slot):List Slot:=is.foldl (fun e i=>match e[i]? with
  | some (some (t,_))=>e.set i (some (t,false))
  | _=>e) env
noncomputable def qp (nv:Nat) (cap:List Nat) (g:G) (it:M (List T)) (c:M Bool) (e:M T):M T:=fun s=>match it s with
  | some (ts,s1) =>
    let env:=bf cap s1.env
    match Ei g c e ts ⟨List.replicate nv none++cap.map (fun i=>(env[i]?).getD none),s1.sto⟩ [] with
    | some (us,s2)=>some (.lst us,⟨env,s2.sto⟩)
    | none=>none
  | none=>none
noncomputable def gk (n:Nat) (b:S):Fn:=fun ts sto=>match b ⟨ts.map (fun t=>some (t,false))++List.replicate (n - ts.length) none,sto⟩ with
  | some (.ret t,s)=>some (t,s.sto)
  | some (.next,s)=>some (.non,s.sto)
  | _=>none
noncomputable section
variable {s s':Sta} {t v:T} {a b:M T}
theorem M6 {f:T→T→Option T} (h:mOp f a b s=some (v,s')):∃ t s1 u,a s=some (t,s1)∧b s1=some (u,s')∧f t u=some v:=by
  unfold mOp at h
  cases ha:a s with
  | none=>rw [ha] at h; cases h
  | some p =>
    obtain ⟨t,s1⟩:=p; rw [ha] at h; dsimp only at h
    cases hb:b s1 with
    | none=>rw [hb] at h; cases h -- here
    | some p =>
      obtain ⟨u,s2⟩:=p; rw [hb] at h; dsimp only at h
      cases hf:f t u with
      | none=>rw [hf] at h; cases h
      | some w=>rw [hf] at h; cases h; exact ⟨t,s1,u,rfl,hb,hf⟩
theorem Qn {f:T→Option T} (h:mUn f a s=some (v,s')):∃ t,a s=some (t,s')∧f t=some v:=by
  unfold mUn at h
  cases ha:a s with
  | none=>rw [ha] at h; cases h
  | some p =>
    obtain ⟨t,s1⟩:=p; rw [ha] at h; dsimp only at h
    cases hf:f t with
    | none=>rw [hf] at h; cases h
    | some w=>rw [hf] at h; cases h; exact ⟨t,rfl,hf⟩
theorem Dq {f:List T→Option T} {a:M (List T)} (h:iu f a s=some (v,s')):∃ ts,a s=some (ts,s')∧f ts=some v:=by
  unfold iu at h
  cases ha:a s with
  | none=>rw [ha] at h; cases h
  | some p =>
    obtain ⟨t,s1⟩:=p; rw [ha] at h; dsimp only at h
    cases hf:f t with
    | none=>rw [hf] at h; cases h
    | some w=>rw [hf] at h; cases h; exact ⟨t,rfl,hf⟩
theorem Dk {r:M (List T)} {ts:List T} (h:ak a r s=some (ts,s')):∃ t s1 us,a s=some (t,s1)∧r s1=some (us,s')∧ts=t::us:=by
  unfold ak at h
  cases ha:a s with
  | none=>rw [ha] at h; cases h
  | some p =>
    obtain ⟨t,s1⟩:=p; rw [ha] at h; dsimp only at h
    cases hb:r s1 with
    | none=>rw [hb] at h; cases h -- here
    | some p=>obtain ⟨u,s2⟩:=p; rw [hb] at h; cases h; exact ⟨t,s1,u,rfl,hb,rfl⟩
theorem Yx {F:Fn} {a:M (List T)} (h:dw F a s=some (v,s')):∃ ts s1 sto,a s=some (ts,s1)∧F ts s1.sto=some (v,sto)∧s' = { s1 with sto:=sto }:=by
  unfold dw at h
  cases ha:a s with
  | none=>rw [ha] at h; cases h
  | some p =>
    obtain ⟨t,s1⟩:=p; rw [ha] at h; dsimp only at h
    cases hf:F t s1.sto with
    | none=>rw [hf] at h; cases h
    | some w=>obtain ⟨w,sto⟩:=w; rw [hf] at h; cases h; exact ⟨t,s1,sto,rfl,hf,rfl⟩
theorem Dg {b:Bool} (h:dj a s=some (b,s')):a s=some (.bl b,s'):=by
  unfold dj at h
  cases ha:a s with
  | none=>rw [ha] at h; cases h
  | some p =>
    obtain ⟨t,s1⟩:=p; rw [ha] at h
    cases t <;> first | (cases h; rfl) | (cases h)
theorem Ma {c:M Bool} (h:iw c s=some (v,s')):∃ b,c s=some (b,s')∧v=.bl b:=by
  unfold iw at h
  cases ha:c s with
  | none=>rw [ha] at h; cases h
  | some p=>obtain ⟨t,s1⟩:=p; rw [ha] at h; cases h; exact ⟨t,rfl,rfl⟩
theorem S8 {c:M Bool} {b:Bool} (h:m7 c s=some (b,s')):∃ k,c s=some (k,s')∧b=!k:=by
  unfold m7 at h
  cases ha:c s with
  | none=>rw [ha] at h; cases h
  | some p=>obtain ⟨t,s1⟩:=p; rw [ha] at h; cases h; exact ⟨t,rfl,rfl⟩
theorem Tz {c d:M Bool} {b:Bool} (h:jw c d s=some (b,s')):(∃ s1,c s=some (true,s1)∧d s1=some (b,s'))∨(c s=some (false,s')∧b=false):=by
  unfold jw at h
  cases ha:c s with
  | none=>rw [ha] at h; cases h
  | some p =>
    obtain ⟨k,s1⟩:=p; rw [ha] at h
    cases k with
    | true=>exact .inl ⟨s1,rfl,h⟩
    | false=>cases h; exact .inr ⟨rfl,rfl⟩
theorem a5i {c d:M Bool} {b:Bool} (h:mOr c d s=some (b,s')):(∃ s1,c s=some (false,s1)∧d s1=some (b,s'))∨(c s=some (true,s')∧b=true):=by
  unfold mOr at h
  cases ha:c s with
  | none=>rw [ha] at h; cases h
  | some p =>
    obtain ⟨k,s1⟩:=p; rw [ha] at h
    cases k with
    | false=>exact .inl ⟨s1,rfl,h⟩
    | true=>cases h; exact .inr ⟨rfl,rfl⟩
theorem a6n {c:M Bool} (h:mIf c a b s=some (v,s')):(∃ s1,c s=some (true,s1)∧a s1=some (v,s'))∨(∃ s1,c s=some (false,s1)∧b s1=some (v,s')):=by
  unfold mIf at h
  cases ha:c s with
  | none=>rw [ha] at h; cases h
  | some p =>
    obtain ⟨k,s1⟩:=p; rw [ha] at h
    cases k with
    | true=>exact .inl ⟨s1,rfl,h⟩
    | false=>exact .inr ⟨s1,rfl,h⟩
theorem a0c {i:Nat} (h:bw i s=some (v,s')):(s.env[i]? = some (some (v,false))∧s'=s)∨(s.env[i]? = some (some (v,true))∧s' = { s with env:=s.env.set i (some (v,false)) }):=by
  unfold bw at h
  split at h
  · rename_i t e; cases h; exact .inl ⟨e,rfl⟩
  · rename_i t e; cases h; exact .inr ⟨e,rfl⟩
  · cases h
end
end C
end
noncomputable section
set_option linter.all false
set_option maxRecDepth 100000
set_option maxHeartbeats 4000002
namespace L2
open PySem PySem.Spec PyProof.Rows
noncomputable section
variable {pr:Program} {wd:World} {Ar:Around} {Rs:Result→Shared→Prop} {s:Shared}
theorem Pj {el tgt itr:Expr} {cs:List Expr} {scp:Scope} {ps:Pos} {itv accv:Value} {en:Env} (J:Nat→Shared→Prop)
    (turn:∀ n z,J n z→wpAny (model pr wd) Ar (pyNext itv) (fun nx z1=>match nx with
      | none=>Rs (.ok .next) z1
      | some v=>wpAny (model pr wd) Ar (letOwnedTupleGo tgt itv v) (fun _ z2=>wpAny (model pr wd) Ar (assign tgt en v) (fun _ z3 =>
          wpAny (model pr wd) Ar (forIn cs true fun c go=>if go=true then do let ok ← isTrue c en (eval c en); pure (ForInStep.yield ok) else pure (ForInStep.yield go)) (fun ok z4 =>
            if ok=true then wpAny (model pr wd) Ar (eval el en) (fun x z5 =>
              wpAny (model pr wd) Ar (call (.builtin "list.append") [accv,x]) (fun _ z6=>∃ m,m<n∧J m z6) (fun _ _=>False) z5) (fun _ _=>False) z4
            else ∃ m,m<n∧J m z4) (fun _ _=>False) z3) (fun _ _=>False) z2) (fun _ _=>False) z1) (fun _ _=>False) z)
    (n:Nat) (h:J n s) :
    codeAny (model pr wd) Ar (.compLoop (.ListComp el [⟨tgt,itr,cs,0⟩] scp ps) 0 itv accv en) Rs s:=by
  refine codeAny_loop rfl J (fun k z hz=>?_) n h
  show wpAny _ Ar ((compTurn (.ListComp el [⟨tgt,itr,cs,0⟩] scp ps) 0 itv accv en).onRaise (fun ex=>do noteFrame ex en; theTreesLotGoes ex)) _ _ z
  refine wpAny_noted ?_
  rw [compTurn_list]
  refine wpAny_bind (wpAny_standAt (wpAny_bind (wpAny_mono (turn k z hz) (fun nx z1 g1=>?_) fun _ _ no=>no.elim)))
  cases nx with
  | none=>exact wpAny_pure g1
  | some v =>
    refine wpAny_bind (wpAny_mono g1 (fun _ z2 g2=>?_) fun _ _ no=>no.elim)
    refine wpAny_bind (wpAny_mono g2 (fun _ z3 g3=>wpAny_bind (wpAny_mono g3 (fun ok z4 g4=>?_) fun _ _ no=>no.elim)) fun _ _ no=>no.elim)
    cases ok with
    | false=>exact wpAny_pure (And.intro rfl g4)
    | true =>
      exact wpAny_bind (wpAny_bind (wpAny_mono g4 (fun x z5 g5=>wpAny_bind (wpAny_mono g5 (fun _ z6 g6=>wpAny_pure (wpAny_pure (And.intro rfl g6))) fun _ _ no=>no.elim)) fun _ _ no=>no.elim))
end
noncomputable def Ve (env:Env):List (Str × NameKind)→List (Str × Addr)→List (Str × Addr)
  | [],cs=>cs
  | (n,k)::r,cs=>Ve env r (if (k==NameKind.free)=true then (match env.cells.lookup n with | some c=>(n,c)::cs | none=>cs) else cs)
noncomputable def Ds (env:Env) (names:List (Str × NameKind)):Bool:=names.all fun y=>!(y.2==NameKind.free)||(env.cells.lookup y.1).isSome
theorem Fd {scope:Scope} {env:Env} (h:Ds env scope.names=true):closureFor scope env=pure (Ve env scope.names []):=by
  have key:∀ (l:List (Str × NameKind)) (cs:List (Str × Addr)),Ds env l=true →
      (forIn (m:=Sem) l cs fun x r=>(do
        if (x.2==NameKind.free)=true then
          let c ← cellOf env x.1
          pure (ForInStep.yield ((x.1,c)::r))
        else pure (ForInStep.yield r)))=pure (Ve env l cs):=by
    intro l
    induction l with
    | nil=>intro cs _; rfl
    | cons x r ih =>
      intro cs h
      obtain ⟨n,k⟩:=x
      unfold Ds at h
      rw [List.all_cons,Bool.and_eq_true] at h -- here
      obtain ⟨h1,h2⟩:=h
      rw [List.forIn_cons]
      by_cases hk:(k==NameKind.free)=true
      · have h1':(env.cells.lookup n).isSome=true:=by simpa [hk] using h1
        obtain ⟨c,hc⟩:=Option.isSome_iff_exists.mp h1'
        have e:cellOf env n=pure c:=by unfold cellOf; rw [hc]
        simp only [hk,if_true,e,pure_bind]
        rw [ih _ h2]
        simp only [Ve,hk,if_true,hc]
      · simp only [hk,if_false,pure_bind,Bool.false_eq_true]
        rw [ih _ h2]
        simp only [Ve,hk,if_false,Bool.false_eq_true]
  have:=key scope.names [] h
  unfold closureFor
  simpa using this
noncomputable def xr (X:Cx) (scope:Scope) (N:List Str) (C:Addr) (s₀:Shared) (H₀:Hp) (ex:List Addr) (pn:List (Addr × Obj)):Cx :=
  { X with N:=N,s₀:=s₀,H₀:=H₀,env:=compEnvC scope (Ve X.env scope.names []) C X.env,outer:=X.stack,ex:=ex,fn:=fun _=>false,pn:=pn,xe:=fun _ _=>False }
structure Kc (X:Cx) (scope:Scope) (N:List Str):Prop where
  has:Ds X.env scope.names=true
  kind:scope.kind=.function
  nocell:∀ y∈scope.names,y.2≠.cell
  names:∀ y∈scope.names,y.2=.local→scope.names.lookup y.1=some .local
noncomputable def a9i (X:Cx) (scope:Scope) (x:Str):Prop :=
  (X.env.kindOf x=some .cell∨X.env.kindOf x=some .free)∧Vis X.env.scope x∧((relabel scope X.env).names.lookup x=some .cell∨(relabel scope X.env).names.lookup x=some .free)
theorem Je {env:Env}:∀ (l:List (Str × NameKind)) (cs:List (Str × Addr)),(∀ x c,cs.lookup x=some c→env.cells.lookup x=some c) →
    ∀ x c,(Ve env l cs).lookup x=some c→env.cells.lookup x=some c
  | [],cs,h,x,c,e=>h x c e
  | (n,k)::r,cs,h,x,c,e=>by
    rw [Ve] at e
    refine Je r _ (fun y d q=>?_) x c e
    split at q
    · split at q
      · rename_i c' hc'
        rw [List.lookup_cons] at q
        split at q
        · rename_i hb
          cases q
          have hyn:=eq_of_beq hb
          rw [hyn]; exact hc'
        · exact h y d q
      · exact h y d q
    · exact h y d q
theorem Wc {env:Env}:∀ (l:List (Str × NameKind)) (cs:List (Str × Addr)) (x:Str),(∃ c,cs.lookup x=some c)→∃ c,(Ve env l cs).lookup x=some c
  | [],cs,x,h=>h
  | (n,k)::r,cs,x,h=>by
    rw [Ve]
    refine Wc r _ x ?_
    split
    · split
      · rename_i c' hc'
        rw [List.lookup_cons]
        split
        · exact ⟨_,rfl⟩
        · exact h
      · exact h
    · exact h
theorem Yk {env:Env}:∀ (l:List (Str × NameKind)) (cs:List (Str × Addr)) (x:Str),Ds env l=true→(x,NameKind.free)∈l→∃ c,(Ve env l cs).lookup x=some c
  | [],cs,x,_,h=>by simp at h
  | (n,k)::r,cs,x,hh,h=>by
    unfold Ds at hh
    rw [List.all_cons,Bool.and_eq_true] at hh
    rw [Ve]
    rcases List.mem_cons.mp h with e | h'
    · injection e with e1 e2
      subst e1; subst e2
      have h1:(env.cells.lookup x).isSome=true:=by simpa using hh.1
      obtain ⟨c,hc⟩:=Option.isSome_iff_exists.mp h1
      refine Wc r _ x ?_
      simp [hc]
    · exact Yk r _ x hh.2 h'
theorem mem_of_lookup {α:Type}:∀ {l:List (Str × α)} {x:Str} {k:α},l.lookup x=some k→(x,k)∈l
  | [],_,_,h=>by simp at h
  | (n,k')::r,x,k,h=>by
    rw [List.lookup_cons] at h
    split at h
    · rename_i hb
      cases h
      have hyn:=eq_of_beq hb
      rw [hyn]; exact List.mem_cons_self
    · exact List.mem_cons_of_mem _ (mem_of_lookup h)
theorem Ud {scope:Scope} {env:Env} (nc:∀ y∈scope.names,y.2≠.cell) {x:Str} (h:(relabel scope env).names.lookup x=some .cell∨(relabel scope env).names.lookup x=some .free):(x,NameKind.free)∈scope.names:=by
  have:∃ k,(x,k)∈(relabel scope env).names∧(k=.cell∨k=.free):=by
    rcases h with h | h
    · exact ⟨_,mem_of_lookup h,.inl rfl⟩
    · exact ⟨_,mem_of_lookup h,.inr rfl⟩
  obtain ⟨k,hm,hk⟩:=this
  obtain ⟨⟨n,k'⟩,hm',e⟩:=List.mem_map.mp hm
  dsimp only at e
  split at e
  · rename_i hc
    cases e
    simp only [Bool.and_eq_true,beq_iff_eq] at hc
    obtain ⟨⟨h1,_⟩,_⟩:=hc
    subst h1; exact hm'
  · cases e
    rcases hk with rfl | rfl
    · exact absurd rfl (nc _ hm')
    · exact hm'
noncomputable def PTs (X:Cx) (ifs:List Expr) (t:TT):Prop:=∀ (pins:List (Addr × Obj)) (s:Shared) (σ:St) (H:Hp) (Q:Bool→Hp→Prop),Inv X pins σ H s→t σ H Q →
  wpAny (model X.prog X.w) X.A (forIn ifs true fun c r=>if r=true then do let ok ← isTrue c X.env (eval c X.env); pure (ForInStep.yield ok) else pure (ForInStep.yield r)) (TP X pins σ Q) X.xe s
theorem a5b {X:Cx}:PTs X [] (fun _ H Q=>Q true H):=fun pins s σ H Q I h=>wpAny_tests_nil ⟨H,I,h⟩
theorem a4e {X:Cx} {c:Expr} {t:TT} (h:PT X c t):PTs X [c] t:=fun pins s σ H Q I q=>wpAny_tests_one (h pins s σ H Q I q)
noncomputable def Pz (X:Cx) (scope:Scope) (N:List Str) (g:TG) (tc:TT) (te:TE) (σ:St) (J:It) (H1:Hp) (Q:VK):Prop:=∀ D,H1 D=none→∃ σ0:St,σ0.length=N.length ∧
  (∀ (i:Nat) (v:V) (x:Str),σ0[i]? = some (some v)→N[i]? = some x→Vis (relabel scope X.env) x→∃ k:Nat,X.N[k]? = some x∧σ[k]? = some (some v)∧a9i X scope x) ∧
  ∃ W:Nat→Nat→St→Hp→Prop,(∃ m,W 0 m σ0 (upd H1 D (.lst [])))∧∀ i m σ' H',W i m σ' H' →
    (J.stop i H'∧Q (.ref D) H')∨(J.go i H'∧∀ x H2,J.yld i H' x H2→g x σ' H2 fun σ2 H3=>tc σ2 H3 fun b H4=>if b=true then te σ2 H4 fun y H5=>∃ l,H5 D=some (.lst l)∧l.length<sizeLine∧∃ m',m'<m∧W (i+1) m' σ2 (upd H5 D (.lst (l++[y]))) else ∃ m',m'<m∧W (i+1) m' σ2 H4)
noncomputable def a6w (X:Cx) (scope:Scope) (N:List Str) (wi:TI) (g:TG) (tc:TT) (te:TE):TE:=fun σ H Q=>wi σ H fun J H1=>Pz X scope N g tc te σ J H1 Q
noncomputable section
variable {X:Cx} {scope:Scope} {N:List Str}
theorem Ym (sc:Kc X scope N) {pins:List (Addr × Obj)} {σ:St} {H:Hp} {s:Shared} {fp:List Addr} (I:Inv X pins σ H s) (hf:∀ b∈fp,P0 X pins H b) (hfl:∀ b∈fp,b<s.heap.objs.size) :
    (xr X scope N s.heap.objs.size s H fp (X.pn++pins)).Ok where
  mod:=I.ok.mod
  kind:=sc.kind
  glob:=I.ok.glob
  blt:=I.ok.blt
  above:=Nat.le_refl _
  inj:=fun x y c h1 h2=>I.ok.inj x y c (Je _ [] (fun _ _ z=>by simp at z) x c h1) (Je _ [] (fun _ _ z=>by simp at z) y c h2)
  has:=fun x h=>Yk _ [] x sc.has (Ud sc.nocell h)
  cab:=fun x c h=>by cases h
  hd:=I.ok.hd
  frames:=I.ok.frames
  stk:=.inl rfl
  exf:=fun b hb=>⟨Nat.ne_of_lt (hfl b hb),fun x c h=>(hf b hb).2.2.2.2.1 x c (Je _ [] (fun _ _ z=>by simp at z) x c h)⟩
  bs:=I.bs
  bsz:=Nat.le_trans I.ok.bsz I.sz
  noex:=fun b o e hb=>by
    rcases (hf b hb).2.2.2.1 with z | z
    · exact I.ok.noex b o e z
    · exact absurd (Nat.lt_of_lt_of_le (Heap.lt_size e) (Nat.le_trans I.ok.bsz z)) (Nat.lt_irrefl _)
  exfs:=fun b hb z=>by
    rcases List.mem_cons.mp (I.Ue b z) with e | e
    · exact (hf b hb).2.1 e
    · exact (hf b hb).2.2.1 e
  W4:=I.stack
  frf:=I.W9
theorem Vu (sc:Kc X scope N) {pins:List (Addr × Obj)} {σ σ0:St} {H:Hp} {s:Shared} {fp:List Addr} {h':Heap} {m:Str→Option Value} {tk:Nat} (I:Inv X pins σ H s) (hf:∀ b∈fp,P0 X pins H b) (hfl:∀ b∈fp,b<s.heap.objs.size)
    (hl:σ0.length=N.length) (h0:∀ (i:Nat) (v:V) (x:Str),σ0[i]? = some (some v)→N[i]? = some x→Vis (relabel scope X.env) x→∃ k:Nat,X.N[k]? = some x∧σ[k]? = some (some v)∧a9i X scope x)
    (hn:h'.Ns s.heap.objs.size m) (hk:∀ b o,s.heap.get? b=some o→h'.get? b=some o) :
    Inv (xr X scope N s.heap.objs.size s H fp (X.pn++pins)) [] σ0 H { s with heap:=h',toks:=tk } where
  ok:=Ym sc I hf hfl
  os:=rfl
  bare:=I.bare
  base:=Un.kept hk
  loc:=⟨m,hn,fun i x v e1 e2 e3=>by
    obtain ⟨k,n2,n3,ck,cv,cr⟩:=h0 i v x e2 e1 e3
    obtain ⟨m0,_,hl0⟩:=I.loc
    obtain ⟨u,r,l⟩:=hl0 k x v n2 n3 cv
    refine ⟨u,r,.inr ⟨cr,?_⟩⟩
    rcases l with ⟨l1,_⟩ | ⟨_,c,hc,z⟩
    · rcases ck with q | q <;> (rw [l1] at q; cases q)
    · obtain ⟨c',hc'⟩:=Yk (env:=X.env) scope.names [] x sc.has (Ud sc.nocell cr)
      have q:=Je scope.names [] (fun _ _ z=>by simp at z) x c' hc'
      rw [hc] at q; cases q
      obtain ⟨o,ho,hd⟩:=z
      exact ⟨c,hc',o,hk _ _ ho,hd⟩⟩
  cell:=fun x c e=>by
    obtain ⟨v,o,ho,hd⟩:=I.cell x c (Je scope.names [] (fun _ _ z=>by simp at z) x c e)
    exact ⟨v,o,hk _ _ ho,hd⟩
  free:=I.hok.fresh (Nat.le_refl _)
  freeC:=fun x c e=>I.freeC x c (Je scope.names [] (fun _ _ z=>by simp at z) x c e)
  pin:=fun p hp=>by
    have hp':p∈X.pn++pins:=by simpa [xr] using hp
    obtain ⟨a,b,c,d,e⟩:=I.pin p hp'
    refine ⟨hk _ _ a,b,Nat.ne_of_lt (Heap.lt_size a),fun z=>?_,e⟩
    rcases List.mem_cons.mp (I.Ue p.1 z) with q | q
    · exact c q
    · exact d q
  hok:=I.hok.kept hk
  len:=hl
theorem Sh {pins:List (Addr × Obj)} {σ σ':St} {H H':Hp} {s s':Shared} {fp:List Addr} {h':Heap} (I:Inv X pins σ H s) (hf:∀ b∈fp,P0 X pins H b)
    (J:Inv (xr X scope N s.heap.objs.size s H fp (X.pn++pins)) [] σ' H' s') (hs:Heap.SameBut s.heap.objs.size s'.heap h'):Inv X pins σ H' { s' with heap:=h' }:=by
  have kb:∀ b o,b≠s.heap.objs.size→s'.heap.get? b=some o→h'.get? b=some o:=fun b o n e=>hs.extBut b o n e
  have ne:∀ b o,s.heap.get? b=some o→b≠s.heap.objs.size:=fun b o e=>Nat.ne_of_lt (Heap.lt_size e)
  have fr:H' s.heap.objs.size=none:=J.free
  have u0:Un (frs X.stack) fp H H' s.heap s'.heap:=J.base
  have u:Un (frs X.stack) fp H H' s.heap h':=⟨fun b o e n h1 h2=>kb b o (ne b o e) (u0.keep b o e n h1 h2),fun b o e n h1 h2=>by
      obtain ⟨sl,q⟩:=u0.slot b o e n h1 h2
      exact ⟨sl,kb b _ (ne b o e) q⟩,u0.free,fun b o e h=>by
      obtain ⟨o',q⟩:=u0.there b o e h
      exact ⟨o',kb b _ (ne b o e) q⟩,u0.tups,u0.frzs,u0.tbls⟩
  have hok:HOk X.prog X.w H' h':=fun b o e=>by
    refine (J.hok b o e).stay (fun c v hc q=>kb c v ?_ q) (fun _ q=>q) fun _ _ q=>q
    rcases hc with z | z
    · rw [z]; intro y; rw [y] at e; rw [fr] at e; cases e
    · intro y; rw [y] at z; rw [fr] at z; cases z
  have hos:s'.os=s.os:=J.os
  obtain ⟨hh,g,d,t,os'⟩:=s'
  obtain rfl:os'=s.os:=hos
  exact Inv.call (X:=X) (s:=s) (H:=H) (h':=h') (g':=g) (d':=d) (t':=t) (ch:=fp) I u hok J.bare fun b hb=>⟨(hf b hb).2.2.2.1,(hf b hb).2.1,(hf b hb).2.2.2.2.1,(hf b hb).2.2.2.2.2⟩
variable {tg iter elt:Expr} {ifs:List Expr} {pos:Pos} {g:TG} {tc:TT} {te:TE}
theorem Ke (sc:Kc X scope N) (calm:X.calm=true)
    (hg:∀ C s₀ H₀ ex pn,PG (xr X scope N C s₀ H₀ ex pn) tg g) (hc:∀ C s₀ H₀ ex pn,PTs (xr X scope N C s₀ H₀ ex pn) ifs tc) (he:∀ C s₀ H₀ ex pn,PE (xr X scope N C s₀ H₀ ex pn) elt te)
    {pins:List (Addr × Obj)} {σ:St} {H1:Hp} {s₂:Shared} {it:Addr} {fp:List Addr} {tn:Nat→Heap→Prop} {J:It} {Q:VK} {E:Value→Shared→Prop} {RR:Value→Addr→Result→Shared→Prop}
    (I:Inv X pins σ H1 s₂) (T:Turn X.prog X.w X.K tg J fp it tn) (st2:tn 0 s₂.heap) (f2:∀ b∈fp,P0 X pins H1 b) (q:Pz X scope N g tc te σ J H1 Q)
    (hRR:∀ D s₃ H3 σ' H' s',Inv X pins σ H3 s₃→(∀ b∈fp,P0 X pins H3 b)→Inv (xr X scope N s₃.heap.objs.size s₃ H3 fp (X.pn++pins)) [] σ' H' s'→Q (.ref D) H'→RR (.ref D) s₃.heap.objs.size (.ok .next) s') :
    wpAny (model X.prog X.w) X.A (newList []) (fun acc s₃=>wpAny (model X.prog X.w) X.A (newFunctionEnv scope X.env.globals (Ve X.env scope.names []) [] X.env.qual none .none (some X.env)) (fun cenv s₄ =>
      codeAny (model X.prog X.w) X.A (.compStart (.ListComp elt [⟨tg,iter,ifs,0⟩] scope pos) 0 (.ref it) acc { cenv with scope:=relabel scope X.env }) (RR acc cenv.locals) s₄) E s₃) E s₂:=by
  refine wpAny_newObj_type (wpAny_newFunctionEnv sc.nocell (by intro y hy; simp at hy) (fun h₁ hns₁ hsb₁=>?_) sc.kind)
  dsimp only at hns₁ hsb₁ ⊢
  have I3:Inv X pins σ (upd H1 s₂.heap.objs.size (.lst [])) { s₂ with heap:=s₂.heap.push { cls:=.type "list",dict:=none,data:=.seq ([]:List Value).toArray } } :=
    I.laid (t':=s₂.toks) (fun b ob q=>Heap.get?_push_of_some _ q) (Nat.le_refl _) ⟨Nat.zero_le _,[],_,.nil,Heap.get?_push_size _ rfl⟩
  generalize hs3:({ s₂ with heap:=s₂.heap.push { cls:=.type "list",dict:=none,data:=.seq ([]:List Value).toArray } }:Shared)=s₃ at I3
  have hheap:s₂.heap.push { cls:=.type "list",dict:=none,data:=.seq ([]:List Value).toArray } = s₃.heap:=by rw [← hs3]
  have hstate:∀ (h:Heap) (t:Nat),({ s₂ with heap:=h,toks:=t }:Shared) = { s₃ with heap:=h,toks:=t }:=fun h t=>by rw [← hs3]
  rw [hheap] at hns₁ hsb₁ ⊢
  have lt2:∀ b∈fp,b<s₂.heap.objs.size:=fun b hb=>by
    obtain ⟨o,ho,_⟩:=T.obj _ _ st2 b hb
    exact Heap.lt_size ho
  have sz3:s₃.heap.objs.size=s₂.heap.objs.size+1:=by rw [← hheap,Heap.size_push]
  have k23:∀ b o,s₂.heap.get? b=some o→s₃.heap.get? b=some o:=fun b o e=>by rw [← hheap]; exact Heap.get?_push_of_some _ e
  have f3:∀ b∈fp,P0 X pins (upd H1 s₂.heap.objs.size (.lst [])) b:=fun b hb=>⟨by rw [n8 (Nat.ne_of_lt (lt2 b hb))]; exact (f2 b hb).1,(f2 b hb).2⟩
  have lt3:∀ b∈fp,b<s₃.heap.objs.size:=fun b hb=>by rw [sz3]; exact Nat.lt_succ_of_lt (lt2 b hb)
  obtain ⟨σ0,hl,h0,W,⟨m0,w0⟩,turn⟩:=q s₂.heap.objs.size (I.hok.fresh (Nat.le_refl _))
  have k34:∀ b o,s₃.heap.get? b=some o→h₁.get? b=some o:=fun b o e=>hsb₁.extBut b o (Nat.ne_of_lt (Heap.lt_size e)) (Heap.get?_push_of_some _ e)
  rw [hstate]
  have J0:=Vu (tk:=s₂.toks+([]:List (Str × Value)).length) sc I3 f3 lt3 hl h0 hns₁ k34
  have st4:tn 0 h₁:=T.keep _ _ _ st2 fun b _ o e=>k34 b o (k23 b o e)
  have key:∀ s₄:Shared,s₄ = { s₃ with heap:=h₁,toks:=s₂.toks+([]:List (Str × Value)).length }→codeAny (model X.prog X.w) X.A (.compLoop (.ListComp elt [⟨tg,iter,ifs,0⟩] scope pos) 0 (.ref it) (.ref s₂.heap.objs.size)
      (xr X scope N s₃.heap.objs.size s₃ (upd H1 s₂.heap.objs.size (.lst [])) fp (X.pn++pins)).env) (RR (.ref s₂.heap.objs.size) s₃.heap.objs.size) s₄:=by
    rintro s₄ rfl
    generalize hX:xr X scope N s₃.heap.objs.size s₃ (upd H1 s₂.heap.objs.size (.lst [])) fp (X.pn++pins)=X' at J0
    have hP:X'.prog=X.prog:=by rw [← hX]; rfl
    have hW:X'.w=X.w:=by rw [← hX]; rfl
    have hA:X'.A=X.A:=by rw [← hX]; rfl
    have hxe:X'.xe=fun _ _=>False:=by rw [← hX]; rfl
    have hK:X'.K=X.K:=by rw [← hX]; rfl
    have hcal:X'.calm=true:=by rw [← hX]; exact calm
    have stat:∀ {H':Hp},(∀ b∈fp,H' b=none)→∀ b∈fp,P0 X' [] H' b:=fun hn b hb=>by
      have z:=Ym sc I3 f3 lt3
      rw [hX] at z
      refine ⟨hn b hb,(z.exf b (by rw [← hX]; exact hb)).1,z.exfs b (by rw [← hX]; exact hb),.inl (by rw [← hX]; exact hb),(z.exf b (by rw [← hX]; exact hb)).2,fun p hp=>?_⟩
      have hp':p∈X.pn++pins:=by rw [← hX] at hp; simpa [xr] using hp
      exact (f3 b hb).2.2.2.2.2 p hp'
    have hg':PG X' tg g:=by rw [← hX]; exact hg _ _ _ _ _
    have hc':PTs X' ifs tc:=by rw [← hX]; exact hc _ _ _ _ _
    have he':PE X' elt te:=by rw [← hX]; exact he _ _ _ _ _
    have fin:∀ σ' H' s',Inv X' [] σ' H' s'→Q (.ref s₂.heap.objs.size) H'→RR (.ref s₂.heap.objs.size) s₃.heap.objs.size (.ok .next) s':=fun σ' H' s' I' q'=>hRR _ s₃ _ σ' H' s' I3 f3 (by rw [hX]; exact I') q'
    have T':Turn X'.prog X'.w X'.K tg J fp it tn:=by rw [hP,hW,hK]; exact T
    rw [← hP,← hW,← hA]
    refine Pj (J:=fun n s'=>∃ i σ' H',Inv X' [] σ' H' s'∧tn i s'.heap∧(∀ b∈fp,H' b=none)∧W i n σ' H') ?_ m0 ⟨0,σ0,_,J0,st4,fun b hb=>(f3 b hb).1,w0⟩
    rintro n s5 ⟨i,σ5,H5,I5,st5,fr5,w5⟩
    rcases turn i n σ5 H5 w5 with ⟨stop,qn⟩ | ⟨go,step⟩
    · refine thn (T'.done X' rfl rfl rfl hcal i [] s5 σ5 H5 _ I5 (stat fr5) st5 stop) fun r s6 z0=>?_
      obtain ⟨hr,I6⟩:=z0
      subst hr
      exact fin _ _ _ I6 qn
    · refine thn (T'.item X' rfl rfl rfl hcal i [] s5 σ5 H5 _ I5 (stat fr5) st5 go) fun r s6 z0=>?_
      obtain ⟨u,hr,h6⟩:=z0
      subst hr
      refine thn h6 fun _ s7 z0=>?_
      obtain ⟨x,H7,I7,r7,y7,st7,fr7⟩:=z0
      have I7':=I7.pinned (stat fr7) (T'.obj _ _ st7)
      have a1:=hg' _ s7 σ5 H7 x u _ I7' r7 (step x H7 y7)
      rw [hxe] at a1
      refine thn a1 fun _ s8 z0=>?_
      obtain ⟨σ8,H8,I8,q8⟩:=z0
      have a2:=hc' _ s8 σ8 H8 _ I8 q8
      rw [hxe] at a2
      refine thn a2 fun ok s9 z0=>?_
      obtain ⟨H9,I9,q9⟩:=z0
      have again:∀ {σ7:St} {H7:Hp} {s':Shared} {m':Nat},Inv X' ([]++Ol fp s7.heap) σ7 H7 s'→m'<n→W (i+1) m' σ7 H7→∃ m,m<n∧∃ i σ' H',Inv X' [] σ' H' s'∧tn i s'.heap∧(∀ b∈fp,H' b=none)∧W i m σ' H':=fun {σ7 H7 s' m'} I7 hm w7=>by
        refine ⟨m',hm,i+1,σ7,H7,I7.Fw,T'.keep _ _ _ st7 fun b hb o e=>(I7.pin (b,o) (List.mem_append_right _ (List.mem_append_right _ (Ca hb e)))).1,fun b hb=>?_,w7⟩
        obtain ⟨o,e,d⟩:=T'.obj _ _ st7 b hb
        exact (I7.pin (b,o) (List.mem_append_right _ (List.mem_append_right _ (Ca hb e)))).2.1
      cases ok with
      | false =>
        rw [if_neg Bool.false_ne_true] at q9 ⊢
        obtain ⟨m',hm,w9⟩:=q9
        exact again I9 hm w9
      | true =>
        rw [if_pos rfl] at q9 ⊢
        have a3:=he' _ s9 σ8 H9 _ I9 q9
        rw [hxe] at a3
        refine thn a3 fun xv s10 z0=>?_
        obtain ⟨y,H10,I10,r10,l,hl10,hz10,m',hm,w10⟩:=z0
        have a4:=v9 (X:=X') _ s10 σ8 H10 (.ref s₂.heap.objs.size) [y] (.ref s₂.heap.objs.size) [xv] (fun _ H'=>H'=upd H10 s₂.heap.objs.size (.lst (l++[y]))) I10 rfl (.cons r10 .nil) ⟨_,l,y,rfl,rfl,hl10,hz10,rfl⟩
        rw [hxe] at a4
        refine thn a4 fun _ s11 z0=>?_
        obtain ⟨v,H11,I11,_,e11⟩:=z0
        subst e11
        exact again I11 hm w10
  exact codeAny_compStart_list (key _ rfl) (T.self _ 0 _ _ _ st4 (key _ rfl))
theorem a5r {wi:TI} (sc:Kc X scope N) (calm:X.calm=true) (hi:PI X tg iter wi)
    (hg:∀ C s₀ H₀ ex pn,PG (xr X scope N C s₀ H₀ ex pn) tg g) (hc:∀ C s₀ H₀ ex pn,PTs (xr X scope N C s₀ H₀ ex pn) ifs tc) (he:∀ C s₀ H₀ ex pn,PE (xr X scope N C s₀ H₀ ex pn) elt te)
    (hs:∀ x,foldedSetIterable iter X.env x=pure x:=by intro _; rfl):PE X (.ListComp elt [⟨tg,iter,ifs,0⟩] scope pos) (a6w X scope N wi g tc te):=by
  intro pins s σ H Q I h
  rw [eval_ListComp]
  refine wpAny_comprehension_free (use:=none) rfl hs (Fd sc.has) sc.kind sc.names ?_
  refine wpAny_mono (hi pins s σ H _ I h) (fun x s₁ h₁=>wpAny_mono h₁ (fun itv s₂ h₂=>?_) fun _ _ e=>e) fun _ _ e=>e
  obtain ⟨it,fp,tn,J,H1,rfl,I2,T,st2,f2,q⟩:=h₂
  refine Ke (RR:=fun acc C=>compPost (model X.prog X.w) X.A X.xe none (EP X pins σ Q) acc C) sc calm hg hc he I2 T st2 f2 q ?_
  intro D s₃ H3 σ' H' s' I3 f3 I' qn
  obtain ⟨m,hn,_⟩:=I'.loc
  exact ⟨m,hn,fun h' hs'=>⟨.ref D,H',Sh I3 f3 I' hs',rfl,qn⟩⟩
theorem Le {wi:TI} {y:Str} {py spos:Pos} {i:Nat} (sc:Kc X scope N) (calm:X.calm=true) (hi:PI X tg iter wi)
    (hg:∀ C s₀ H₀ ex pn,PG (xr X scope N C s₀ H₀ ex pn) tg g) (hc:∀ C s₀ H₀ ex pn,PTs (xr X scope N C s₀ H₀ ex pn) ifs tc) (he:∀ C s₀ H₀ ex pn,PE (xr X scope N C s₀ H₀ ex pn) elt te)
    (hgN:PG X (.Name y py) (Jq i)) (hsw:swapsWith (.ListComp elt [⟨tg,iter,ifs,0⟩] scope pos) (some (.Name y py)) spos.line X.env=pure true)
    (hs:∀ x,foldedSetIterable iter X.env x=pure x:=by intro _; rfl):PS X (.Assign [.Name y py] (.ListComp elt [⟨tg,iter,ifs,0⟩] scope pos) spos) (a2v (a6w X scope N wi g tc te) (Jq i)):=by
  intro pins s σ H D I h
  rw [exec_Assign_Name_used _ _ _ _ hsw] -- here
  refine wpAny_bind (wpAny_standAt (wpAny_bind ?_)) -- here
  show wpAny _ X.A (do let _ ← comprehension (.ListComp elt [⟨tg,iter,ifs,0⟩] scope pos) scope X.env _ (newList []) false (eval iter X.env) (some (assign (.Name y py) X.env))) _ _ s
  refine wpAny_bind (wpAny_mono (wpAny_comprehension_free (use:=some (assign (.Name y py) X.env)) (Q:=fun _ s'=>SP X pins D .next s') rfl hs (Fd sc.has) sc.kind sc.names ?_) (fun _ s' hq=>wpAny_pure (wpAny_pure hq)) fun _ _ e=>e)
  refine wpAny_mono (hi pins s σ H _ I h) (fun x s₁ h₁=>wpAny_mono h₁ (fun itv s₂ h₂=>?_) fun _ _ e=>e) fun _ _ e=>e
  obtain ⟨it,fp,tn,J,H1,rfl,I2,T,st2,f2,q⟩:=h₂
  refine Ke (RR:=fun acc C=>compPost (model X.prog X.w) X.A X.xe (some (assign (.Name y py) X.env)) (fun _ s'=>SP X pins D .next s') acc C) sc calm hg hc he I2 T st2 f2 q ?_
  intro D' s₃ H3 σ' H' s' I3 f3 I' qn
  obtain ⟨m,hn,_⟩:=I'.loc
  obtain ⟨oC,es,ep,hoC,hdC,hrest⟩:=id hn
  have IX:Inv X pins σ H' s':=Sh I3 f3 I' (.refl ..)
  have fC:P0 X pins H' s₃.heap.objs.size:=I3.a85 (Nat.le_refl _) I'.free
  have IXp:=IX.pinned (fp:=[s₃.heap.objs.size]) (fun b hb=>by rw [List.mem_singleton.mp hb]; exact fC) (fun b hb=>by
    rw [List.mem_singleton.mp hb]
    exact ⟨oC,hoC,fun v z=>by rw [hdC] at z; cases z⟩)
  show wpAny _ X.A (assign (.Name y py) X.env (.ref D')) _ _ _
  refine thn (hgN _ s' σ H' (.ref D') (.ref D') _ IXp rfl qn) fun _ s'' z0=>?_
  obtain ⟨σ'',H'',I'',q''⟩:=z0
  have pC:=I''.pin (s₃.heap.objs.size,oC) (List.mem_append_right _ (List.mem_append_right _ (Ca (by simp) hoC)))
  refine ⟨m,⟨oC,es,ep,pC.1,hdC,hrest⟩,fun h' hs'=>⟨σ'',H'',?_,q''⟩⟩
  exact I''.Fw.turned (h':=h') (t':=s''.toks) (it:=s₃.heap.objs.size) (fun b o ne e=>hs'.extBut b o ne e) pC.2.1 fC.2.1 fC.2.2.2.1 fC.2.2.2.2.1 fC.2.2.2.2.2
end
end L2
end
noncomputable section
set_option linter.all false
set_option maxHeartbeats 4000002
set_option autoImplicit false
namespace C
open PySem PySem.Spec PyProof.Rows L2
mutual
inductive Rep (K:PySem.W.Frag) (S:Hp) (as:List Addr):V→T→Prop where
  | non:Rep K S as .non .non
  | bl (b:Bool):Rep K S as (.bl b) (.bl b)
  | int (i:Int):Rep K S as (.int i) (.int i)
  | str (x:Str):Rep K S as (.str x) (.str x)
  | tup {a:Addr} {vs:List V} {ts:List T}:SqT K S a vs→ux K S as vs ts→Rep K S as (.ref a) (.tup ts)
  | lst {a:Addr} {vs:List V} {ts:List T}:SqL K S a vs→ux K S as vs ts→Rep K S as (.ref a) (.lst ts)
  | dic {a:Addr} {kvs:List (L2.Key × V)} {ts:List (L2.Key × T)}:Rd S a (.dK kvs)→Ef K S as kvs ts→Rep K S as (.ref a) (.dic ts)
  | obj {n:Nat} {a:Addr}:as[n]? = some a→Rep K S as (.ref a) (.obj n)
inductive ux (K:PySem.W.Frag) (S:Hp) (as:List Addr):List V→List T→Prop where
  | nil:ux K S as [] []
  | cons {v:V} {t:T} {vs:List V} {ts:List T}:Rep K S as v t→ux K S as vs ts→ux K S as (v::vs) (t::ts)
inductive Ef (K:PySem.W.Frag) (S:Hp) (as:List Addr):List (L2.Key × V)→List (L2.Key × T)→Prop where
  | nil:Ef K S as [] []
  | cons {k:L2.Key} {v:V} {t:T} {vs:List (L2.Key × V)} {ts:List (L2.Key × T)}:Rep K S as v t→Ef K S as vs ts→Ef K S as ((k,v)::vs) ((k,t)::ts)
end
theorem Ae {S S':Hp} {a:Addr} {u:HO} (e:Same S S') (h:Rd S a u):Rd S' a u:=by
  rcases h with h | ⟨o,h⟩
  · exact .inl (e _ _ h)
  · exact .inr ⟨o,e _ _ h⟩
theorem qt {K:PySem.W.Frag} {S S':Hp} {a:Addr} {xs:List V} (e:Same S S') (h:SqT K S a xs):SqT K S' a xs:=by
  rcases h with h | h
  · exact .inl (Ae e h)
  · exact .inr h
theorem mq {K:PySem.W.Frag} {S S':Hp} {a:Addr} {xs:List V} (e:Same S S') (h:SqL K S a xs):SqL K S' a xs:=by
  rcases h with h | h
  · exact .inl (Ae e h)
  · exact .inr h
noncomputable section
variable {K:PySem.W.Frag} {S S':Hp} {as as':List Addr}
theorem Yc {α:Type} {l r:List α} {n:Nat} {a:α} (h:l[n]? = some a):(l++r)[n]? = some a:=by
  have:=(List.getElem?_eq_some_iff.mp h).1
  rw [List.getElem?_append_left this]; exact h
theorem Qz {n:Nat} {a:Addr} (x:∃ l,as'=as++l) (h:as[n]? = some a):as'[n]? = some a:=by obtain ⟨l,rfl⟩:=x; exact Yc h
theorem Rep.mono (e:Same S S') (x:∃ l,as'=as++l) {v:V} {t:T} (h:Rep K S as v t):Rep K S' as' v t :=
  Rep.rec (motive_1:=fun v t _=>Rep K S' as' v t) (motive_2:=fun v t _=>ux K S' as' v t) (motive_3:=fun v t _=>Ef K S' as' v t) .non .bl .int .str (fun h _ i=>.tup (qt e h) i) (fun h _ i=>.lst (mq e h) i) (fun h _ i=>.dic (Ae e h) i) (fun h=>.obj (Qz x h)) .nil (fun _ _ a b=>.cons a b) .nil (fun _ _ a b=>.cons a b) h
theorem ux.mono (e:Same S S') (x:∃ l,as'=as++l) {v:List V} {t:List T} (h:ux K S as v t):ux K S' as' v t :=
  ux.rec (motive_1:=fun v t _=>Rep K S' as' v t) (motive_2:=fun v t _=>ux K S' as' v t) (motive_3:=fun v t _=>Ef K S' as' v t) .non .bl .int .str (fun h _ i=>.tup (qt e h) i) (fun h _ i=>.lst (mq e h) i) (fun h _ i=>.dic (Ae e h) i) (fun h=>.obj (Qz x h)) .nil (fun _ _ a b=>.cons a b) .nil (fun _ _ a b=>.cons a b) h
theorem Ef.mono (e:Same S S') (x:∃ l,as'=as++l) {v:List (L2.Key × V)} {t:List (L2.Key × T)} (h:Ef K S as v t):Ef K S' as' v t :=
  Ef.rec (motive_1:=fun v t _=>Rep K S' as' v t) (motive_2:=fun v t _=>ux K S' as' v t) (motive_3:=fun v t _=>Ef K S' as' v t) .non .bl .int .str (fun h _ i=>.tup (qt e h) i) (fun h _ i=>.lst (mq e h) i) (fun h _ i=>.dic (Ae e h) i) (fun h=>.obj (Qz x h)) .nil (fun _ _ a b=>.cons a b) .nil (fun _ _ a b=>.cons a b) h
inductive a2e (K:PySem.W.Frag) (S:Hp) (as:List Addr):List (List L2.Key × V)→List (List L2.Key × T)→Prop where
  | nil:a2e K S as [] []
  | cons {k:List L2.Key} {v:V} {t:T} {vs:List (List L2.Key × V)} {ts:List (List L2.Key × T)}:Rep K S as v t→a2e K S as vs ts→a2e K S as ((k,v)::vs) ((k,t)::ts)
theorem a2e.mono (e:Same S S') (x:∃ l,as'=as++l) {v:List (List L2.Key × V)} {t:List (List L2.Key × T)} (h:a2e K S as v t):a2e K S' as' v t:=by
  induction h with
  | nil=>exact .nil
  | cons h _ ih=>exact .cons (h.mono e x) ih
theorem a2e.length {vs:List (List L2.Key × V)} {ts:List (List L2.Key × T)} (h:a2e K S as vs ts):vs.length=ts.length:=by
  induction h with
  | nil=>rfl
  | cons _ _ ih=>exact congrArg (· + 1) ih
theorem ux.length {vs:List V} {ts:List T} (h:ux K S as vs ts):vs.length=ts.length :=
  ux.rec (motive_1:=fun _ _ _=>True) (motive_2:=fun v t _=>v.length=t.length) (motive_3:=fun _ _ _=>True) trivial (fun _=>trivial) (fun _=>trivial) (fun _=>trivial) (fun _ _ _=>trivial) (fun _ _ _=>trivial) (fun _ _ _=>trivial) (fun _=>trivial) rfl (fun _ _ _ i=>congrArg (· + 1) i) trivial (fun _ _ _ _=>trivial) h
theorem Ef.length {vs:List (L2.Key × V)} {ts:List (L2.Key × T)} (h:Ef K S as vs ts):vs.length=ts.length :=
  Ef.rec (motive_1:=fun _ _ _=>True) (motive_2:=fun _ _ _=>True) (motive_3:=fun v t _=>v.length=t.length) trivial (fun _=>trivial) (fun _=>trivial) (fun _=>trivial) (fun _ _ _=>trivial) (fun _ _ _=>trivial) (fun _ _ _=>trivial) (fun _=>trivial) trivial (fun _ _ _ _=>trivial) rfl (fun _ _ _ i=>congrArg (· + 1) i) h
theorem ux.get:∀ {vs:List V} {ts:List T} {i:Nat} {t:T},ux K S as vs ts→ts[i]? = some t→∃ v,vs[i]? = some v∧Rep K S as v t
  | _,_,_,_,.nil,e=>by simp at e
  | _,_,0,_,.cons r _,e=>by simp at e; subst e; exact ⟨_,rfl,r⟩
  | _,_,i+1,t,.cons _ r,e=>by
    obtain ⟨v,h1,h2⟩:=ux.get (i:=i) (t:=t) r (by simpa using e)
    exact ⟨v,by simpa using h1,h2⟩
theorem ux.append {vs:List V} {ts:List T} {ws:List V} {us:List T} (h:ux K S as vs ts) (q:ux K S as ws us):ux K S as (vs++ws) (ts++us) :=
  ux.rec (motive_1:=fun _ _ _=>True) (motive_2:=fun v t _=>ux K S as (v++ws) (t++us)) (motive_3:=fun _ _ _=>True) trivial (fun _=>trivial) (fun _=>trivial) (fun _=>trivial) (fun _ _ _=>trivial) (fun _ _ _=>trivial) (fun _ _ _=>trivial) (fun _=>trivial) q (fun h _ _ i=>.cons h i) trivial (fun _ _ _ _=>trivial) h
theorem ux.reverse:∀ {vs:List V} {ts:List T},ux K S as vs ts→ux K S as vs.reverse ts.reverse
  | _,_,.nil=>.nil
  | _,_,.cons h r=>by rw [List.reverse_cons,List.reverse_cons]; exact ux.append (ux.reverse r) (.cons h .nil)
theorem ux.drop:∀ (n:Nat) {vs:List V} {ts:List T},ux K S as vs ts→ux K S as (vs.drop n) (ts.drop n)
  | 0,_,_,r=>r
  | _+1,_,_,.nil=>.nil
  | n+1,_,_,.cons _ r=>ux.drop n r
theorem Ef.get (k:L2.Key):∀ {vs:List (L2.Key × V)} {ts:List (L2.Key × T)},Ef K S as vs ts→(∃ v t,Qv vs k=some v∧Uw k ts=some t∧Rep K S as v t)∨(Qv vs k=none∧Uw k ts=none)
  | _,_,.nil=>.inr ⟨rfl,rfl⟩
  | _,_,.cons (k:=q) (v:=v) (t:=t) (vs:=vs) (ts:=ts) h r=>by
    by_cases e:q=k
    · exact .inl ⟨v,t,Ht (p:=(q,v)) e,by rw [Uw,if_pos e],h⟩
    · rw [Hs (p:=(q,v)) e,Uw,if_neg e]
      exact Ef.get k r
end
structure Bas where
  S:Hp
  as:List Addr
  H:Hp
structure a9m (B:Bas) (S:Hp) (as:List Addr) (H:Hp):Prop where
  same:Same B.S S
  more:∃ l,as=B.as++l
  keep:∀ p o,B.H p=some o→B.S p=none→p∉B.as→H p=some o∧S p=none∧p∉as
structure Ext (S H S' H':Hp):Prop where
  s:Same S S'
  h:Same H H'
  sub:Same S' H'
  new:∀ p,S' p≠none→S p≠none∨H p=none
theorem Ext.refl {S H:Hp} (h:Same S H):Ext S H S H:=⟨Same.refl _,Same.refl _,h,fun _ q=>.inl q⟩
theorem Same.upd {H:Hp} {p:Addr} (h:H p=none) (o:HO):Same H (upd H p o):=fun b u q=>by rw [n8 (uy q h)]; exact q
theorem Ext.laid {S H:Hp} (h:Same S H) {p:Addr} (n:H p=none) (o:HO):Ext S H (upd S p o) (upd H p o) where
  s:=Same.upd (h.free n) o
  h:=Same.upd n o
  sub:=fun b u q=>by
    by_cases e:b=p
    · subst e; rw [jl] at q ⊢; exact q
    · rw [n8 e] at q ⊢; exact h _ _ q
  new:=fun b q=>by
    by_cases e:b=p
    · subst e; exact .inr n
    · rw [n8 e] at q; exact .inl q
theorem Ext.trans {S H S1 H1 S2 H2:Hp} (a:Ext S H S1 H1) (b:Ext S1 H1 S2 H2):Ext S H S2 H2 where
  s:=a.s.trans b.s
  h:=a.h.trans b.h
  sub:=b.sub
  new:=fun p q=>by
    rcases b.new p q with z | z
    · exact a.new p z
    · exact .inr (a.h.free z)
noncomputable def Own (K:PySem.W.Frag) (S:Hp) (as:List Addr) (H:Hp) (p:Addr):T→Prop
  | .lst ts=>∃ vs,H p=some (.lst vs)∧ux K S as vs ts
  | .dic ts=>∃ kvs,H p=some (.dK kvs)∧Ef K S as kvs ts
  | _=>False
structure Vc (K:PySem.W.Frag) (B:Bas) (S:Hp) (as:List Addr) (H:Hp) (p:Addr) (t:T):Prop where
  own:Own K S as H p t
  out:S p=none
  nas:p∉as
  new:B.H p=none
noncomputable def a3g (K:PySem.W.Frag) (S:Hp) (as:List Addr) (H:Hp) (a:Addr):SO→Prop
  | .dic ts=>∃ kvs,H a=some (.dK kvs)∧Ef K S as kvs ts
  | .lst ts=>∃ vs,H a=some (.lst vs)∧ux K S as vs ts
  | .dit ts=>∃ kvs,H a=some (.dT kvs)∧a2e K S as kvs ts
structure Hf (K:PySem.W.Frag) (S:Hp) (as:List Addr) (H:Hp) (sto:List SO):Prop where
  len:as.length=sto.length
  nd:as.Nodup
  at':∀ (n:Nat) so,sto[n]? = some so→∃ a,as[n]? = some a∧S a=none∧a3g K S as H a so
structure Rel (K:PySem.W.Frag) (B:Bas) (st:Sta) (σ:L2.St) (H:Hp) (ps:List (V × T)) (S:Hp) (as:List Addr):Prop where
  sub:Same S H
  grow:a9m B S as H
  slots:∀ (i:Nat) t f,st.env[i]? = some (some (t,f))→∃ v,σ[i]? = some (some v)∧(f=false→Rep K S as v t)∧(f=true→∃ p,v=.ref p∧Vc K B S as H p t)
  apart:∀ (i j:Nat) t u p,st.env[i]? = some (some (t,true))→st.env[j]? = some (some (u,true))→σ[i]? = some (some (.ref p))→σ[j]? = some (some (.ref p))→i=j
  sto:Hf K S as H st.sto
  pend:∀ p∈ps,Rep K S as p.1 p.2
  len:σ.length=st.env.length
noncomputable section
variable {K:PySem.W.Frag} {B:Bas} {st:Sta} {σ:L2.St} {H H' S S':Hp} {ps:List (V × T)} {as:List Addr}
theorem nol {as:List Addr}:∃ l:List Addr,as=as++l:=⟨[],(List.append_nil _).symm⟩
theorem Own.mono {p:Addr} {t:T} (hs:Same S S') (hh:H p=H' p) (o:Own K S as H p t):Own K S' as H' p t:=by
  cases t with
  | lst ts=>obtain ⟨vs,h,r⟩:=o; exact ⟨vs,hh ▸ h,r.mono hs nol⟩
  | dic ts=>obtain ⟨vs,h,r⟩:=o; exact ⟨vs,hh ▸ h,r.mono hs nol⟩
  | _=>exact o.elim
theorem Own.there {p:Addr} {t:T} (o:Own K S as H p t):∃ ob,H p=some ob:=by
  cases t with
  | lst ts=>obtain ⟨vs,h,r⟩:=o; exact ⟨_,h⟩
  | dic ts=>obtain ⟨vs,h,r⟩:=o; exact ⟨_,h⟩
  | _=>exact o.elim
theorem a3g.mono {a:Addr} {so:SO} (hs:Same S S') (hh:H a=H' a) (o:a3g K S as H a so):a3g K S' as H' a so:=by
  cases so with
  | dic ts=>obtain ⟨vs,h,r⟩:=o; exact ⟨vs,hh ▸ h,r.mono hs nol⟩
  | lst ts=>obtain ⟨vs,h,r⟩:=o; exact ⟨vs,hh ▸ h,r.mono hs nol⟩
  | dit ts=>obtain ⟨vs,h,r⟩:=o; exact ⟨vs,hh ▸ h,r.mono hs nol⟩
theorem a3g.there {a:Addr} {so:SO} (o:a3g K S as H a so):∃ ob,H a=some ob:=by
  cases so with
  | dic ts=>obtain ⟨vs,h,r⟩:=o; exact ⟨_,h⟩
  | lst ts=>obtain ⟨vs,h,r⟩:=o; exact ⟨_,h⟩
  | dit ts=>obtain ⟨vs,h,r⟩:=o; exact ⟨_,h⟩
theorem Ext.outs (x:Ext S H S' H') {p:Addr} {o:HO} (h:H p=some o) (n:S p=none):S' p=none:=by
  cases q:S' p with
  | none=>rfl
  | some u =>
    rcases x.new p (by rw [q]; exact Option.some_ne_none _) with z | z
    · exact absurd n z
    · rw [h] at z; cases z
theorem Hf.ext {sto:List SO} (r:Hf K S as H sto) (x:Ext S H S' H'):Hf K S' as H' sto where
  len:=r.len
  nd:=r.nd
  at':=fun n so e=>by
    obtain ⟨a,h1,h2,h3⟩:=r.at' n so e
    obtain ⟨ob,ho⟩:=h3.there
    exact ⟨a,h1,x.outs ho h2,h3.mono x.s (by rw [ho,x.h _ _ ho])⟩
theorem Rel.ext (r:Rel K B st σ H ps S as) (x:Ext S H S' H'):Rel K B st σ H' ps S' as where
  sub:=x.sub
  grow:=⟨r.grow.same.trans x.s,r.grow.more,fun p o h1 h2 h3=>by
    obtain ⟨a,b,c⟩:=r.grow.keep p o h1 h2 h3
    exact ⟨x.h _ _ a,x.outs a b,c⟩⟩
  slots:=fun i t f e=>by
    obtain ⟨v,h1,h2,h3⟩:=r.slots i t f e
    refine ⟨v,h1,fun q=>(h2 q).mono x.s nol,fun q=>?_⟩
    obtain ⟨p,e,o⟩:=h3 q
    obtain ⟨ob,ho⟩:=o.own.there
    exact ⟨p,e,o.own.mono x.s (by rw [ho,x.h _ _ ho]),x.outs ho o.out,o.nas,o.new⟩
  apart:=r.apart
  sto:=r.sto.ext x
  pend:=fun p hp=>(r.pend p hp).mono x.s nol
  len:=r.len
theorem Rel.push (r:Rel K B st σ H ps S as) {v:V} {t:T} (h:Rep K S as v t):Rel K B st σ H ((v,t)::ps) S as :=
  ⟨r.sub,r.grow,r.slots,r.apart,r.sto,fun p hp=>by
    rcases List.mem_cons.mp hp with rfl | z
    · exact h
    · exact r.pend p z,r.len⟩
theorem Rel.drop {p:V × T} (r:Rel K B st σ H (p::ps) S as):Rel K B st σ H ps S as :=
  ⟨r.sub,r.grow,r.slots,r.apart,r.sto,fun q hq=>r.pend q (List.mem_cons_of_mem _ hq),r.len⟩
theorem Rel.top {v:V} {t:T} (r:Rel K B st σ H ((v,t)::ps) S as):Rep K S as v t:=r.pend (v,t) List.mem_cons_self
theorem Rel.top2 {v:V} {t:T} {q:V × T} (r:Rel K B st σ H (q::(v,t)::ps) S as):Rep K S as v t:=r.pend (v,t) (List.mem_cons_of_mem _ List.mem_cons_self)
end
inductive tOf (K:PySem.W.Frag) (B:Bas) (m:M T) (σ:L2.St) (H:Hp) (Q:VK):Prop
  | mk (st:Sta) (ps:List (V × T)) (S:Hp) (as:List Addr) (R:Rel K B st σ H ps S as) (t:T) (st':Sta) (e:m st=some (t,st')) (q:∀ v H' S' as',Rel K B st' σ H' ((v,t)::ps) S' as'→Q v H')
inductive cOf (K:PySem.W.Frag) (B:Bas) (m:M Bool) (σ:L2.St) (H:Hp) (Q:Bool→Hp→Prop):Prop
  | mk (st:Sta) (ps:List (V × T)) (S:Hp) (as:List Addr) (R:Rel K B st σ H ps S as) (b:Bool) (st':Sta) (e:m st=some (b,st')) (q:∀ H' S' as',Rel K B st' σ H' ps S' as'→Q b H')
inductive aOf (K:PySem.W.Frag) (B:Bas) (m:M (List T)) (σ:L2.St) (H:Hp) (Q:List V→Hp→Prop):Prop
  | mk (st:Sta) (ps:List (V × T)) (S:Hp) (as:List Addr) (R:Rel K B st σ H ps S as) (ts:List T) (st':Sta) (e:m st=some (ts,st')) (q:∀ vs H' S' as',Rel K B st' σ H' ps S' as'→ux K S' as' vs ts→Q vs H')
theorem _root_.L2.PE.imp {X:Cx} {e:Expr} {t t':TE} (h:PE X e t) (i:∀ σ H Q,t' σ H Q→t σ H Q):PE X e t':=fun pins s σ H Q I q=>h pins s σ H Q I (i σ H Q q)
theorem _root_.L2.PT.imp {X:Cx} {e:Expr} {t t':TT} (h:PT X e t) (i:∀ σ H Q,t' σ H Q→t σ H Q):PT X e t':=fun pins s σ H Q I q=>h pins s σ H Q I (i σ H Q q)
theorem _root_.L2.PA.imp {X:Cx} {e:List Expr} {t t':TA} (h:PA X e t) (i:∀ σ H Q,t' σ H Q→t σ H Q):PA X e t':=fun pos pins s σ H Q I q=>h pos pins s σ H Q I (i σ H Q q)
theorem _root_.L2.PS.imp {X:Cx} {e:Stmt} {t t':TS} (h:PS X e t) (i:∀ D σ H,t' D σ H→t D σ H):PS X e t':=fun pins s σ H D I q=>h pins s σ H D I (i D σ H q)
theorem _root_.L2.PSs.imp {X:Cx} {e:List Stmt} {t t':TS} (h:PSs X e t) (i:∀ D σ H,t' D σ H→t D σ H):PSs X e t':=fun pins s σ H D I q=>h pins s σ H D I (i D σ H q)
noncomputable def r2 (K:PySem.W.Frag) (f:T→T→Option T):R2:=fun x y H Q=>∃ S as t u w,Same S H∧Rep K S as x t∧Rep K S as y u∧f t u=some w∧∀ v H' S',Ext S H S' H'→Rep K S' as v w→Q v H'
noncomputable def r1 (K:PySem.W.Frag) (f:T→Option T):V→Hp→VK→Prop:=fun x H Q=>∃ S as t w,Same S H∧Rep K S as x t∧f t=some w∧∀ v H' S',Ext S H S' H'→Rep K S' as v w→Q v H'
noncomputable def rL (K:PySem.W.Frag) (f:List T→Option T):List V→Hp→VK→Prop:=fun xs H Q=>∃ S as ts w,Same S H∧ux K S as xs ts∧f ts=some w∧∀ v H' S',Ext S H S' H'→Rep K S' as v w→Q v H'
noncomputable abbrev OpT (X:Cx) (f:Value→Value→Sem Value) (g:T→T→Option T):Prop:=OpR X f (r2 X.K g)
noncomputable abbrev UnT (X:Cx) (f:Value→Sem Value) (g:T→Option T):Prop:=UnR X f (r1 X.K g)
noncomputable abbrev M7 (X:Cx) (f:Value) (g:List T→Option T):Prop:=Eb X f (rL X.K g)
noncomputable section
variable {X:Cx} {B:Bas} {a b c:Expr} {m m1 m2:M T} {pos:Pos}
theorem Ft {v:V} {t:T} {e:Expr} (h:PE X e (tC v)) (r:∀ S as,Rep X.K S as v t):PE X e (tOf X.K B (ao t)):=h.imp fun σ H Q z9=>by
  obtain ⟨st,ps,S,as,R,t',st',e,q⟩:=z9
  cases e
  exact q v H S as (R.push (r S as))
theorem cj {i:Int} {j:Nat}:PE X (.Constant (.int i) j pos) (tOf X.K B (ao (.int i))):=Ft a3v fun _ _=>.int i
theorem Bx {i:Bool} {j:Nat}:PE X (.Constant (.bool i) j pos) (tOf X.K B (ao (.bl i))):=Ft aas fun _ _=>.bl i
theorem u9 {i:Str} {j:Nat}:PE X (.Constant (.str i) j pos) (tOf X.K B (ao (.str i))):=Ft a8d fun _ _=>.str i
theorem K8 {j:Nat}:PE X (.Constant .none j pos) (tOf X.K B (ao .non)):=Ft a8p fun _ _=>.non
theorem je {op:Operator} {f:T→T→Option T} (ho:OpT X (binaryOp op) f) (ha:PE X a (tOf X.K B m1)) (hb:PE X b (tOf X.K B m2)):PE X (.BinOp a op b pos) (tOf X.K B (mOp f m1 m2)) :=
  (a9t ho ha hb).imp fun σ H Q z9=>by
    obtain ⟨st,ps,S,as,R,t,st',e,q⟩:=z9
    obtain ⟨t1,s1,t2,e1,e2,e3⟩:=M6 e
    refine ⟨st,ps,S,as,R,t1,s1,e1,fun v H1 S1 as1 R1=>⟨s1,_,S1,as1,R1,t2,st',e2,fun u H2 S2 as2 R2=>?_⟩⟩
    exact ⟨S2,as2,t1,t2,t,R2.sub,R2.top2,R2.top,e3,fun w H3 S3 x r=>q w H3 S3 as2 ((R2.drop.drop.ext x).push r)⟩
end
end C
end
noncomputable section
set_option linter.all false
set_option maxRecDepth 100000
set_option maxHeartbeats 4000002
set_option autoImplicit false
namespace C
open PySem PySem.Spec PyProof.Rows L2
noncomputable section
variable {K:PySem.W.Frag} {B:Bas} {st:Sta} {σ:L2.St} {H H' S S':Hp} {ps:List (V × T)} {as:List Addr}
theorem Rel.freeze (r:Rel K B st σ H ps S as) {i:Nat} {t:T} (e:st.env[i]? = some (some (t,true))) :
    ∃ v S',σ[i]? = some (some v)∧Rel K B { st with env:=st.env.set i (some (t,false)) } σ H ((v,t)::ps) S' as:=by
  obtain ⟨v,h1,_,h3⟩:=r.slots i t true e
  obtain ⟨p,rfl,o⟩:=h3 rfl
  obtain ⟨ob,ho⟩:=o.own.there
  have hi:i<st.env.length:=(List.getElem?_eq_some_iff.mp e).1
  have sS:Same S (upd S p ob):=Same.upd o.out ob
  have rep:Rep K (upd S p ob) as (.ref p) t:=by
    have w:=o.own
    cases t with
    | lst ts=>obtain ⟨vs,h,q⟩:=w; rw [ho] at h; cases h; exact .lst (SqL.of jl) (q.mono sS nol)
    | dic ts=>obtain ⟨vs,h,q⟩:=w; rw [ho] at h; cases h; exact .dic (.inl jl) (q.mono sS nol)
    | _=>exact w.elim
  have outs:∀ q,S q=none→q≠p→upd S p ob q=none:=fun q h n=>by rw [n8 n]; exact h
  refine ⟨.ref p,upd S p ob,h1,?_⟩
  refine Rel.push (v:=.ref p) (t:=t) ⟨?_,?_,?_,?_,?_,?_,?_⟩ rep
  · intro b u q
    by_cases z:b=p
    · subst z; rw [jl] at q; cases q; exact ho
    · rw [n8 z] at q; exact r.sub _ _ q
  · refine ⟨r.grow.same.trans sS,r.grow.more,fun q w a b c=>?_⟩
    obtain ⟨x,y,z⟩:=r.grow.keep q w a b c
    refine ⟨x,outs q y fun n=>?_,z⟩
    subst n; rw [o.new] at a; cases a
  · intro j u f ej
    by_cases hij:i=j
    · subst hij
      rw [List.getElem?_set_self hi] at ej
      cases ej
      exact ⟨.ref p,h1,fun _=>rep,fun z=>by cases z⟩
    · rw [List.getElem?_set_ne hij] at ej
      obtain ⟨v',a1,a2,a3⟩:=r.slots j u f ej
      refine ⟨v',a1,fun z=>(a2 z).mono sS nol,fun z=>?_⟩
      subst z
      obtain ⟨p',rfl,o'⟩:=a3 rfl
      refine ⟨p',rfl,o'.own.mono sS rfl,outs p' o'.out fun n=>?_,o'.nas,o'.new⟩
      subst n
      exact hij (r.apart i j t u p' e ej h1 a1)
  · intro j k u w q ej ek
    have hj:st.env[j]? = some (some (u,true)):=by
      by_cases hij:i=j
      · subst hij; rw [List.getElem?_set_self hi] at ej; cases ej
      · rwa [List.getElem?_set_ne hij] at ej
    have hk:st.env[k]? = some (some (w,true)):=by
      by_cases hij:i=k
      · subst hij; rw [List.getElem?_set_self hi] at ek; cases ek
      · rwa [List.getElem?_set_ne hij] at ek
    exact r.apart j k u w q hj hk
  · refine ⟨r.sto.len,r.sto.nd,fun n so en=>?_⟩
    obtain ⟨a,a1,a2,a3⟩:=r.sto.at' n so en
    refine ⟨a,a1,outs a a2 fun z=>?_,a3.mono sS rfl⟩
    subst z
    exact o.nas (List.mem_of_getElem? a1)
  · exact fun q hq=>(r.pend q hq).mono sS nol
  · show σ.length=(st.env.set i _).length
    rw [List.length_set]; exact r.len
end
noncomputable section
variable {X:Cx} {B:Bas} {a b c:Expr} {m m1 m2:M T} {pos:Pos}
theorem aq (i:Nat) {e:Expr} (h:PE X e (Zz i)):PE X e (tOf X.K B (bw i)):=h.imp fun σ H Q z9=>by
  obtain ⟨st,ps,S,as,R,t,st',e,q⟩:=z9
  rcases a0c e with ⟨e1,rfl⟩ | ⟨e1,rfl⟩
  · obtain ⟨v,h1,h2,_⟩:=R.slots i t false e1
    exact ⟨v,h1,q v H S as (R.push (h2 rfl))⟩
  · obtain ⟨v,S',h1,R'⟩:=R.freeze e1
    exact ⟨v,h1,q v H S' as R'⟩
theorem dg:PA X [] (aOf X.K B fj):=vq.imp fun σ H Q z9=>by
  obtain ⟨st,ps,S,as,R,ts,st',e,q⟩:=z9
  cases e
  exact q [] H S as R .nil
theorem aj {es:List Expr} {ms:M (List T)} (ha:PE X a (tOf X.K B m)) (hr:PA X es (aOf X.K B ms)) (hs:starEach (a::es) X.env=(false,eval a X.env)::starEach es X.env:=by rfl):PA X (a::es) (aOf X.K B (ak m ms)) :=
  (sy ha hr hs).imp fun σ H Q z9=>by
    obtain ⟨st,ps,S,as,R,ts,st',e,q⟩:=z9
    obtain ⟨t,s1,us,e1,e2,rfl⟩:=Dk e
    refine ⟨st,ps,S,as,R,t,s1,e1,fun v H1 S1 as1 R1=>⟨s1,_,S1,as1,R1,us,st',e2,fun vs H2 S2 as2 R2 rs=>?_⟩⟩
    exact q (v::vs) H2 S2 as2 R2.drop (.cons R2.top rs)
theorem ji {es:List Expr} {ms:M (List T)} {k:Nat} (h:PA X es (aOf X.K B ms)) (hm:∀ st ts st',ms st=some (ts,st')→ts.length≤1000):PE X (.Tuple es k pos) (tOf X.K B (iu (fun l=>some (.tup l)) ms)) :=
  (a7m h).imp fun σ H Q z9=>by
    obtain ⟨st,ps,S,as,R,t,st',e,q⟩:=z9
    obtain ⟨ts,e1,e2⟩:=Dq e
    cases e2
    refine ⟨st,ps,S,as,R,ts,st',e1,fun vs H1 S1 as1 R1 rs=>⟨?_,fun p hp=>?_⟩⟩
    · rw [rs.length]; exact Nat.le_of_lt (J7 (hm _ _ _ e1))
    · have x:=Ext.laid R1.sub hp (.tup vs)
      exact q _ _ _ _ ((R1.ext x).push (.tup (SqT.of jl) (rs.mono x.s nol)))
theorem Aa {es:List Expr} {ms:M (List T)} (h:PA X es (aOf X.K B ms)) (hm:∀ st ts st',ms st=some (ts,st')→ts.length≤1000):PE X (.List es pos) (tOf X.K B (iu (fun l=>some (.lst l)) ms)) :=
  (a3u h).imp fun σ H Q z9=>by
    obtain ⟨st,ps,S,as,R,t,st',e,q⟩:=z9
    obtain ⟨ts,e1,e2⟩:=Dq e
    cases e2
    refine ⟨st,ps,S,as,R,ts,st',e1,fun vs H1 S1 as1 R1 rs=>⟨?_,fun p hp=>?_⟩⟩
    · rw [rs.length]; exact Nat.le_of_lt (J7 (hm _ _ _ e1))
    · have x:=Ext.laid R1.sub hp (.lst vs)
      exact q _ _ _ _ ((R1.ext x).push (.lst (SqL.of jl) (rs.mono x.s nol)))
theorem gj:∀ st ts st',fj st=some (ts,st')→ts.length≤0:=fun st ts st' e=>by cases e; exact Nat.le_refl _
theorem au {r:M (List T)} {n:Nat} (h:∀ st ts st',r st=some (ts,st')→ts.length≤n):∀ st ts st',ak m r st=some (ts,st')→ts.length≤n+1:=fun st ts st' e=>by
  obtain ⟨t,s1,us,e1,e2,rfl⟩:=Dk e
  exact Nat.succ_le_succ (h _ _ _ e2)
theorem jr {ms:M (List T)} {f:List T→Option T} {e:Expr} (h:PE X e (tCB (rL X.K f) (aOf X.K B ms))):PE X e (tOf X.K B (iu f ms)) :=
  h.imp fun σ H Q z9=>by
    obtain ⟨st,ps,S,as,R,t,st',e,q⟩:=z9
    obtain ⟨ts,e1,e2⟩:=Dq e
    refine ⟨st,ps,S,as,R,ts,st',e1,fun vs H1 S1 as1 R1 rs=>⟨S1,as1,ts,t,R1.sub,rs,e2,fun v H2 S2 x r=>?_⟩⟩
    exact q v H2 S2 as1 ((R1.ext x).push r)
theorem T8 {f:T→T→Option T} {e:Expr} (h:PE X e (tOp (r2 X.K f) (tOf X.K B m1) (tOf X.K B m2))):PE X e (tOf X.K B (mOp f m1 m2)) :=
  h.imp fun σ H Q z9=>by
    obtain ⟨st,ps,S,as,R,t,st',e,q⟩:=z9
    obtain ⟨t1,s1,t2,e1,e2,e3⟩:=M6 e
    refine ⟨st,ps,S,as,R,t1,s1,e1,fun v H1 S1 as1 R1=>⟨s1,_,S1,as1,R1,t2,st',e2,fun u H2 S2 as2 R2=>?_⟩⟩
    exact ⟨S2,as2,t1,t2,t,R2.sub,R2.top2,R2.top,e3,fun w H3 S3 x r=>q w H3 S3 as2 ((R2.drop.drop.ext x).push r)⟩
theorem a1p {f:T→Option T} {e:Expr} (h:PE X e (tUn (r1 X.K f) (tOf X.K B m))):PE X e (tOf X.K B (mUn f m)) :=
  h.imp fun σ H Q z9=>by
    obtain ⟨st,ps,S,as,R,t,st',e,q⟩:=z9
    obtain ⟨t1,e1,e3⟩:=Qn e
    refine ⟨st,ps,S,as,R,t1,st',e1,fun v H1 S1 as1 R1=>⟨S1,as1,t1,t,R1.sub,R1.top,e3,fun w H3 S3 x r=>q w H3 S3 as1 ((R1.drop.ext x).push r)⟩⟩
theorem Ah {op:CmpOp} {f:T→T→Option T} (ho:OpT X (compareOp op) f) (ha:PE X a (tOf X.K B m1)) (hb:PE X b (tOf X.K B m2)) (hm:behindInMarks op b=false):PE X (.Compare a [op] [b] pos) (tOf X.K B (mOp f m1 m2)):=T8 (a6m ho ha hb hm)
theorem Ow {op:UnaryOp} {f:T→Option T} (ho:UnT X (unaryOp op) f) (ha:PE X a (tOf X.K B m)):PE X (.UnaryOp op a pos) (tOf X.K B (mUn f m)):=a1p (a8y ho ha)
theorem Ko {e:Expr} (h:PT X e (a8c (tOf X.K B m))):PT X e (cOf X.K B (dj m)):=h.imp fun σ H Q z9=>by
  obtain ⟨st,ps,S,as,R,t,st',e,q⟩:=z9
  refine ⟨st,ps,S,as,R,.bl t,st',Dg e,fun v H1 S1 as1 R1=>?_⟩
  cases R1.top
  exact ⟨t,rfl,q H1 S1 as1 R1.drop⟩
theorem uo {op:CmpOp} {f:T→T→Option T} (ho:OpT X (compareOp op) f) (ha:PE X a (tOf X.K B m1)) (hb:PE X b (tOf X.K B m2)) (hm:behindInMarks op b=false):PT X (.Compare a [op] [b] pos) (cOf X.K B (dj (mOp f m1 m2))) :=
  Ko ((a4y ho ha hb hm).imp fun σ H Q z9=>by
    obtain ⟨st,ps,S,as,R,t,st',e,q⟩:=z9
    obtain ⟨t1,s1,t2,e1,e2,e3⟩:=M6 e
    refine ⟨st,ps,S,as,R,t1,s1,e1,fun v H1 S1 as1 R1=>⟨s1,_,S1,as1,R1,t2,st',e2,fun u H2 S2 as2 R2=>?_⟩⟩
    exact ⟨S2,as2,t1,t2,t,R2.sub,R2.top2,R2.top,e3,fun w H3 S3 x r=>q w H3 S3 as2 ((R2.drop.drop.ext x).push r)⟩)
theorem xu {e:Expr} (h:PE X e (tOf X.K B m)) (he:∀ whole,isTrue e X.env whole=(do let v ← whole; standAt e.pos; holding [v] (truthy v)):=by intro _; rfl):PT X e (cOf X.K B (dj m)) :=
  Ko ((a8w h he).imp fun σ H Q h=>h)
theorem Jb {c1:M Bool} (ha:PT X a (cOf X.K B c1)):PT X (.UnaryOp .Not a pos) (cOf X.K B (m7 c1)):=(a7o ha).imp fun σ H Q z9=>by
  obtain ⟨st,ps,S,as,R,t,st',e,q⟩:=z9
  obtain ⟨k,e1,rfl⟩:=S8 e
  exact ⟨st,ps,S,as,R,k,st',e1,q⟩
theorem Ge {c1:M Bool} (ha:PT X a (cOf X.K B c1)):PW X (.BoolOp .And [a] pos) (cOf X.K B c1):=pw_and1 ha
theorem Nj {c1:M Bool} (ha:PT X a (cOf X.K B c1)):PW X (.BoolOp .Or [a] pos) (cOf X.K B c1):=pw_or1 ha
theorem a8k {e:Expr} {t t':TT} (h:PW X e t) (i:∀ σ H Q,t' σ H Q→t σ H Q):PW X e t':=fun whole pins s σ H Q I q=>h whole pins s σ H Q I (i σ H Q q)
theorem Jo {c1 c2:M Bool} {rest:List Expr} (ha:PT X a (cOf X.K B c1)) (hb:PW X (.BoolOp .And (b::rest) pos) (cOf X.K B c2)):PW X (.BoolOp .And (a::b::rest) pos) (cOf X.K B (jw c1 c2)) :=
  a8k (pw_and ha hb) fun σ H Q z9=>by
    obtain ⟨st,ps,S,as,R,t,st',e,q⟩:=z9
    rcases Tz e with ⟨s1,e1,e2⟩ | ⟨e1,rfl⟩
    · exact ⟨st,ps,S,as,R,true,s1,e1,fun H1 S1 as1 R1=>a6a (⟨s1,ps,S1,as1,R1,t,st',e2,q⟩)⟩
    · exact ⟨st,ps,S,as,R,false,st',e1,fun H1 S1 as1 R1=>a4s (q H1 S1 as1 R1)⟩
theorem Vr {c1 c2:M Bool} {rest:List Expr} (ha:PT X a (cOf X.K B c1)) (hb:PW X (.BoolOp .Or (b::rest) pos) (cOf X.K B c2)):PW X (.BoolOp .Or (a::b::rest) pos) (cOf X.K B (mOr c1 c2)) :=
  a8k (pw_or ha hb) fun σ H Q z9=>by
    obtain ⟨st,ps,S,as,R,t,st',e,q⟩:=z9
    rcases a5i e with ⟨s1,e1,e2⟩ | ⟨e1,rfl⟩
    · exact ⟨st,ps,S,as,R,false,s1,e1,fun H1 S1 as1 R1=>a4s (⟨s1,ps,S1,as1,R1,t,st',e2,q⟩)⟩
    · exact ⟨st,ps,S,as,R,true,st',e1,fun H1 S1 as1 R1=>a6a (q H1 S1 as1 R1)⟩
theorem Tr {c1:M Bool} (hc:PT X c (cOf X.K B c1)) (ha:PE X a (tOf X.K B m1)) (hb:PE X b (tOf X.K B m2)):PE X (.IfExp c a b pos) (tOf X.K B (mIf c1 m1 m2)) :=
  (a1a hc ha hb).imp fun σ H Q z9=>by
    obtain ⟨st,ps,S,as,R,t,st',e,q⟩:=z9
    rcases a6n e with ⟨s1,e1,e2⟩ | ⟨s1,e1,e2⟩
    · exact ⟨st,ps,S,as,R,true,s1,e1,fun H1 S1 as1 R1=>a6a (⟨s1,ps,S1,as1,R1,t,st',e2,q⟩)⟩
    · exact ⟨st,ps,S,as,R,false,s1,e1,fun H1 S1 as1 R1=>a4s (⟨s1,ps,S1,as1,R1,t,st',e2,q⟩)⟩
theorem a7j (ha:PE X a (tOf X.K B m)):PE X (.UnaryOp .Not a pos) (tOf X.K B (iw (m7 (dj m)))):=(a92 ha).imp fun σ H Q z9=>by
  obtain ⟨st,ps,S,as,R,t,st',e,q⟩:=z9
  obtain ⟨b,e1,rfl⟩:=Ma e
  obtain ⟨k,e2,rfl⟩:=S8 e1
  refine ⟨st,ps,S,as,R,.bl k,st',Dg e2,fun v H1 S1 as1 R1=>?_⟩
  cases R1.top
  exact ⟨k,rfl,q _ H1 S1 as1 (R1.drop.push (.bl _))⟩
theorem G8 {op:BoolOp} (ha:PE X a (tOf X.K B m)):PE X (.BoolOp op [a] pos) (tOf X.K B m):=a7z ha
theorem Cv {rest:List Expr} (ha:PE X a (tOf X.K B m1)) (hb:PE X (.BoolOp .And (b::rest) pos) (tOf X.K B m2)):PE X (.BoolOp .And (a::b::rest) pos) (tOf X.K B (iw (jw (dj m1) (dj m2)))) :=
  (a7a ha hb).imp fun σ H Q z9=>by
    obtain ⟨st,ps,S,as,R,t,st',e,q⟩:=z9
    obtain ⟨b,e1,rfl⟩:=Ma e
    rcases Tz e1 with ⟨s1,e2,e3⟩ | ⟨e2,rfl⟩
    · refine ⟨st,ps,S,as,R,.bl true,s1,Dg e2,fun v H1 S1 as1 R1=>?_⟩
      cases R1.top
      exact ⟨true,rfl,a6a (⟨s1,ps,S1,as1,R1.drop,.bl b,st',Dg e3,q⟩)⟩
    · refine ⟨st,ps,S,as,R,.bl false,st',Dg e2,fun v H1 S1 as1 R1=>?_⟩
      cases R1.top
      exact ⟨false,rfl,a4s (q _ H1 S1 as1 (R1.drop.push (.bl _)))⟩
end
end C
end
noncomputable section
set_option linter.all false
set_option maxRecDepth 100000
set_option maxHeartbeats 4000002
set_option autoImplicit false
namespace C
open PySem PySem.Spec PyProof.Rows L2
theorem a2f {a b:S} {s s':Sta} {fl:Flow} (h:j9 a b s=some (fl,s')):(∃ s1,a s=some (.next,s1)∧b s1=some (fl,s'))∨(a s=some (fl,s')∧fl≠.next):=by
  unfold j9 at h
  split at h
  · rename_i s1 e; exact .inl ⟨s1,e,h⟩
  · rename_i r hr; exact .inr ⟨h,fun z=>by subst z; exact hr _ h⟩
theorem a04 {e:M T} {s s':Sta} {fl:Flow} (h:jh e s=some (fl,s')):∃ t,e s=some (t,s')∧fl=.ret t:=by
  unfold jh at h
  split at h
  · rename_i t s1 e; cases h; exact ⟨t,e,rfl⟩
  · cases h
theorem a4i {c:M Bool} {a b:S} {s s':Sta} {fl:Flow} (h:sIf c a b s=some (fl,s')):(∃ s1,c s=some (true,s1)∧a s1=some (fl,s'))∨(∃ s1,c s=some (false,s1)∧b s1=some (fl,s')):=by
  unfold sIf at h
  split at h
  · rename_i s1 e; exact .inl ⟨s1,e,h⟩
  · rename_i s1 e; exact .inr ⟨s1,e,h⟩
  · cases h
theorem a1q {i:Nat} {e:M T} {s s':Sta} {fl:Flow} (h:jg i e s=some (fl,s')):∃ t s1,e s=some (t,s1)∧fl=.next∧s'=bh i t false s1:=by
  unfold jg at h
  split at h
  · rename_i t s1 e; cases h; exact ⟨t,s1,e,rfl,rfl⟩
  · cases h
theorem a1h {i:Nat} {e:M T} {s s':Sta} {fl:Flow} (h:sNew i e s=some (fl,s')):∃ t s1,e s=some (t,s1)∧fl=.next∧s'=bh i t true s1:=by
  unfold sNew at h
  split at h
  · rename_i t s1 e; cases h; exact ⟨t,s1,e,rfl,rfl⟩
  · cases h
theorem a0y {g:G} {it:M (List T)} {b:S} {s s':Sta} {fl:Flow} (h:lu g it b s=some (fl,s')):∃ ts s1,it s=some (ts,s1)∧forL g b ts s1=some (fl,s'):=by
  unfold lu at h
  split at h
  · rename_i ts s1 e; exact ⟨ts,s1,e,h⟩
  · cases h
theorem Qp {i:Nat} {e:M T} {s s':Sta} {fl:Flow} (h:c7 i e s=some (fl,s')) :
    j4 i s=true∧∃ t s1 xs,e s=some (t,s1)∧s1.env[i]? = some (some (.lst xs,true))∧xs.length<lim∧fl=.next∧s'=bh i (.lst (xs++[t])) true s1:=by
  unfold c7 at h
  split at h
  · rename_i hd
    refine ⟨hd,?_⟩
    split at h
    · rename_i t s1 e
      split at h
      · rename_i xs ex
        split at h
        · rename_i hl; cases h; exact ⟨t,s1,xs,e,ex,hl,rfl,rfl⟩
        · cases h
      · cases h
    · cases h
  · cases h
theorem R9 {i:Nat} {e:M T} {s s':Sta} {fl:Flow} (h:cu i e s=some (fl,s')) :
    j4 i s=true∧∃ t s1 xs ys,e s=some (t,s1)∧iy t=some ys∧s1.env[i]? = some (some (.lst xs,true))∧xs.length+ys.length<lim∧fl=.next∧s'=bh i (.lst (xs++ys)) true s1:=by
  unfold cu at h
  split at h
  · rename_i hd
    refine ⟨hd,?_⟩
    split at h
    · rename_i t s1 e
      split at h
      · rename_i ys xs ey ex
        split at h
        · rename_i hl; cases h; exact ⟨t,s1,_,_,e,ey,ex,hl,rfl,rfl⟩
        · cases h
      · cases h
    · cases h
  · cases h
theorem Rb {i:Nat} {k v:M T} {s s':Sta} {fl:Flow} (h:Bo i k v s=some (fl,s')) :
    ∃ t s1 kt s2 kvs q,v s=some (t,s1)∧N8 i s1=true∧k s1=some (kt,s2)∧s2.env[i]? = some (some (.dic kvs,true))∧keyOf kt=some q∧kvs.length<lim∧fl=.next∧s'=bh i (.dic (a3f q t kvs)) true s2:=by
  unfold Bo at h
  split at h
  · rename_i t s1 e
    split at h
    · rename_i hd
      split at h
      · rename_i kt s2 ek
        split at h
        · rename_i kvs q ex eq
          split at h
          · rename_i hl; cases h; exact ⟨t,s1,kt,s2,_,_,e,hd,ek,ex,eq,hl,rfl,rfl⟩
          · cases h
        · cases h
      · cases h
    · cases h
  · cases h
noncomputable section
variable {K:PySem.W.Frag} {B:Bas} {st:Sta} {σ:L2.St} {H H' S S':Hp} {ps ps2:List (V × T)} {as as':List Addr}
theorem Rel.pick (r:Rel K B st σ H ps S as) (h:∀ p∈ps2,p∈ps):Rel K B st σ H ps2 S as :=
  ⟨r.sub,r.grow,r.slots,r.apart,r.sto,fun p hp=>r.pend p (h p hp),r.len⟩
theorem Ly {α:Type} {l:List α} {i:Nat} {x:α} (h:l.length≤i):l.set i x=l:=List.set_eq_of_length_le h
theorem Rel.put (r:Rel K B st σ H ps S as) {i:Nat} {v:V} {t:T} (h:Rep K S as v t):Rel K B (bh i t false st) (σ.set i (some v)) H ps S as:=by
  by_cases hi:i<st.env.length
  · have hs:i<σ.length:=by rw [r.len]; exact hi
    refine ⟨r.sub,r.grow,fun j u f e=>?_,fun j k u w p ej ek sj sk=>?_,r.sto,r.pend,by show _=(st.env.set i _).length; rw [List.length_set,List.length_set]; exact r.len⟩
    · have e:(st.env.set i (some (t,false)))[j]? = some (some (u,f)):=e
      by_cases hij:i=j
      · subst hij
        rw [List.getElem?_set_self hi] at e; cases e
        exact ⟨v,List.getElem?_set_self hs,fun _=>h,fun z=>by cases z⟩
      · rw [List.getElem?_set_ne hij] at e ⊢
        exact r.slots j u f e
    · have ej:(st.env.set i (some (t,false)))[j]? = some (some (u,true)):=ej
      have ek:(st.env.set i (some (t,false)))[k]? = some (some (w,true)):=ek
      have hij:i≠j:=fun z=>by subst z; rw [List.getElem?_set_self hi] at ej; cases ej
      have hik:i≠k:=fun z=>by subst z; rw [List.getElem?_set_self hi] at ek; cases ek
      rw [List.getElem?_set_ne hij] at ej sj
      rw [List.getElem?_set_ne hik] at ek sk
      exact r.apart j k u w p ej ek sj sk
  · have e1:bh i t false st=st:=by unfold bh; rw [Ly (Nat.le_of_not_lt hi)]
    have e2:σ.set i (some v)=σ:=Ly (by rw [r.len]; exact Nat.le_of_not_lt hi)
    rw [e1,e2]; exact r
noncomputable def K5 (st:Sta) (σ:L2.St) (p:Addr):Prop:=∀ (j:Nat) u,st.env[j]? = some (some (u,true))→σ[j]? = some (some (.ref p))→False
theorem Rel.a9d (r:Rel K B st σ H ps S as) {i:Nat} {p:Addr} {t:T} (h:Vc K B S as H p t) (hn:K5 st σ p):Rel K B (bh i t true st) (σ.set i (some (.ref p))) H ps S as:=by
  by_cases hi:i<st.env.length
  · have hs:i<σ.length:=by rw [r.len]; exact hi
    refine ⟨r.sub,r.grow,fun j u f e=>?_,fun j k u w q ej ek sj sk=>?_,r.sto,r.pend,by show _=(st.env.set i _).length; rw [List.length_set,List.length_set]; exact r.len⟩
    · have e:(st.env.set i (some (t,true)))[j]? = some (some (u,f)):=e
      by_cases hij:i=j
      · subst hij
        rw [List.getElem?_set_self hi] at e; cases e
        exact ⟨.ref p,List.getElem?_set_self hs,(fun z=>by cases z),fun _=>⟨p,rfl,h⟩⟩
      · rw [List.getElem?_set_ne hij] at e ⊢
        exact r.slots j u f e
    · have ej:(st.env.set i (some (t,true)))[j]? = some (some (u,true)):=ej
      have ek:(st.env.set i (some (t,true)))[k]? = some (some (w,true)):=ek
      by_cases hij:i=j
      · by_cases hik:i=k
        · rw [← hij,← hik]
        · subst hij
          rw [List.getElem?_set_self hs] at sj; cases sj
          rw [List.getElem?_set_ne hik] at ek sk
          exact (hn k w ek sk).elim
      · rw [List.getElem?_set_ne hij] at ej sj
        by_cases hik:i=k
        · subst hik
          rw [List.getElem?_set_self hs] at sk; cases sk
          exact (hn j u ej sj).elim
        · rw [List.getElem?_set_ne hik] at ek sk
          exact r.apart j k u w q ej ek sj sk
  · have e1:bh i t true st=st:=by unfold bh; rw [Ly (Nat.le_of_not_lt hi)]
    have e2:σ.set i (some (.ref p))=σ:=Ly (by rw [r.len]; exact Nat.le_of_not_lt hi)
    rw [e1,e2]; exact r
theorem Rel.turn (r:Rel K B st σ H ps S as) {i:Nat} {t t':T} {p:Addr} {ob:HO} (e:st.env[i]? = some (some (t,true))) (hp:σ[i]? = some (some (.ref p))) (h:Own K S as (upd H p ob) p t') :
    Rel K B (bh i t' true st) σ (upd H p ob) ps S as:=by
  obtain ⟨v,h1,_,h3⟩:=r.slots i t true e
  rw [hp] at h1; cases h1
  obtain ⟨p',ep,o⟩:=h3 rfl
  cases ep
  have hi:i<st.env.length:=(List.getElem?_eq_some_iff.mp e).1
  have other:∀ q,q≠p→H q=upd H p ob q:=fun q n=>(n8 n).symm
  refine ⟨fun b u q=>?_,⟨r.grow.same,r.grow.more,fun q w a b c=>?_⟩,fun j u f ej=>?_,fun j k u w q ej ek sj sk=>?_,⟨r.sto.len,r.sto.nd,fun n so en=>?_⟩,r.pend,by show _=(st.env.set i _).length; rw [List.length_set]; exact r.len⟩
  · have n:b≠p:=fun z=>by subst z; rw [o.out] at q; cases q
    rw [n8 n]; exact r.sub _ _ q
  · obtain ⟨x,y,z⟩:=r.grow.keep q w a b c
    have n:q≠p:=fun z=>by subst z; rw [o.new] at a; cases a
    exact ⟨by rw [n8 n]; exact x,y,z⟩
  · have ej:(st.env.set i (some (t',true)))[j]? = some (some (u,f)):=ej
    by_cases hij:i=j
    · subst hij
      rw [List.getElem?_set_self hi] at ej; cases ej
      exact ⟨.ref p,hp,(fun z=>by cases z),fun _=>⟨p,rfl,h,o.out,o.nas,o.new⟩⟩
    · rw [List.getElem?_set_ne hij] at ej
      obtain ⟨v',a1,a2,a3⟩:=r.slots j u f ej
      refine ⟨v',a1,a2,fun z=>?_⟩
      subst z
      obtain ⟨p',rfl,o'⟩:=a3 rfl
      have n:p'≠p:=fun z=>by subst z; exact hij (r.apart i j t u p' e ej hp a1)
      exact ⟨p',rfl,o'.own.mono (Same.refl _) (other p' n),o'.out,o'.nas,o'.new⟩
  · have back:∀ (j:Nat) u,(st.env.set i (some (t',true)))[j]? = some (some (u,true))→∃ u',st.env[j]? = some (some (u',true)):=fun j u ej=>by
      by_cases hij:i=j
      · subst hij; exact ⟨t,e⟩
      · rw [List.getElem?_set_ne hij] at ej; exact ⟨u,ej⟩
    obtain ⟨u',ej'⟩:=back j u ej
    obtain ⟨w',ek'⟩:=back k w ek
    exact r.apart j k u' w' q ej' ek' sj sk
  · obtain ⟨a,a1,a2,a3⟩:=r.sto.at' n so en
    have n:a≠p:=fun z=>by subst z; exact o.nas (List.mem_of_getElem? a1)
    exact ⟨a,a1,a2,a3.mono (Same.refl _) (other a n)⟩
theorem Rel.a7g (r:Rel K B st σ H ps S as) {n:Nat} {so so':SO} {a:Addr} {ob:HO} (e:st.sto[n]? = some so) (ha:as[n]? = some a) (h:a3g K S as (upd H a ob) a so') :
    Rel K B { st with sto:=st.sto.set n so' } σ (upd H a ob) ps S as:=by
  have ma:a∈as:=List.mem_of_getElem? ha
  have hn:n<st.sto.length:=(List.getElem?_eq_some_iff.mp e).1
  have sa:S a=none:=by
    obtain ⟨a',a1,a2,_⟩:=r.sto.at' n so e
    rw [ha] at a1; cases a1; exact a2
  have other:∀ q,q≠a→H q=upd H a ob q:=fun q n=>(n8 n).symm
  refine ⟨fun b u q=>?_,⟨r.grow.same,r.grow.more,fun q w x y z=>?_⟩,fun j u f ej=>?_,r.apart,⟨by rw [List.length_set]; exact r.sto.len,r.sto.nd,fun k so2 en=>?_⟩,r.pend,r.len⟩
  · have n:b≠a:=fun z=>by subst z; rw [sa] at q; cases q
    rw [n8 n]; exact r.sub _ _ q
  · obtain ⟨x1,y1,z1⟩:=r.grow.keep q w x y z
    have n:q≠a:=fun z=>by subst z; exact z1 ma
    exact ⟨by rw [n8 n]; exact x1,y1,z1⟩
  · obtain ⟨v',a1,a2,a3⟩:=r.slots j u f ej
    refine ⟨v',a1,a2,fun z=>?_⟩
    obtain ⟨p',rfl,o'⟩:=a3 z
    have n:p'≠a:=fun z=>by subst z; exact o'.nas ma
    exact ⟨p',rfl,o'.own.mono (Same.refl _) (other p' n),o'.out,o'.nas,o'.new⟩
  · by_cases hk:n=k
    · subst hk
      rw [List.getElem?_set_self hn] at en; cases en
      exact ⟨a,ha,sa,h⟩
    · rw [List.getElem?_set_ne hk] at en
      obtain ⟨b,b1,b2,b3⟩:=r.sto.at' k so2 en
      have n:b≠a:=fun z=>by
        subst z
        have l1:=(List.getElem?_eq_some_iff.mp b1).1
        have l2:=(List.getElem?_eq_some_iff.mp ha).1
        exact hk ((List.getElem?_inj (i:=n) (j:=k) l2 r.sto.nd).mp (by rw [ha,b1]))
      exact ⟨b,b1,b2,b3.mono (Same.refl _) (other b n)⟩
end
noncomputable def Fin (K:PySem.W.Frag) (B:Bas) (D:Ends) (ps:List (V × T)):Flow→Sta→Prop
  | .next,st'=>∀ σ' H' S' as',Rel K B st' σ' H' ps S' as'→D.nx σ' H'
  | .ret t,st'=>∀ v σ' H' S' as',Rel K B st' σ' H' ((v,t)::ps) S' as'→D.rt v H'
  | .brk,st'=>∀ σ' H' S' as',Rel K B st' σ' H' ps S' as'→D.bk σ' H'
  | .cont,st'=>∀ σ' H' S' as',Rel K B st' σ' H' ps S' as'→D.ct σ' H'
inductive sOf (K:PySem.W.Frag) (B:Bas) (s:S) (D:Ends) (σ:L2.St) (H:Hp):Prop
  | mk (st:Sta) (ps:List (V × T)) (S0:Hp) (as:List Addr) (R:Rel K B st σ H ps S0 as) (fl:Flow) (st':Sta) (e:s st=some (fl,st')) (q:Fin K B D ps fl st')
inductive gOf (K:PySem.W.Frag) (B:Bas) (g:G) (v:V) (σ:L2.St) (H:Hp) (Q:L2.St→Hp→Prop):Prop
  | mk (st:Sta) (ps:List (V × T)) (S:Hp) (as:List Addr) (t:T) (R:Rel K B st σ H ((v,t)::ps) S as) (st':Sta) (e:g t st=some st') (q:∀ σ' H' S' as',Rel K B st' σ' H' ps S' as'→Q σ' H')
inductive fOf (K:PySem.W.Frag) (B:Bas) (m:M T) (σ:L2.St) (H:Hp) (Q:VK):Prop
  | mk (st:Sta) (ps:List (V × T)) (S:Hp) (as:List Addr) (R:Rel K B st σ H ps S as) (t:T) (st':Sta) (e:m st=some (t,st')) (q:∀ p H' S' as',Rel K B st' σ H' ps S' as'→Vc K B S' as' H' p t→K5 st' σ p→Q (.ref p) H')
noncomputable section
variable {X:Cx} {B:Bas} {a b c e:Expr} {m m1 m2:M T} {pos:Pos} {u v:S}
theorem uz:PSs X [] (sOf X.K B jt):=a4r.imp fun D σ H z9=>by
  obtain ⟨st,ps,S,as,R,fl,st',e,q⟩:=z9
  cases e; exact q σ H S as R
theorem fu {st:Stmt} {rest:List Stmt} (h1:PS X st (sOf X.K B u)) (h2:PSs X rest (sOf X.K B v)):PSs X (st::rest) (sOf X.K B (j9 u v)):=(a05 h1 h2).imp fun D σ H z9=>by
  obtain ⟨st,ps,S,as,R,fl,st',e,q⟩:=z9
  rcases a2f e with ⟨s1,e1,e2⟩ | ⟨e1,hn⟩
  · exact ⟨st,ps,S,as,R,.next,s1,e1,fun σ' H' S' as' R'=>⟨s1,ps,S',as',R',fl,st',e2,q⟩⟩
  · refine ⟨st,ps,S,as,R,fl,st',e1,?_⟩
    cases fl with
    | next=>exact absurd rfl hn
    | ret t=>exact q
    | brk=>exact q
    | cont=>exact q
theorem jc {st:Stmt} (h1:PS X st (sOf X.K B u)):PSs X [st] (sOf X.K B u):=a4p h1
theorem ju (he:PE X e (tOf X.K B m)):PS X (.Return (some e) pos) (sOf X.K B (jh m)):=(a7p he).imp fun D σ H z9=>by
  obtain ⟨st,ps,S,as,R,fl,st',e,q⟩:=z9
  obtain ⟨t,e1,rfl⟩:=a04 e
  exact ⟨st,ps,S,as,R,t,st',e1,fun v H' S' as' R'=>q v σ H' S' as' R'⟩
theorem yc {c1:M Bool} {sa sb:List Stmt} (hc:PT X c (cOf X.K B c1)) (ha:PSs X sa (sOf X.K B u)) (hb:PSs X sb (sOf X.K B v)):PS X (.If c sa sb pos) (sOf X.K B (sIf c1 u v)):=(abf hc ha hb).imp fun D σ H z9=>by
  obtain ⟨st,ps,S,as,R,fl,st',e,q⟩:=z9
  rcases a4i e with ⟨s1,e1,e2⟩ | ⟨s1,e1,e2⟩
  · exact ⟨st,ps,S,as,R,true,s1,e1,fun H1 S1 as1 R1=>a6a ⟨s1,ps,S1,as1,R1,fl,st',e2,q⟩⟩
  · exact ⟨st,ps,S,as,R,false,s1,e1,fun H1 S1 as1 R1=>a4s ⟨s1,ps,S1,as1,R1,fl,st',e2,q⟩⟩
theorem vo (i:Nat) {tg:Expr} (h:PG X tg (Jq i)):PG X tg (gOf X.K B (hName i)):=fun pins s σ H x u Q I r z9=>h pins s σ H x u Q I r (by
  obtain ⟨st,ps,S,as,t,R,st',e,q⟩:=z9
  cases e
  exact q _ H S as (R.drop.put R.top))
theorem ou (i:Nat) {te:TE} {s:Stmt} (h:PS X s (a2v te (Jq i))) (hm:∀ σ H Q,tOf X.K B m σ H Q→te σ H Q):PS X s (sOf X.K B (jg i m)):=h.imp fun D σ H z9=>by
  obtain ⟨st,ps,S,as,R,fl,st',e,q⟩:=z9
  obtain ⟨t,s1,e1,rfl,rfl⟩:=a1q e
  exact hm σ H _ ⟨st,ps,S,as,R,t,s1,e1,fun v H' S' as' R'=>q _ H' S' as' (R'.drop.put R'.top)⟩
theorem Bj (i:Nat) {te:TE} {s:Stmt} (h:PS X s (a2v te (Jq i))) (hm:∀ σ H Q,fOf X.K B m σ H Q→te σ H Q):PS X s (sOf X.K B (sNew i m)):=h.imp fun D σ H z9=>by
  obtain ⟨st,ps,S,as,R,fl,st',e,q⟩:=z9
  obtain ⟨t,s1,e1,rfl,rfl⟩:=a1h e
  exact hm σ H _ ⟨st,ps,S,as,R,t,s1,e1,fun p H' S' as' R' o n=>q _ H' S' as' (R'.a9d o n)⟩
end
end C
end
noncomputable section
set_option linter.all false
set_option maxRecDepth 100000
set_option maxHeartbeats 4000002
set_option autoImplicit false
namespace C
open PySem PySem.Spec PyProof.Rows L2
noncomputable section
variable {K:PySem.W.Frag} {B:Bas} {st:Sta} {σ:L2.St} {H H' S S':Hp} {ps ps2:List (V × T)} {as as':List Addr}
theorem Own.more {p:Addr} {t:T} (hs:Same S S') (x:∃ l,as'=as++l) (hh:H p=H' p) (o:Own K S as H p t):Own K S' as' H' p t:=by
  cases t with
  | lst ts=>obtain ⟨vs,h,r⟩:=o; exact ⟨vs,hh ▸ h,r.mono hs x⟩
  | dic ts=>obtain ⟨vs,h,r⟩:=o; exact ⟨vs,hh ▸ h,r.mono hs x⟩
  | _=>exact o.elim
theorem Rel.call {sto':List SO} (r:Rel K B st σ H ps S as) (g:a9m ⟨S,as,H⟩ S' as' H') (sub:Same S' H') (so:Hf K S' as' H' sto'):Rel K B { st with sto:=sto' } σ H' ps S' as' where
  sub:=sub
  grow:=by
    refine ⟨r.grow.same.trans g.same,?_,fun p o a b c=>?_⟩
    · obtain ⟨l,e⟩:=r.grow.more
      obtain ⟨l',e'⟩:=g.more
      exact ⟨l++l',by rw [e',e,List.append_assoc]⟩
    · obtain ⟨x,y,z⟩:=r.grow.keep p o a b c
      exact g.keep p o x y z
  slots:=fun i t f e=>by
    obtain ⟨v,h1,h2,h3⟩:=r.slots i t f e
    refine ⟨v,h1,fun q=>(h2 q).mono g.same g.more,fun q=>?_⟩
    obtain ⟨p,rfl,o⟩:=h3 q
    obtain ⟨ob,ho⟩:=o.own.there
    obtain ⟨x,y,z⟩:=g.keep p ob ho o.out o.nas
    exact ⟨p,rfl,o.own.more g.same g.more (by rw [ho,x]),y,z,o.new⟩
  apart:=r.apart
  sto:=so
  pend:=fun p hp=>(r.pend p hp).mono g.same g.more
  len:=r.len
end
noncomputable def spF (K:PySem.W.Frag) (ar:Nat) (F:Fn):Sp:=fun vs H Q _=>∃ S as sto ts t sto',Same S H∧Hf K S as H sto∧ux K S as vs ts∧ts.length=ar∧F ts sto=some (t,sto') ∧
  ∀ v H' S' as',a9m ⟨S,as,H⟩ S' as' H'→Same S' H'→Hf K S' as' H' sto'→Rep K S' as' v t→Q v H'
noncomputable section
variable {X:Cx} {B:Bas} {a b c e:Expr} {m m1 m2:M T} {pos p:Pos} {u v:S} {es:List Expr} {ms:M (List T)} {k:Nat} {f:Addr} {fd:FuncData} {pn:List Str} {F:Fn} {x:Str}
theorem a6x (G:Ad X.prog X.w X.K X.mg X.base CX0 k f fd pn (spF X.K pn.length F)) (hr:Jv k X.A) (hg:Gl X x) (hm:X.mg x=some (.ref f)) (hk:PySem.W.keepIn X.K (.ref f)=true) (hb:Binds X.K fd pn [])
    (ha:PA X (e::es) (aOf X.K B ms)) (hl:∀ st ts st',ms st=some (ts,st')→ts.length=pn.length) (hdb:(x==("__debug__" : Str))=false:=by decide)
    (he:starEach (e::es) X.env=(false,eval e X.env)::starEach es X.env:=by rfl) (hpl:(backTo pos (starEach es X.env)).any (·.1)=false:=by rfl) :
    PE X (.Call (.Name x p) (e::es) [] pos) (tOf X.K B (dw F ms)) :=
  (a4t G hr hg hm hk hb .nil aap ha hdb he hpl).imp fun σ H Q z9=>by
    obtain ⟨st,ps,S,as,R,t,st',e,q⟩:=z9
    obtain ⟨ts,s1,sto,e1,e2,rfl⟩:=Yx e
    refine ⟨st,ps,S,as,R,ts,s1,e1,fun vs H1 S1 as1 R1 rs=>?_⟩
    show spF X.K pn.length F (vs++[]) H1 Q E0
    rw [List.append_nil]
    exact ⟨S1,as1,s1.sto,ts,t,sto,R1.sub,R1.sto,rs,hl _ _ _ e1,e2,fun v H2 S2 as2 g sub so r=>q v H2 S2 as2 ((R1.call g sub so).push r)⟩
theorem eq_nil:∀ st ts st',fj st=some (ts,st')→ts.length=0:=fun st ts st' e=>by cases e; rfl
theorem cg {r:M (List T)} {n:Nat} (h:∀ st ts st',r st=some (ts,st')→ts.length=n):∀ st ts st',ak m r st=some (ts,st')→ts.length=n+1:=fun st ts st' e=>by
  obtain ⟨t,s1,us,e1,e2,rfl⟩:=Dk e
  exact congrArg (· + 1) (h _ _ _ e2)
end
noncomputable section
variable {P:Program} {w:World} {K:PySem.W.Frag} {mg:Str→Option Value} {base:Heap}
theorem Zq {N:List Str} {vs:List V} {i:Nat} {v:V} (h:vs[i]? = some v):(L2.start N vs)[i]? = some (some v):=by
  unfold L2.start
  have hi:=(List.getElem?_eq_some_iff.mp h).1
  rw [List.getElem?_append_left (by rw [List.length_map]; exact hi),List.getElem?_map,h]; rfl
theorem Z2 {S H:Hp} {as:List Addr} {sto:List SO} {vs:List V} {ts:List T} {N:List Str} (h1:Same S H) (h2:Hf K S as H sto) (h3:ux K S as vs ts) (hN:ts.length≤N.length) :
    Rel K ⟨S,as,H⟩ ⟨ts.map (fun t=>some (t,false))++List.replicate (N.length - ts.length) none,sto⟩ (L2.start N vs) H [] S as:=by
  have key:∀ (i:Nat) t fl,(ts.map (fun t=>some (t,false))++List.replicate (N.length - ts.length) (none:Slot))[i]? = some (some (t,fl))→fl=false∧ts[i]? = some t:=fun i t fl e=>by
    by_cases hi:i<ts.length
    · rw [List.getElem?_append_left (by rw [List.length_map]; exact hi),List.getElem?_map] at e
      cases z:ts[i]? with
      | none=>rw [z] at e; cases e
      | some t'=>rw [z] at e; cases e; exact ⟨rfl,rfl⟩
    · rw [List.getElem?_append_right (by rw [List.length_map]; exact Nat.le_of_not_lt hi)] at e
      have:=List.eq_of_mem_replicate (List.mem_of_getElem? e)
      cases this
  refine ⟨h1,⟨Same.refl _,nol,fun p o a b c=>⟨a,b,c⟩⟩,fun i t fl e=>?_,fun i j t u p ei ej=>?_,h2,(fun p hp=>by cases hp),?_⟩
  · obtain ⟨rfl,e'⟩:=key i t fl e
    obtain ⟨v,hv,r⟩:=h3.get e'
    exact ⟨v,Zq hv,fun _=>r,fun z=>by cases z⟩
  · obtain ⟨z,_⟩:=key i t true ei; cases z
  · unfold L2.start
    rw [List.length_append,List.length_append,List.length_map,List.length_map,List.length_replicate,List.length_replicate,h3.length]
theorem p7 {x qual:Str} {st:Stmt} {f:Addr} {fd:FuncData} {N ps:List Str} {k:Nat} {b:S} (F:Fun K x qual st f fd) (Sc:m9 N ps (jd st)) (hN:ps.length≤N.length)
    (hb:∀ (cdv:Value) (A:Around) (outer:List Env) (s:Shared) (H:Hp) (E:XK) (B:Bas),Jv k (A.deeper (envOfC qual (jd st) s.heap.objs.size f cdv)) →
      PSs (a5s CX0 P w K mg base N qual (jd st) f cdv A outer s H E).nox (Bq st) (sOf K B b)):Ad P w K mg base CX0 (k+1) f fd ps (spF K ps.length (gk N.length b)):=by
  refine F.ok Sc (fun vs H Q E h=>?_) fun cdv A outer s H vs Q E hr h=>?_
  · obtain ⟨S,as,sto,ts,t,sto',h1,h2,h3,h4,_⟩:=h
    rw [h3.length,h4]
  · obtain ⟨S,as,sto,ts,t,sto',h1,h2,h3,h4,h5,q⟩:=h
    refine ⟨_,hb cdv A outer s H E ⟨S,as,H⟩ hr,?_⟩
    have lv:vs.length=ps.length:=by rw [h3.length,h4]
    have R:Rel K ⟨S,as,H⟩ ⟨ts.map (fun t=>some (t,false))++List.replicate (N.length - ts.length) none,sto⟩ (L2.start N vs) H [] S as:=Z2 h1 h2 h3 (by rw [h4]; exact hN)
    unfold gk at h5
    split at h5
    · rename_i t' s' e
      cases h5
      exact ⟨_,[],S,as,R,.ret t,s',e,fun v σ' H' S' as' R'=>q v H' S' as' R'.grow R'.sub R'.sto R'.top⟩
    · rename_i s' e
      cases h5
      exact ⟨_,[],S,as,R,.next,s',e,fun σ' H' S' as' R'=>q .non H' S' as' R'.grow R'.sub R'.sto .non⟩
    · cases h5
end
end C
end
noncomputable section
set_option linter.all false
set_option maxRecDepth 100000
set_option maxHeartbeats 4000002
set_option autoImplicit false
namespace C
open PySem PySem.Spec PyProof.Rows L2
theorem a0h {g:G} {b:S} {t:T} {r:List T} {s s':Sta} {fl:Flow} (h:forL g b (t::r) s=some (fl,s')):∃ s1 fb s2,g t s=some s1∧b s1=some (fb,s2) ∧
    (match fb with | .next=>forL g b r s2=some (fl,s') | .cont=>forL g b r s2=some (fl,s') | .brk=>fl=.next∧s'=s2 | .ret v=>fl=.ret v∧s'=s2):=by
  rw [forL] at h
  dsimp only at h
  split at h
  · rename_i s1 e1
    split at h
    · rename_i s2 e2; exact ⟨s1,.next,s2,e1,e2,h⟩
    · rename_i s2 e2; exact ⟨s1,.cont,s2,e1,e2,h⟩
    · rename_i s2 e2; cases h; exact ⟨s1,.brk,_,e1,e2,rfl,rfl⟩
    · rename_i v s2 e2; cases h; exact ⟨s1,.ret v,_,e1,e2,rfl,rfl⟩
    · cases h
  · cases h
structure Lh (K:PySem.W.Frag) (S:Hp) (as:List Addr) (H:Hp) (J:It) (ts:List T):Prop where
  go:∀ (i:Nat) t,ts[i]? = some t→J.go i H∧∀ x H',J.yld i H x H'→∃ S',Ext S H S' H'∧Rep K S' as x t
  stop:∀ i,ts.length≤i→J.stop i H
inductive iOf (K:PySem.W.Frag) (B:Bas) (m:M (List T)) (σ:L2.St) (H:Hp) (R:It→Hp→Prop):Prop
  | mk (st:Sta) (ps:List (V × T)) (S:Hp) (as:List Addr) (R0:Rel K B st σ H ps S as) (ts:List T) (st':Sta) (e:m st=some (ts,st')) (z:ts.length≤sizeLine) (q:∀ J H' S' as' ps',Rel K B st' σ H' (ps'++ps) S' as'→(∀ S as H,(∀ p∈ps',Rep K S as p.1 p.2)→Same S H→Lh K S as H J ts)→R J H')
noncomputable section
variable {X:Cx} {tg l:Expr} {tl:TE}
noncomputable def iSq (K:PySem.W.Frag) (tl:TE):TI:=fun σ H R=>tl σ H fun x H1=>∃ a,x=.ref a∧(((∃ xs,SqL K H1 a xs)∧R (Itl K a) H1)∨((∃ xs,SqT K H1 a xs)∧R (Itt K a) H1))
theorem aa4 (hl:PE X l tl):PI X tg l (iSq X.K tl):=by
  intro pins s σ H R I h
  refine thn (hl pins s σ H _ I h) fun v s1 z0=>?_
  obtain ⟨x,H1,I1,r1,q1⟩:=z0
  obtain ⟨a,e,q⟩:=q1
  subst e
  cases r1
  rcases q with ⟨⟨xs,hq⟩,q⟩ | ⟨⟨xs,hq⟩,q⟩
  · obtain ⟨its,rv,p,hz⟩:=I1.list hq
    refine wpAny_pyIter_list p.isList ?_
    refine ⟨s1.heap.objs.size,[s1.heap.objs.size],_,_,H1,rfl,I1.kept (t':=s1.toks) fun b o e=>Heap.get?_push_of_some _ e,Y8 a _,⟨_,Heap.get?_push_size _ rfl,rfl,rfl⟩,fun b hb=>?_,q⟩
    have e:b=s1.heap.objs.size:=by simpa using hb
    subst e
    exact I1.a85 (Nat.le_refl _) (I1.hok.fresh (Nat.le_refl _))
  · obtain ⟨its,rv,p,hz⟩:=I1.tuple hq
    refine wpAny_pyIter_tuple (show s1.heap.IsTuple a its.toArray from p) ?_
    refine ⟨s1.heap.objs.size,[s1.heap.objs.size],_,_,H1,rfl,I1.kept (t':=s1.toks) fun b o e=>Heap.get?_push_of_some _ e,Vq a _,⟨_,Heap.get?_push_size _ rfl,rfl,rfl⟩,fun b hb=>?_,q⟩
    have e:b=s1.heap.objs.size:=by simpa using hb
    subst e
    exact I1.a85 (Nat.le_refl _) (I1.hok.fresh (Nat.le_refl _))
end
noncomputable section
variable {X:Cx} {B:Bas} {a b c e tg iter:Expr} {m m1 m2:M T} {pos p:Pos} {u v:S} {g:G} {it:M (List T)} {body:List Stmt}
theorem itL {K:PySem.W.Frag} {S:Hp} {as:List Addr} {H:Hp} {p:Addr} {vs:List V} {ts:List T} (sub:Same S H) (h:SqL K H p vs) (r:ux K S as vs ts):Lh K S as H (Itl K p) ts where
  go:=fun i t e=>by
    obtain ⟨v,hv,rv⟩:=r.get e
    exact ⟨⟨vs,v,h,hv⟩,fun x H' y=>⟨S,by rw [y.1]; exact Ext.refl sub,by have:=y.2 vs h; rw [hv] at this; cases this; exact rv⟩⟩
  stop:=fun i hi=>⟨vs,h,by rw [r.length]; exact hi⟩
theorem itT {K:PySem.W.Frag} {S:Hp} {as:List Addr} {H:Hp} {p:Addr} {vs:List V} {ts:List T} (sub:Same S H) (h:SqT K H p vs) (r:ux K S as vs ts):Lh K S as H (Itt K p) ts where
  go:=fun i t e=>by
    obtain ⟨v,hv,rv⟩:=r.get e
    exact ⟨⟨vs,v,h,hv⟩,fun x H' y=>⟨S,by rw [y.1]; exact Ext.refl sub,by have:=y.2 vs h; rw [hv] at this; cases this; exact rv⟩⟩
  stop:=fun i hi=>⟨vs,h,by rw [r.length]; exact hi⟩
theorem vh:lim≤sizeLine:=by rw [sizeLine_eq]; decide
theorem yr (h:PE X iter (tOf X.K B m)):PI X tg iter (iOf X.K B (jo m)):=by
  intro pins s σ H R I hw
  refine aa4 h pins s σ H R I ?_
  obtain ⟨st,ps,S,as,Rl,ts,st',e,hz,q⟩:=hw
  unfold jo at e
  split at e
  · rename_i xs s1 e1
    split at e
    · rename_i hl
      cases e
      refine ⟨st,ps,S,as,Rl,_,_,e1,fun v H1 S1 as1 R1=>?_⟩
      have top:=R1.top
      cases top with
      | @lst a vs _ hs hr =>
        refine ⟨a,rfl,.inl ⟨⟨vs,mq R1.sub hs⟩,q _ H1 S1 as1 [(.ref a,.lst _)] R1 fun S2 as2 H2 hp hh=>?_⟩⟩
        have:=hp _ List.mem_cons_self
        cases this with
        | @lst _ vs2 _ hs2 hr2=>exact itL hh (mq hh hs2) hr2
    · cases e
  · rename_i xs s1 e1
    split at e
    · rename_i hl
      cases e
      refine ⟨st,ps,S,as,Rl,_,_,e1,fun v H1 S1 as1 R1=>?_⟩
      have top:=R1.top
      cases top with
      | @tup a vs _ hs hr =>
        refine ⟨a,rfl,.inr ⟨⟨vs,qt R1.sub hs⟩,q _ H1 S1 as1 [(.ref a,.tup _)] R1 fun S2 as2 H2 hp hh=>?_⟩⟩
        have:=hp _ List.mem_cons_self
        cases this with
        | @tup _ vs2 _ hs2 hr2=>exact itT hh (qt hh hs2) hr2
    · cases e
  · cases e
theorem Kq {a:M T} {ts:List T} {s s':Sta} (h:dz a s=some (ts,s')):∃ n:Int,a s=some (.int n,s')∧(-1000000<n∧n<1000000)∧ts=rangeT n.toNat:=by
  unfold dz at h
  split at h
  · rename_i n s1 e
    split at h
    · rename_i hl; cases h; exact ⟨n,e,by have:n.natAbs<1000000:=hl; (clear e hl; omega),rfl⟩
    · cases h
  · cases h
theorem V4 {n i:Nat} {t:T} (h:(rangeT n)[i]? = some t):i<n∧t=.int (i:Int):=by
  unfold rangeT at h
  rw [List.getElem?_map] at h
  cases z:(List.range n)[i]? with
  | none=>rw [z] at h; cases h
  | some k =>
    rw [z] at h; cases h
    obtain ⟨hi,e⟩:=List.getElem?_eq_some_iff.mp z
    rw [List.getElem_range] at e; subst e
    rw [List.length_range] at hi
    exact ⟨hi,rfl⟩
theorem Cq (hg:Gl X "range") (hm:X.mg "range" = none) (h:PE X a (tOf X.K B m)) (hs:starEach [a] X.env=[(false,eval a X.env)]:=by rfl):PI X tg (.Call (.Name "range" p) [a] [] pos) (iOf X.K B (dz m)):=by
  intro pins s σ H R I hw
  refine Zm (ta:=V2 (tOf X.K B m) a80) hg hm (sy h vq hs) hs pins s σ H R I ?_
  obtain ⟨st,ps,S,as,Rl,ts,st',e,hz,q⟩:=hw
  obtain ⟨n,e1,hl,rfl⟩:=Kq e
  refine ⟨st,ps,S,as,Rl,_,_,e1,fun v H1 S1 as1 R1=>?_⟩
  cases R1.top
  refine ⟨n,rfl,by (clear R1 q hz e e1 Rl I hs h hm hg; omega),by (clear R1 q hz e e1 Rl I hs h hm hg; omega),q _ H1 S1 as1 [] R1.drop fun S2 as2 H2 _ hh=>⟨fun i t e=>?_,fun i hi=>?_⟩⟩
  · obtain ⟨hi,rfl⟩:=V4 e
    refine ⟨hi,fun x H' y=>⟨S2,by rw [y.1]; exact Ext.refl hh,?_⟩⟩
    have:=y.2; subst this
    rw [Int.zero_add]; exact .int _
  · show n.toNat≤i
    unfold rangeT at hi
    rwa [List.length_map,List.length_range] at hi
theorem Cw (hp:PassesOwn (model X.prog X.w) X.A X.env X.xe) (hc:X.calm=true) (hi:PI X tg iter (iOf X.K B it)) (hg:PG X tg (gOf X.K B g)) (hb:PSs X body (sOf X.K B u)) (hsz:∀ st ts st',it st=some (ts,st')→ts.length≤sizeLine)
    (hs:∀ x,foldedSetIterable iter X.env x=pure x:=by intro _; rfl):PS X (.For tg iter body [] pos) (sOf X.K B (lu g it u)):=(a8g hp hc hi hg hb hs).imp fun D σ H z9=>by
  obtain ⟨st,ps,S,as,R,fl,st',e,q⟩:=z9
  obtain ⟨ts,s1,e1,e2⟩:=a0y e
  refine ⟨st,ps,S,as,R,ts,s1,e1,hsz _ _ _ e1,fun J H1 S1 as1 ps' R1 facts=>?_⟩
  refine ⟨fun i m σ H=>m=ts.length - i∧i≤ts.length∧∃ sti Si asi,Rel X.K B sti σ H (ps'++ps) Si asi∧forL g u (ts.drop i) sti=some (fl,st'),⟨ts.length,by simp,Nat.zero_le _,s1,S1,as1,R1,by simpa using e2⟩,?_⟩
  rintro i m σ2 H2 ⟨rfl,hi,sti,Si,asi,Ri,ei⟩
  have F:=facts Si asi H2 (fun p hp=>Ri.pend p (List.mem_append_left _ hp)) Ri.sub
  have sub:∀ p∈ps,p∈ps'++ps:=fun p hp=>List.mem_append_right _ hp
  by_cases hlt:i<ts.length
  · rw [List.drop_eq_getElem_cons hlt] at ei
    obtain ⟨s2,fb,s3,eg,eb,er⟩:=a0h ei
    have ht:ts[i]? = some ts[i]:=List.getElem?_eq_getElem hlt
    refine .inr ⟨(F.go i _ ht).1,fun σ' H'=>∃ sti Si asi,Rel X.K B sti σ' H' (ps'++ps) Si asi∧forL g u (ts.drop (i+1)) sti=some (fl,st'),fun σ' H' h=>⟨ts.length - (i+1),by (clear h ht er eb eg ei sub F Ri hi facts R1 e2 e1 q e R hs hsz hb hg hc hp; omega),rfl,hlt,h⟩,fun x H' y=>?_⟩
    obtain ⟨S',ex,rx⟩:=(F.go i _ ht).2 x H' y
    refine ⟨sti,ps'++ps,S',asi,_,(Ri.ext ex).push rx,s2,eg,fun σ3 H3 S3 as3 R3=>⟨s2,ps'++ps,S3,as3,R3,fb,s3,eb,?_⟩⟩
    cases fb with
    | next=>exact fun σ' H' S' as' R'=>⟨s3,S',as',R',er⟩
    | cont=>exact fun σ' H' S' as' R'=>⟨s3,S',as',R',er⟩
    | brk =>
      obtain ⟨rfl,rfl⟩:=er
      exact fun σ' H' S' as' R'=>q σ' H' S' as' (R'.pick sub)
    | ret v =>
      obtain ⟨rfl,rfl⟩:=er
      exact fun v σ' H' S' as' R'=>q v σ' H' S' as' (R'.pick fun p hp=>by
        rcases List.mem_cons.mp hp with rfl | z
        · exact List.mem_cons_self
        · exact List.mem_cons_of_mem _ (sub p z))
  · have hie:i=ts.length:=by (clear sub F ei Ri facts R1 e2 e1 q e R hs hsz hb hg hc hp; omega)
    subst hie
    rw [List.drop_length] at ei
    cases ei
    exact .inl ⟨F.stop _ (Nat.le_refl _),q σ2 H2 Si asi (Ri.pick sub)⟩
end
end C
end
noncomputable section
set_option linter.all false
set_option maxRecDepth 100000
set_option maxHeartbeats 4000002
set_option autoImplicit false
namespace C
open PySem PySem.Spec PyProof.Rows L2
noncomputable section
variable {K:PySem.W.Frag} {B:Bas} {st:Sta} {σ:L2.St} {H H' S S':Hp} {ps ps2:List (V × T)} {as as':List Addr}
theorem Rel.Yb (r:Rel K B st σ H ps S as) {i:Nat} {t:T} (e:st.env[i]? = some (some (t,true))):∃ S',Rel K B { st with env:=st.env.set i (some (t,false)) } σ H ps S' as:=by
  obtain ⟨v,S',_,R⟩:=r.freeze e
  exact ⟨S',R.drop⟩
theorem Rel.bf:∀ (cap:List Nat) {st:Sta} {S:Hp},Rel K B st σ H ps S as→∃ S',Rel K B { st with env:=bf cap st.env } σ H ps S' as
  | [],st,S,r=>⟨S,r⟩
  | i::l,st,S,r=>by
    unfold C.bf
    rw [List.foldl_cons]
    split
    · rename_i t f e
      cases f with
      | true =>
        obtain ⟨S1,R1⟩:=r.Yb e
        exact Rel.bf l R1
      | false =>
        have e2:st.env.set i (some (t,false))=st.env:=by
          apply List.ext_getElem?
          intro j
          by_cases hij:i=j
          · subst hij
            rw [List.getElem?_set_self (List.getElem?_eq_some_iff.mp e).1,e]
          · rw [List.getElem?_set_ne hij]
        rw [e2]
        exact Rel.bf l r
    · exact Rel.bf l r
noncomputable def Eh (env:List Slot):Nat→List Slot
  | 0=>env
  | n+1=>match (Eh env n)[n]? with
    | some (some (t,_))=>(Eh env n).set n (some (t,false))
    | _=>Eh env n
theorem Iz (env:List Slot):∀ n,(Eh env n).length=env.length
  | 0=>rfl
  | n+1=>by
    rw [Eh]
    split
    · rw [List.length_set]; exact Iz env n
    · exact Iz env n
theorem Hx (env:List Slot):∀ (n j:Nat),(Eh env n)[j]? = if j<n then (env[j]?).map m8 else env[j]?
  | 0,j=>by rw [if_neg (Nat.not_lt_zero _)]; rfl
  | n+1,j=>by
    have ihn:=Hx env n n
    rw [if_neg (Nat.lt_irrefl _)] at ihn
    have ihj:=Hx env n j
    rw [Eh,ihn]
    by_cases hj:j=n
    · subst hj
      rw [if_pos (Nat.lt_succ_self _)]
      cases z:env[j]? with
      | none=>simp only [z,Option.map_none]; rw [ihn,z]
      | some s =>
        have hl:j<(Eh env j).length:=by rw [Iz]; exact (List.getElem?_eq_some_iff.mp z).1
        cases s with
        | none=>simp only [Option.map_some]; rw [ihn,z]; rfl
        | some p=>obtain ⟨t,f⟩:=p; simp only [Option.map_some]; rw [List.getElem?_set_self hl]; rfl
    · have e1:(if j<n+1 then (env[j]?).map m8 else env[j]?)=(if j<n then (env[j]?).map m8 else env[j]?):=by
        by_cases hlt:j<n
        · rw [if_pos hlt,if_pos (Nat.lt_succ_of_lt hlt)]
        · rw [if_neg hlt,if_neg (by (clear ihj ihn; omega))]
      rw [e1,← ihj]
      split
      · rw [List.getElem?_set_ne (Ne.symm hj)]
      · rfl
theorem Ww (env:List Slot):Eh env env.length=env.map m8:=by
  apply List.ext_getElem?
  intro j
  rw [Hx,List.getElem?_map]
  by_cases hj:j<env.length
  · rw [if_pos hj]
  · rw [if_neg hj,List.getElem?_eq_none (Nat.le_of_not_lt hj)]; rfl
theorem Rel.Eh (r:Rel K B st σ H ps S as):∀ n,∃ S',Rel K B { st with env:=C.Eh st.env n } σ H ps S' as
  | 0=>⟨S,r⟩
  | n+1=>by
    obtain ⟨S1,R1⟩:=Rel.Eh r n
    rw [C.Eh]
    split
    · rename_i t f e
      cases f with
      | true=>exact R1.Yb e
      | false =>
        have e2:(C.Eh st.env n).set n (some (t,false))=C.Eh st.env n:=by
          apply List.ext_getElem?
          intro j
          by_cases hij:n=j
          · subst hij
            rw [List.getElem?_set_self (List.getElem?_eq_some_iff.mp e).1,e]
          · rw [List.getElem?_set_ne hij]
        rw [e2]
        exact ⟨S1,R1⟩
    · exact ⟨S1,R1⟩
theorem Rel.ug (r:Rel K B st σ H ps S as):∃ S',Rel K B (ug st) σ H ps S' as:=by
  obtain ⟨S',R⟩:=r.Eh st.env.length
  rw [Ww] at R
  exact ⟨S',R⟩
noncomputable def a2n (st:Sta):Prop:=∀ (i:Nat) t,st.env[i]?≠some (some (t,true))
theorem Bl (st:Sta):a2n (C.ug st):=fun i t e=>by
  unfold C.ug at e
  rw [List.getElem?_map] at e
  cases z:st.env[i]? with
  | none=>rw [z] at e; cases e
  | some s =>
    rw [z] at e
    cases s with
    | none=>cases e
    | some p=>obtain ⟨t,f⟩:=p; cases e
theorem Rel.rebase (r:Rel K B st σ H ps S as) (n:a2n st):Rel K ⟨S,as,H⟩ st σ H ps S as :=
  ⟨r.sub,⟨Same.refl _,nol,fun p o a b c=>⟨a,b,c⟩⟩,fun i t f e=>by
    obtain ⟨v,h1,h2,_⟩:=r.slots i t f e
    exact ⟨v,h1,h2,fun z=>by subst z; exact absurd e (n i t)⟩,r.apart,r.sto,r.pend,r.len⟩
end
theorem X4 {g:G} {c:M Bool} {e:M T} {t:T} {r acc us:List T} {s s':Sta} (h:Ei g c e (t::r) s acc=some (us,s')):∃ s1 b s2,g t s=some s1∧c s1=some (b,s2) ∧
    ((b=true∧∃ u s3,e s2=some (u,s3)∧acc.length<lim∧Ei g c e r (ug s3) (acc++[u])=some (us,s'))∨(b=false∧Ei g c e r (ug s2) acc=some (us,s'))):=by
  rw [Ei] at h
  split at h
  · rename_i s1 e1
    split at h
    · rename_i s2 e2
      split at h
      · rename_i u s3 e3
        split at h
        · rename_i hl; exact ⟨s1,true,s2,e1,e2,.inl ⟨rfl,u,s3,e3,hl,h⟩⟩
        · cases h
      · cases h
    · rename_i s2 e2; exact ⟨s1,false,s2,e1,e2,.inr ⟨rfl,h⟩⟩
    · cases h
  · cases h
theorem Xi {nv:Nat} {cap:List Nat} {g:G} {it:M (List T)} {c:M Bool} {e:M T} {s s':Sta} {v:T} (h:qp nv cap g it c e s=some (v,s')):∃ ts s1 us s2,it s=some (ts,s1) ∧
    Ei g c e ts ⟨List.replicate nv none++cap.map (fun i=>((bf cap s1.env)[i]?).getD none),s1.sto⟩ []=some (us,s2)∧v=.lst us∧s'=⟨bf cap s1.env,s2.sto⟩:=by
  unfold qp at h
  split at h
  · rename_i ts s1 e1
    dsimp only at h
    split at h
    · rename_i us s2 e2; cases h; exact ⟨ts,s1,us,s2,e1,e2,rfl,rfl⟩
    · cases h
  · cases h
noncomputable section
variable {K:PySem.W.Frag} {B:Bas} {st:Sta} {σ:L2.St} {H H' S S':Hp} {ps ps2:List (V × T)} {as as':List Addr} {D:Addr} {ob:HO}
theorem Hf.mem {sto:List SO} (r:Hf K S as H sto) {a:Addr} (h:a∈as):∃ o,H a=some o:=by
  obtain ⟨n,hn⟩:=List.getElem?_of_mem h
  have hl:=(List.getElem?_eq_some_iff.mp hn).1
  rw [r.len] at hl
  obtain ⟨a',h1,h2,h3⟩:=r.at' n _ (List.getElem?_eq_getElem hl)
  rw [hn] at h1; cases h1
  exact h3.there
theorem Rel.fresh (r:Rel K B st σ H ps S as) (h:H D=none):B.H D=none∧S D=none∧D∉as∧K5 st σ D:=by
  have sD:S D=none:=r.sub.free h
  have nD:D∉as:=fun z=>by obtain ⟨o,e⟩:=r.sto.mem z; rw [h] at e; cases e
  refine ⟨?_,sD,nD,fun j u e1 e2=>?_⟩
  · cases q:B.H D with
    | none=>rfl
    | some o =>
      have b1:B.S D=none:=by
        cases z:B.S D with
        | none=>rfl
        | some u=>have:=r.grow.same _ _ z; rw [sD] at this; cases this
      have b2:D∉B.as:=fun z=>by obtain ⟨l,e⟩:=r.grow.more; exact nD (by rw [e]; exact List.mem_append_left _ z)
      have:=(r.grow.keep D o q b1 b2).1
      rw [h] at this; cases this
  · obtain ⟨v,h1,_,h3⟩:=r.slots j u true e1
    rw [e2] at h1; cases h1
    obtain ⟨p,ep,o⟩:=h3 rfl
    cases ep
    obtain ⟨ob,ho⟩:=o.own.there
    rw [h] at ho; cases ho
theorem Rel.a6s (r:Rel K B st σ H ps S as) (bD:B.H D=none) (sD:S D=none) (nD:D∉as) (no:K5 st σ D):Rel K B st σ (upd H D ob) ps S as:=by
  have ne:∀ b u,S b=some u→b≠D:=fun b u e z=>by subst z; rw [sD] at e; cases e
  refine ⟨fun b u e=>by rw [n8 (ne b u e)]; exact r.sub _ _ e,⟨r.grow.same,r.grow.more,fun p o x y z=>?_⟩,fun i t f e=>?_,r.apart,⟨r.sto.len,r.sto.nd,fun n so e=>?_⟩,r.pend,r.len⟩
  · obtain ⟨a,b,c⟩:=r.grow.keep p o x y z
    exact ⟨by rw [n8 (fun w=>by subst w; rw [bD] at x; cases x)]; exact a,b,c⟩
  · obtain ⟨v,h1,h2,h3⟩:=r.slots i t f e
    refine ⟨v,h1,h2,fun z=>?_⟩
    obtain ⟨p,rfl,o⟩:=h3 z
    have n:p≠D:=fun w=>by subst w; subst z; exact no i t e h1
    exact ⟨p,rfl,o.own.mono (Same.refl _) (n8 n).symm,o.out,o.nas,o.new⟩
  · obtain ⟨a,h1,h2,h3⟩:=r.sto.at' n so e
    exact ⟨a,h1,h2,h3.mono (Same.refl _) (n8 (fun w=>by subst w; exact nD (List.mem_of_getElem? h1))).symm⟩
theorem Rel.a90 (r:Rel K B st σ H ps S as) (no:a2n st) (sD:S D=none) (nD:D∉as):Rel K ⟨S,as,upd H D ob⟩ st σ (upd H D ob) ps S as:=by
  have ne:∀ b u,S b=some u→b≠D:=fun b u e z=>by subst z; rw [sD] at e; cases e
  refine ⟨fun b u e=>by rw [n8 (ne b u e)]; exact r.sub _ _ e,⟨Same.refl _,nol,fun p o x y z=>⟨x,y,z⟩⟩,fun i t f e=>?_,r.apart,⟨r.sto.len,r.sto.nd,fun n so e=>?_⟩,r.pend,r.len⟩
  · obtain ⟨v,h1,h2,_⟩:=r.slots i t f e
    exact ⟨v,h1,h2,fun z=>by subst z; exact absurd e (no i t)⟩
  · obtain ⟨a,h1,h2,h3⟩:=r.sto.at' n so e
    exact ⟨a,h1,h2,h3.mono (Same.refl _) (n8 (fun w=>by subst w; exact nD (List.mem_of_getElem? h1))).symm⟩
end
theorem Fb:∀ (cap:List Nat) (env:List Slot) (k:Nat),(∀ t,env[k]?≠some (some (t,true)))→∀ t,(bf cap env)[k]?≠some (some (t,true))
  | [],env,k,h=>h
  | i::l,env,k,h=>by
    have e:bf (i::l) env=bf l (match env[i]? with | some (some (t,_))=>env.set i (some (t,false)) | _=>env):=rfl
    rw [e]
    refine Fb l _ k fun t=>?_
    split
    · rename_i t' f e'
      by_cases hk:i=k
      · subst hk
        rw [List.getElem?_set_self (List.getElem?_eq_some_iff.mp e').1]
        intro z; cases z
      · rw [List.getElem?_set_ne hk]; exact h t
    · exact h t
theorem J1:∀ (cap:List Nat) (env:List Slot) (k:Nat),k∈cap→∀ t,(bf cap env)[k]?≠some (some (t,true))
  | [],env,k,h=>by simp at h
  | i::l,env,k,h=>by
    have e:bf (i::l) env=bf l (match env[i]? with | some (some (t,_))=>env.set i (some (t,false)) | _=>env):=rfl
    rw [e]
    rcases List.mem_cons.mp h with rfl | h' -- here
    · refine Fb l _ k fun t=>?_
      split
      · rename_i t' f e'
        rw [List.getElem?_set_self (List.getElem?_eq_some_iff.mp e').1]
        intro z; cases z
      · rename_i hx
        intro z
        exact hx _ _ z
    · exact J1 l _ k h'
noncomputable def gE (K:PySem.W.Frag) (g:G):TG:=fun v σ H Q=>∃ B,gOf K B g v σ H Q
noncomputable def cE (K:PySem.W.Frag) (c:M Bool):TT:=fun σ H Q=>∃ B,cOf K B c σ H Q
noncomputable def eE (K:PySem.W.Frag) (e:M T):TE:=fun σ H Q=>∃ B,tOf K B e σ H Q
theorem pgE {X:Cx} {tg:Expr} {g:G} (h:∀ B,PG X tg (gOf X.K B g)):PG X tg (gE X.K g):=fun pins s σ H x u Q I r ⟨B,q⟩=>h B pins s σ H x u Q I r q
theorem ptE {X:Cx} {e:Expr} {c:M Bool} (h:∀ B,PT X e (cOf X.K B c)):PT X e (cE X.K c):=fun pins s σ H Q I ⟨B,q⟩=>h B pins s σ H Q I q
theorem peE {X:Cx} {e:Expr} {m:M T} (h:∀ B,PE X e (tOf X.K B m)):PE X e (eE X.K m):=fun pins s σ H Q I ⟨B,q⟩=>h B pins s σ H Q I q
theorem wg {X:Cx}:PTs X [] (cE X.K gw):=fun pins s σ H Q I z9=>by
  obtain ⟨B,st,ps,S,as,R,b,st',e,q⟩:=z9
  cases e
  exact a5b pins s σ H Q I (q H S as R)
theorem Te {X:Cx} {e:Expr} {c:M Bool} (h:∀ B,PT X e (cOf X.K B c)):PTs X [e] (cE X.K c):=a4e (ptE h)
noncomputable section
variable {X:Cx} {scope:Scope} {N:List Str}
inductive CI (K:PySem.W.Frag) (B:Bas) (g:G) (c:M Bool) (e:M T) (ts us:List T) (env:List Slot) (s2:Sta) (σ:L2.St) (pp:List (V × T)) (D:Addr) (i m:Nat) (σ':L2.St) (H':Hp):Prop where
  | mk (sti:Sta) (Si:Hp) (asi:List Addr) (acc:List T) (accv:List V) (hm:m=ts.length - i) (hi:i≤ts.length) (Ri:Rel K ⟨Si,asi,H'⟩ sti σ' H' [] Si asi) (no:a2n sti) (Ro:Rel K B ⟨env,sti.sto⟩ σ H' pp Si asi) (hD:H' D=some (.lst accv)) (sD:Si D=none) (nD:D∉asi) (rA:ux K Si asi accv acc) (ei:Ei g c e (ts.drop i) sti acc=some (us,s2)):CI K B g c e ts us env s2 σ pp D i m σ' H'
theorem Ws {B:Bas} {nv:Nat} {cap:List Nat} {g:G} {c:M Bool} {e:M T} {ts us:List T} {env:List Slot} {sto1:List SO} {s2:Sta} {σ:L2.St} {H1 S1:Hp} {as1:List Addr} {ps ps':List (V × T)} {J:It} {Q:VK}
    (hN:N.length=nv+cap.length) (hv:∀ i x,i<nv→N[i]? = some x→True)
    (hcap:∀ (j k:Nat),cap[j]? = some k→∃ x,N[nv+j]? = some x∧X.N[k]? = some x∧a9i X scope x)
    (R1:Rel X.K B ⟨env,sto1⟩ σ H1 (ps'++ps) S1 as1) (hno:∀ k∈cap,∀ t,env[k]?≠some (some (t,true)))
    (facts:∀ S as H,Same B.S S→(∃ l,as=B.as++l)→(∀ p∈ps',Rep X.K S as p.1 p.2)→Same S H→Lh X.K S as H J ts)
    (hc:Ei g c e ts ⟨List.replicate nv none++cap.map (fun i=>(env[i]?).getD none),sto1⟩ []=some (us,s2))
    (fin:∀ D H' S' as',Rel X.K B ⟨env,s2.sto⟩ σ H' (ps'++ps) S' as'→Vc X.K B S' as' H' D (.lst us)→K5 ⟨env,s2.sto⟩ σ D→Q (.ref D) H') :
    Pz X scope N (gE X.K g) (cE X.K c) (eE X.K e) σ J H1 Q:=by
  intro D hD
  obtain ⟨bD,sD1,nD1,noD⟩:=R1.fresh hD
  have capg:∀ (i:Nat) s,(List.replicate nv (none:Slot)++cap.map (fun i=>(env[i]?).getD none))[i]? = some (some s)→∃ j k,i=nv+j∧cap[j]? = some k∧env[k]? = some (some s):=fun i s h=>by
    by_cases hi:i<nv
    · rw [List.getElem?_append_left (by rw [List.length_replicate]; exact hi)] at h
      have:=List.eq_of_mem_replicate (List.mem_of_getElem? h); cases this
    · rw [List.getElem?_append_right (by rw [List.length_replicate]; exact Nat.le_of_not_lt hi),List.length_replicate,List.getElem?_map] at h
      cases z:cap[i - nv]? with
      | none=>rw [z] at h; cases h
      | some k =>
        rw [z] at h
        refine ⟨i - nv,k,by (clear z h noD nD1 sD1 bD hD fin hc facts hno R1 hcap hv hN; omega),z,?_⟩
        cases w:env[k]? with
        | none=>simp [w] at h
        | some s'=>simp [w] at h; rw [h]
  have sig:∀ (j k:Nat) v,cap[j]? = some k→σ[k]? = some (some v)→(List.replicate nv (none:Option V)++cap.map (fun i=>(σ[i]?).getD none))[nv+j]? = some (some v):=fun j k v h1 h2=>by
    rw [List.getElem?_append_right (by rw [List.length_replicate]; (clear h2 h1 capg noD nD1 sD1 bD hD fin hc facts hno R1 hcap hv hN; omega)),List.length_replicate,Nat.add_sub_cancel_left,List.getElem?_map,h1]
    simp [h2]
  refine ⟨List.replicate nv none++cap.map (fun i=>(σ[i]?).getD none),by rw [List.length_append,List.length_replicate,List.length_map,hN],fun i v x h1 h2 _=>?_,?_⟩
  · by_cases hi:i<nv
    · rw [List.getElem?_append_left (by rw [List.length_replicate]; exact hi)] at h1
      have:=List.eq_of_mem_replicate (List.mem_of_getElem? h1); cases this
    · rw [List.getElem?_append_right (by rw [List.length_replicate]; exact Nat.le_of_not_lt hi),List.length_replicate,List.getElem?_map] at h1
      cases z:cap[i - nv]? with
      | none=>rw [z] at h1; cases h1
      | some k =>
        rw [z] at h1
        obtain ⟨y,n1,n2,ck⟩:=hcap _ _ z
        have e:nv+(i - nv)=i:=by (clear ck n2 n1 z h1 h2 sig capg noD nD1 sD1 bD hD fin hc facts hno R1 hcap hv hN; omega)
        rw [e,h2] at n1; cases n1
        refine ⟨k,n2,?_,ck⟩
        cases w:σ[k]? with
        | none=>simp [w] at h1
        | some s'=>simp [w] at h1; rw [h1]
  refine ⟨fun i m σ' H'=>CI X.K B g c e ts us env s2 σ (ps'++ps) D i m σ' H',⟨ts.length,.mk _ S1 as1 [] [] (by simp) (Nat.zero_le _) ?_ ?_ ?_ jl sD1 nD1 .nil hc⟩,?_⟩
  · refine Rel.a90 (B:=B) (H:=H1) ⟨R1.sub,R1.grow,fun i t f h=>?_,fun i j t u p hi hj=>?_,R1.sto,(fun p hp=>by cases hp),?_⟩ (fun i t h=>?_) sD1 nD1
    · obtain ⟨j,k,rfl,hk,ek⟩:=capg i _ h
      obtain ⟨v,h1,h2,h3⟩:=R1.slots k t f ek
      exact ⟨v,sig j k v hk h1,h2,h3⟩
    · obtain ⟨j,k,rfl,hk,ek⟩:=capg i _ hi
      exact absurd ek (hno k (List.mem_of_getElem? hk) t)
    · show (List.replicate nv (none:Option V)++cap.map _).length=(List.replicate nv (none:Slot)++cap.map _).length
      rw [List.length_append,List.length_append,List.length_replicate,List.length_replicate,List.length_map,List.length_map]
    · obtain ⟨j,k,rfl,hk,ek⟩:=capg i _ h
      exact absurd ek (hno k (List.mem_of_getElem? hk) t)
  · intro i t h
    obtain ⟨j,k,rfl,hk,ek⟩:=capg i _ h
    exact absurd ek (hno k (List.mem_of_getElem? hk) t)
  · exact R1.a6s bD sD1 nD1 noD
  rintro i m σ' H' ⟨sti,Si,asi,acc,accv,rfl,hi,Ri,no,Ro,hD',sD,nD,rA,ei⟩
  have F:=facts Si asi H' Ro.grow.same Ro.grow.more (fun p hp=>Ro.pend p (List.mem_append_left _ hp)) Ri.sub
  by_cases hlt:i<ts.length
  · rw [List.drop_eq_getElem_cons hlt] at ei
    obtain ⟨s3,b,s4,eg,ec,er⟩:=X4 ei
    have ht:ts[i]? = some ts[i]:=List.getElem?_eq_getElem hlt
    refine .inr ⟨(F.go i _ ht).1,fun x H2 y=>?_⟩
    obtain ⟨S2,ex,rx⟩:=(F.go i _ ht).2 x H2 y
    refine ⟨⟨Si,asi,H'⟩,sti,[],S2,asi,_,(Ri.ext ex).push rx,s3,eg,fun σ3 H3 S3 as3 R3=>⟨⟨Si,asi,H'⟩,s3,[],S3,as3,R3,b,s4,ec,fun H4 S4 as4 R4=>?_⟩⟩
    rcases er with ⟨rfl,w,s5,ee,hlen,erest⟩ | ⟨rfl,erest⟩
    · refine a6a ⟨⟨Si,asi,H'⟩,s4,[],S4,as4,R4,w,s5,ee,fun y H5 S5 as5 R5=>?_⟩
      obtain ⟨S6,R6⟩:=R5.ug
      obtain ⟨k1,k2,k3⟩:=R6.grow.keep D _ hD' sD nD
      have Ro2:=Ro.call R6.grow R6.sub R6.sto
      refine ⟨accv,k1,?_,ts.length - (i+1),by (clear Ro2 k3 k2 k1 R6 R5 erest hlen ee ec R4 R3 rx ex ht eg ei F rA nD sD hD' Ro no Ri hi sig capg noD nD1 sD1 bD hD fin hc facts hno R1 hcap hv hN; omega),.mk (ug s5) S6 as5 (acc++[w]) (accv++[y]) rfl hlt (R6.drop.a90 (Bl _) k2 k3) (Bl _) (Ro2.a6s bD k2 k3 noD) jl k2 k3 ((rA.mono R6.grow.same R6.grow.more).append (.cons R6.top .nil)) erest⟩
      rw [rA.length]; exact Nat.lt_of_lt_of_le hlen vh
    · refine a4s ?_
      obtain ⟨S6,R6⟩:=R4.ug
      obtain ⟨k1,k2,k3⟩:=R6.grow.keep D _ hD' sD nD
      have Ro2:=Ro.call R6.grow R6.sub R6.sto
      exact ⟨ts.length - (i+1),by (clear Ro2 k3 k2 k1 R6 ec erest R4 R3 rx ex y ht eg ei F rA nD sD hD' Ro no Ri hi sig capg noD nD1 sD1 bD hD fin hc facts hno R1 hcap hv hN; omega),.mk (ug s4) S6 as4 acc accv rfl hlt (R6.rebase (Bl _)) (Bl _) Ro2 k1 k2 k3 (rA.mono R6.grow.same R6.grow.more) erest⟩
  · have hie:i=ts.length:=by (clear F ei rA nD sD hD' Ro no Ri sig capg noD nD1 sD1 bD hD fin hc facts hno R1 hcap hv hN; omega)
    subst hie
    rw [List.drop_length] at ei
    cases ei
    exact .inl ⟨F.stop _ (Nat.le_refl _),fin D H' Si asi Ro ⟨⟨accv,hD',rA⟩,sD,nD,bD⟩ noD⟩
theorem Rel.give {K:PySem.W.Frag} {B:Bas} {st:Sta} {σ:L2.St} {H S:Hp} {ps:List (V × T)} {as:List Addr} {p:Addr} {t:T} (r:Rel K B st σ H ps S as) (o:Vc K B S as H p t) (no:K5 st σ p):∃ S',Rel K B st σ H ((.ref p,t)::ps) S' as:=by
  obtain ⟨ob,ho⟩:=o.own.there
  have sS:Same S (upd S p ob):=Same.upd o.out ob
  have rep:Rep K (upd S p ob) as (.ref p) t:=by
    have w:=o.own
    cases t with
    | lst ts=>obtain ⟨vs,h,q⟩:=w; rw [ho] at h; cases h; exact .lst (SqL.of jl) (q.mono sS nol)
    | dic ts=>obtain ⟨vs,h,q⟩:=w; rw [ho] at h; cases h; exact .dic (.inl jl) (q.mono sS nol)
    | _=>exact w.elim
  have outs:∀ q,S q=none→q≠p→upd S p ob q=none:=fun q h n=>by rw [n8 n]; exact h
  refine ⟨upd S p ob,Rel.push (v:=.ref p) (t:=t) ⟨?_,?_,?_,r.apart,?_,fun q hq=>(r.pend q hq).mono sS nol,r.len⟩ rep⟩
  · intro b u q
    by_cases z:b=p
    · subst z; rw [jl] at q; cases q; exact ho
    · rw [n8 z] at q; exact r.sub _ _ q
  · refine ⟨r.grow.same.trans sS,r.grow.more,fun q w a b c=>?_⟩
    obtain ⟨x,y,z⟩:=r.grow.keep q w a b c
    refine ⟨x,outs q y fun n=>?_,z⟩
    subst n; rw [o.new] at a; cases a
  · intro j u f ej
    obtain ⟨v',a1,a2,a3⟩:=r.slots j u f ej
    refine ⟨v',a1,fun z=>(a2 z).mono sS nol,fun z=>?_⟩
    subst z
    obtain ⟨p',rfl,o'⟩:=a3 rfl
    refine ⟨p',rfl,o'.own.mono sS rfl,outs p' o'.out fun n=>?_,o'.nas,o'.new⟩
    subst n
    exact no j u ej a1
  · refine ⟨r.sto.len,r.sto.nd,fun n so en=>?_⟩
    obtain ⟨a,a1,a2,a3⟩:=r.sto.at' n so en
    refine ⟨a,a1,outs a a2 fun z=>?_,a3.mono sS rfl⟩
    subst z
    exact o.nas (List.mem_of_getElem? a1)
theorem Nr {K:PySem.W.Frag} {B:Bas} {m:M T} {σ:L2.St} {H:Hp} {Q:VK} (h:tOf K B m σ H Q):fOf K B m σ H Q:=by
  obtain ⟨st,ps,S,as,R,t,st',e,q⟩:=h
  refine ⟨st,ps,S,as,R,t,st',e,fun p H' S' as' R' o n=>?_⟩
  obtain ⟨S2,R2⟩:=R'.give o n
  exact q _ H' S2 as' R2
theorem yp {e:Expr} {B:Bas} {m:M T} (h:PE X e (fOf X.K B m)):PE X e (tOf X.K B m):=h.imp fun σ H Q=>Nr
variable {B:Bas} {nv:Nat} {cap:List Nat} {g:G} {it:M (List T)} {c:M Bool} {e:M T} {tg iter elt:Expr} {ifs:List Expr} {pos:Pos}
structure a8x (X:Cx) (scope:Scope) (N:List Str) (nv:Nat) (cap:List Nat):Prop where
  len:N.length=nv+cap.length
  at':∀ (j k:Nat),cap[j]? = some k→∃ x,N[nv+j]? = some x∧X.N[k]? = some x∧a9i X scope x
theorem Mu (co:a8x X scope N nv cap) (hsz:∀ st ts st',it st=some (ts,st')→ts.length≤sizeLine) {σ:L2.St} {H:Hp} {Q:VK} (h:fOf X.K B (qp nv cap g it c e) σ H Q) :
    a6w X scope N (iOf X.K B it) (gE X.K g) (cE X.K c) (eE X.K e) σ H Q:=by
  obtain ⟨st,ps,S,as,R,t,st',e,q⟩:=h
  obtain ⟨ts,s1,us,s2,e1,e2,rfl,rfl⟩:=Xi e
  refine ⟨st,ps,S,as,R,ts,s1,e1,hsz _ _ _ e1,fun J H1 S1 as1 ps' R1 facts=>?_⟩
  obtain ⟨S2,R2⟩:=R1.bf cap
  exact Ws co.len (fun _ _ _ _=>trivial) co.at' R2 (fun k hk=>J1 cap s1.env k hk) (fun S as H _ _=>facts S as H) e2 fun D H' S' as' R' o n=>q D H' S' as' (R'.pick fun p hp=>List.mem_append_right _ hp) o n
theorem Aq (co:a8x X scope N nv cap) (sc:Kc X scope N) (calm:X.calm=true) (hi:PI X tg iter (iOf X.K B it)) (hsz:∀ st ts st',it st=some (ts,st')→ts.length≤sizeLine)
    (hg:∀ C s₀ H₀ ex pn,PG (xr X scope N C s₀ H₀ ex pn) tg (gE X.K g)) (hc:∀ C s₀ H₀ ex pn,PTs (xr X scope N C s₀ H₀ ex pn) ifs (cE X.K c)) (he:∀ C s₀ H₀ ex pn,PE (xr X scope N C s₀ H₀ ex pn) elt (eE X.K e))
    (hs:∀ x,foldedSetIterable iter X.env x=pure x:=by intro _; rfl):PE X (.ListComp elt [⟨tg,iter,ifs,0⟩] scope pos) (fOf X.K B (qp nv cap g it c e)) :=
  (a5r sc calm hi hg hc he hs).imp fun σ H Q h=>Mu co hsz h
end
end C
end
noncomputable section
set_option linter.all false
set_option maxRecDepth 100000
set_option maxHeartbeats 4000002
set_option autoImplicit false
namespace C
open PySem PySem.Spec PyProof.Rows L2
noncomputable section
variable {X:Cx}
theorem Rm {f:Value→Value→Sem Value} {g:T→T→Option T} {r:R2} (h:OpR X f r)
    (k:∀ S as x y t u w,Rep X.K S as x t→Rep X.K S as y u→g t u=some w→∀ (H:Hp) (Q:VK),Same S H→(∀ v H' S',Ext S H S' H'→Rep X.K S' as v w→Q v H')→r x y H Q):OpT X f g:=by
  intro pins s σ H x y v u Q I rx ry z8
  obtain ⟨S,as,t,w,z,sub,ht,hu,hf,q⟩:=z8
  exact h pins s σ H x y v u Q I rx ry (k S as x y t w z ht hu hf H Q sub q)
structure OI (g:T→Option T):Prop where
  n:g .non=none
  b:∀ x,g (.bl x)=none
  s:∀ x,g (.str x)=none
  t:∀ x,g (.tup x)=none
  l:∀ x,g (.lst x)=none
  d:∀ x,g (.dic x)=none
  o:∀ x,g (.obj x)=none
theorem OI.int {g:T→Option T} {w t:T} (h:OI g) (e:g t=some w):∃ i,t=.int i:=by
  cases t with
  | int i=>exact ⟨i,rfl⟩
  | non=>exact nu (h.n.symm.trans e)
  | bl x=>exact nu ((h.b x).symm.trans e)
  | str x=>exact nu ((h.s x).symm.trans e)
  | tup x=>exact nu ((h.t x).symm.trans e)
  | lst x=>exact nu ((h.l x).symm.trans e)
  | dic x=>exact nu ((h.d x).symm.trans e)
  | obj x=>exact nu ((h.o x).symm.trans e)
theorem Cp {K:PySem.W.Frag} {S:Hp} {as:List Addr} {x y:V} {t u w:T} {g:T→T→Option T} {P:Prop} (ht:Rep K S as x t) (hu:Rep K S as y u) (hf:g t u=some w)
    (n1:∀ u,OI (g · u)) (n2:∀ i,OI (g (.int i))) (k:∀ i j,x=.int i→y=.int j→g (.int i) (.int j)=some w→P):P:=by
  obtain ⟨i,rfl⟩:=(n1 u).int hf
  obtain ⟨j,rfl⟩:=(n2 i).int hf
  cases ht; cases hu
  exact k i j rfl rfl hf
theorem Av:OpT X (binaryOp .Sub) lq:=Rm a7f fun S as x y t u w ht hu hf H Q sub q =>
  Cp (g:=lq) ht hu hf (fun u=>⟨rfl,fun _=>rfl,fun _=>rfl,fun _=>rfl,fun _=>rfl,fun _=>rfl,fun _=>rfl⟩) (fun i=>⟨rfl,fun _=>rfl,fun _=>rfl,fun _=>rfl,fun _=>rfl,fun _=>rfl,fun _=>rfl⟩) fun i j ex ey hf=>by
  subst ex ey; cases hf
  exact ⟨_,_,rfl,rfl,q _ H S (Ext.refl sub) (.int _)⟩
theorem nq:OpT X (binaryOp .Mod) jj:=Rm a7l fun S as x y t u w ht hu hf H Q sub q =>
  Cp (g:=jj) ht hu hf (fun u=>⟨rfl,fun _=>rfl,fun _=>rfl,fun _=>rfl,fun _=>rfl,fun _=>rfl,fun _=>rfl⟩) (fun i=>⟨rfl,fun _=>rfl,fun _=>rfl,fun _=>rfl,fun _=>rfl,fun _=>rfl,fun _=>rfl⟩) fun i j ex ey hf=>by
  subst ex ey
  obtain ⟨hc,hf⟩:=Eu hf
  cases hf; exact ⟨_,_,rfl,rfl,hc,q _ H S (Ext.refl sub) (.int _)⟩
noncomputable def a9x (i j:Int):Prop:=0<j∧(j<1073741824∨j.natAbs<fdl)
theorem a2a:OpR X (binaryOp .FloorDiv) (rI a9x fun i j=>.int (i / j)):=opI fun i j _ _ _ _ _ hc q=>by
  have h1:(0:Int)<j:=hc.1
  have h2:j.natAbs<2 ^ 200:=by
    rcases hc.2 with h | h
    · exact Nat.lt_trans (show j.natAbs<1073741824 by (clear q hc; omega)) (by decide)
    · exact h
  exact floordiv_int (by (clear h2 q hc; omega)) (by rw [Int.fdiv_eq_ediv_of_nonneg i (by (clear h2 q hc; omega))]; exact q) (.inl (PyProof.noPylong_of_log2 (Nat.lt_trans ((Nat.log2_lt (by (clear h2 q hc; omega))).mpr h2) (by decide))))
theorem mz:OpT X (binaryOp .FloorDiv) gb:=Rm a2a fun S as x y t u w ht hu hf H Q sub q =>
  Cp (g:=gb) ht hu hf (fun u=>⟨rfl,fun _=>rfl,fun _=>rfl,fun _=>rfl,fun _=>rfl,fun _=>rfl,fun _=>rfl⟩) (fun i=>⟨rfl,fun _=>rfl,fun _=>rfl,fun _=>rfl,fun _=>rfl,fun _=>rfl,fun _=>rfl⟩) fun i j ex ey hf=>by
  subst ex ey
  obtain ⟨hc,hf⟩:=Eu hf
  cases hf; exact ⟨_,_,rfl,rfl,hc,q _ H S (Ext.refl sub) (.int _)⟩
theorem Y6:OpT X (binaryOp .Pow) a3h:=Rm a8z fun S as x y t u w ht hu hf H Q sub q =>
  Cp (g:=a3h) ht hu hf (fun u=>⟨rfl,fun _=>rfl,fun _=>rfl,fun _=>rfl,fun _=>rfl,fun _=>rfl,fun _=>rfl⟩) (fun i=>⟨rfl,fun _=>rfl,fun _=>rfl,fun _=>rfl,fun _=>rfl,fun _=>rfl,fun _=>rfl⟩) fun i j ex ey hf=>by
  subst ex ey
  obtain ⟨h,hf⟩:=Eu hf
  cases hf; exact ⟨_,_,rfl,rfl,⟨h.1,by (clear q hf hu ht sub; omega),by (clear q hf hu ht sub; omega)⟩,q _ H S (Ext.refl sub) (.int _)⟩
theorem Gy:OpT X (compareOp .Lt) ltT:=Rm ab8 fun S as x y t u w ht hu hf H Q sub q =>
  Cp (g:=ltT) ht hu hf (fun u=>⟨rfl,fun _=>rfl,fun _=>rfl,fun _=>rfl,fun _=>rfl,fun _=>rfl,fun _=>rfl⟩) (fun i=>⟨rfl,fun _=>rfl,fun _=>rfl,fun _=>rfl,fun _=>rfl,fun _=>rfl,fun _=>rfl⟩) fun i j ex ey hf=>by
  subst ex ey; cases hf
  exact ⟨_,_,rfl,rfl,q _ H S (Ext.refl sub) (.bl _)⟩
theorem a2r:OpT X (compareOp .LtE) leT:=Rm a9u fun S as x y t u w ht hu hf H Q sub q =>
  Cp (g:=leT) ht hu hf (fun u=>⟨rfl,fun _=>rfl,fun _=>rfl,fun _=>rfl,fun _=>rfl,fun _=>rfl,fun _=>rfl⟩) (fun i=>⟨rfl,fun _=>rfl,fun _=>rfl,fun _=>rfl,fun _=>rfl,fun _=>rfl,fun _=>rfl⟩) fun i j ex ey hf=>by
  subst ex ey; cases hf
  exact ⟨_,_,rfl,rfl,q _ H S (Ext.refl sub) (.bl _)⟩
theorem Ox:OpT X (compareOp .Gt) gtT:=Rm aaf fun S as x y t u w ht hu hf H Q sub q =>
  Cp (g:=gtT) ht hu hf (fun u=>⟨rfl,fun _=>rfl,fun _=>rfl,fun _=>rfl,fun _=>rfl,fun _=>rfl,fun _=>rfl⟩) (fun i=>⟨rfl,fun _=>rfl,fun _=>rfl,fun _=>rfl,fun _=>rfl,fun _=>rfl,fun _=>rfl⟩) fun i j ex ey hf=>by
  subst ex ey; cases hf
  exact ⟨_,_,rfl,rfl,q _ H S (Ext.refl sub) (.bl _)⟩
theorem Dm:UnT X (unaryOp .USub) mj:=by
  intro pins s σ H x v Q I rx z8
  obtain ⟨S,as,t,w,sub,ht,hf,q⟩:=z8
  cases ht <;> simp only [mj,reduceCtorEq] at hf
  cases hf
  exact a3c pins s σ H _ v Q I rx ⟨_,rfl,q _ H S (Ext.refl sub) (.int _)⟩
noncomputable def abm (K:PySem.W.Frag):R2:=fun x y H Q=>∃ l b xs zs,x=.ref l∧y=.ref b∧SqL K H l xs∧SqL K H b zs∧xs.length+zs.length≤sizeLine∧∀ p,H p=none→Q (.ref p) (upd H p (.lst (xs++zs)))
theorem a3z:OpR X (binaryOp .Add) (abm X.K):=by
  intro pins s σ H x y v u Q I rx ry h
  obtain ⟨l,b,xs,zs,rfl,rfl,hH,hB,hz,q⟩:=h
  cases rx
  cases ry
  obtain ⟨its,r,p1,hl⟩:=I.list hH
  obtain ⟨its2,r2,p2,hl2⟩:=I.list hB
  obtain ⟨⟨cls,dd,data,sl⟩,n,ho,hc,hd0,hd⟩:=id p1
  obtain ⟨⟨cls2,dd2,data2,sl2⟩,n2,ho2,hc2,hd02,hd2⟩:=id p2
  simp only at hc hd hc2 hd2
  subst hc hd hc2 hd2
  refine concat_meets ⟨_,ho,rfl⟩ ⟨_,ho2,rfl⟩ noFill_list_add seq_list_add PySem.F.slot_list_add PySem.F.entry_list_add (PySem.F.args_list_add_2 _ _)
      (list_addW l b its.toArray its2.toArray n n2 dd dd2 sl sl2 (by rw [List.size_toArray,List.size_toArray,← r.length,← r2.length]; exact hz)) ⟨ho,ho2,?_⟩
  have ea:its.toArray++its2.toArray=(its++its2).toArray:=by simp
  rw [ea]
  exact ⟨.ref _,_,I.acr (t':=s.toks) (r.append r2) (by rw [List.length_append]; exact hz),rfl,q _ I.fresh⟩
noncomputable def a8i (K:PySem.W.Frag):R2:=fun x y H Q=>∃ a b ys,x=.ref a∧y=.ref b∧SqT K H a []∧SqT K H b ys∧Q (.ref b) H
theorem a1s:OpR X (binaryOp .Add) (a8i X.K):=by
  intro pins s σ H x y v u Q I rx ry h
  obtain ⟨a,b,ys,rfl,rfl,ha,hb,q⟩:=h
  cases rx
  cases ry
  obtain ⟨its,r1,p1,_⟩:=I.tuple ha
  obtain ⟨its2,r2,p2,_⟩:=I.tuple hb
  cases r1
  obtain ⟨⟨cls,dd,data,sl⟩,ho,hc,n,hd⟩:=id p1
  obtain ⟨⟨cls2,dd2,data2,sl2⟩,ho2,hc2,n2,hd2⟩:=id p2
  simp only at hc hd hc2 hd2
  subst hc hd hc2 hd2
  exact concat_meets ⟨_,ho,rfl⟩ ⟨_,ho2,rfl⟩ noFill_tuple_add seq_tuple_add PySem.F.slot_tuple_add PySem.F.entry_tuple_add (PySem.F.args_tuple_add_2 _ _)
      (tuple_addW0 a b _ its2.toArray n n2 dd dd2 sl sl2 (by rfl)) ⟨ho,ho2,⟨.ref b,H,I,rfl,q⟩⟩
theorem qj:OpT X (binaryOp .Add) jk:=by
  intro pins s σ H x y v u Q I rx ry z8
  obtain ⟨S,as,t,t2,w,sub,ht,hu,hf,q⟩:=z8
  cases ht <;> first | exact nomatch (show none=some w from hf) | cases hu <;> first | exact nomatch (show none=some w from hf) | simp only [jk] at hf
  · cases hf
    exact a8f pins s σ H _ _ v u Q I rx ry ⟨_,_,rfl,rfl,q _ H S (Ext.refl sub) (.int _)⟩
  · split at hf
    · rename_i hl; cases hf
      exact V1 pins s σ H _ _ v u Q I rx ry ⟨_,_,rfl,rfl,Nat.le_trans (Nat.le_of_lt hl) vh,q _ H S (Ext.refl sub) (.str _)⟩
    · cases hf
  · rename_i a vs ts hs hr b ws us hs2 hr2
    split at hf
    · rename_i hl; cases hf
      have hz:vs.length+ws.length≤sizeLine:=by rw [hr.length,hr2.length]; exact Nat.le_trans (Nat.le_of_lt hl) vh
      cases hr with
      | nil=>exact a1s pins s σ H _ _ v u Q I rx ry ⟨_,_,_,rfl,rfl,qt sub hs,qt sub hs2,q _ H S (Ext.refl sub) (.tup hs2 hr2)⟩
      | @cons v0 t0 vs0 ts0 h1 h2 =>
        refine a4x pins s σ H _ _ v u Q I rx ry ⟨_,_,_,_,rfl,rfl,qt sub hs,qt sub hs2,by simp,hz,fun z=>?_,fun z p hp=>?_⟩
        · subst z
          cases hr2
          rw [List.append_nil] at q
          exact q _ H S (Ext.refl sub) (.tup hs (.cons h1 h2))
        · have x:=Ext.laid sub hp (.tup ((v0::vs0)++ws))
          exact q _ _ _ x (.tup (SqT.of jl) (((ux.cons h1 h2).append hr2).mono x.s nol))
    · cases hf
  · rename_i a vs ts hs hr b ws us hs2 hr2
    split at hf
    · rename_i hl; cases hf
      have hz:vs.length+ws.length≤sizeLine:=by rw [hr.length,hr2.length]; exact Nat.le_trans (Nat.le_of_lt hl) vh
      refine a3z pins s σ H _ _ v u Q I rx ry ⟨_,_,_,_,rfl,rfl,mq sub hs,mq sub hs2,hz,fun p hp=>?_⟩
      have x:=Ext.laid sub hp (.lst (vs++ws))
      exact q _ _ _ x (.lst (SqL.of jl) ((hr.append hr2).mono x.s nol))
    · cases hf
theorem a6u (x:Str) (n:Int) (h:0≤n):Txt.mul x n=⟨((List.replicate n.toNat x.cps.toList).flatten).toArray⟩:=by
  have key:∀ (k:Nat) (acc:Array Nat),(List.replicate k x.cps).foldl (· ++ ·) acc=acc++((List.replicate k x.cps.toList).flatten).toArray:=by
    intro k
    induction k with
    | zero=>intro acc; simp
    | succ k ih =>
      intro acc
      rw [List.replicate_succ,List.foldl_cons,ih,List.replicate_succ,List.flatten_cons]
      apply Array.ext'
      simp
  unfold Txt.mul
  by_cases h1:n<1
  · have:n=0:=by omega
    subst this
    rw [if_pos h1]; rfl
  · rw [if_neg h1]
    by_cases h2:(n==1||x.length==0)=true
    · rw [if_pos h2]
      rw [Bool.or_eq_true] at h2
      rcases h2 with h2 | h2
      · have:n=1:=by simpa using h2
        subst this
        cases x; simp
      · have h3:x.cps.size=0:=by simpa [Str.length] using h2
        obtain ⟨c⟩:=x
        have h4:c = #[]:=Array.eq_empty_of_size_eq_zero h3
        subst h4
        congr 1
        apply Array.ext'
        simp
    · rw [if_neg h2,key]
      congr 1
      apply Array.ext'
      simp
theorem yg:OpT X (binaryOp .Mult) Ej:=by
  intro pins s σ H x y v u Q I rx ry z8
  obtain ⟨S,as,t,t2,w,sub,ht,hu,hf,q⟩:=z8
  cases ht <;> first | exact nomatch (show none=some w from hf) | cases hu <;> first | exact nomatch (show none=some w from hf) | simp only [Ej] at hf
  · split at hf
    · rename_i hb; cases hf
      refine a7d pins s σ H _ _ v u Q I rx ry ⟨_,_,rfl,rfl,?_,q _ H S (Ext.refl sub) (.int _)⟩
      rw [Bool.or_eq_true] at hb
      rcases hb with h | h
      · exact .inl (of_decide_eq_true h)
      · exact .inr (of_decide_eq_true h)
    · cases hf
  · rename_i z j
    split at hf
    · rename_i hb; cases hf
      obtain ⟨t',rfl⟩:=rx
      obtain ⟨t2',rfl⟩:=ry
      refine SB.mul ⟨?_,fun _ _=>?_,fun _ _=>?_⟩ fun t3 k=>⟨.str (Txt.mul z j),H,I.tok _,⟨_,rfl⟩,?_⟩
      · have h1:¬ j < -(2 ^ 63:Int):=by (clear q sub I; omega)
        have h2:¬ j ≥ 2 ^ 63:=by (clear h1 q sub I; omega)
        rw [decide_eq_false h1,decide_eq_false h2]; rfl
      · have h1:(z.length:Int)≤100:=by (clear q sub I; omega)
        have h2:(100:Int)≤(2 ^ 63 - 1) / j:=by
          have hj:0<j:=by
            rcases Int.lt_or_le 0 j with h | h
            · exact h
            · exfalso
              have:j=0:=by (clear h1 q hb sub I; omega)
              subst this
              rename_i a _; exact a (by decide)
          exact (Int.le_ediv_iff_mul_le hj).mpr (by (clear hj h1 q sub I; omega))
        (clear q hb sub I; omega)
      · have h3:z.length * j.toNat≤100 * 1000:=Nat.mul_le_mul hb.2.2 (by (clear q sub I; omega))
        unfold Builtin.Str.tooLong
        rw [sizeLine_eq]
        exact decide_eq_false (by (clear q hb sub I; omega))
      · rw [a6u z j hb.1]; exact q _ H S (Ext.refl sub) (.str _)
    · cases hf
end
end C
end
noncomputable section
set_option linter.all false
set_option maxRecDepth 100000
set_option maxHeartbeats 4000002
set_option autoImplicit false
namespace C
open PySem PySem.Spec PyProof.Rows L2
noncomputable section
variable {X:Cx} {B:Bas} {a b c e o:Expr} {m m1 m2:M T} {pos p:Pos}
theorem Wr (n:Nat) (i:Int):ixI n i=ixN n i:=rfl
theorem a4h {K:PySem.W.Frag} {S:Hp} {as:List Addr} {y:V} {t:T} {q:L2.Key} (r:Rep K S as y t) (h:keyOf t=some q):y=kV q:=by
  cases r <;> simp only [keyOf,reduceCtorEq] at h <;> (cases h; rfl)
noncomputable def aal:R2:=fun x y H Q=>∃ a v,x=.ref a∧a0k H a y (some v)∧Q v H
theorem a6h (hu:X.A.units+1<cLine):IxR X aal:=by
  intro value slice pins s σ H x y v u Q I rx ry z8 hs
  obtain ⟨a,w,ex,g,q⟩:=z8
  subst ex
  cases rx
  refine tail_any (Qq I g) slot_dict_getitem.lookup (Xv hu I g ry fun w' s' I' r'=>⟨w,H,I',r',q⟩) hs
theorem a03 (hu:X.A.units+1<cLine):IxR X (r2 X.K gq):=by
  intro value slice pins s σ H x y v u Q I rx ry z8 hs
  obtain ⟨S,as,t,t2,w,sub,ht,hu2,hf,q⟩:=z8
  cases ht with
  | @tup a vs ts h1 h2 =>
    cases hu2 <;> first | exact nu hf | skip
    rename_i i
    obtain ⟨j,e1,e2⟩:=Option.bind_eq_some_iff.mp hf
    obtain ⟨z,hz,rz⟩:=h2.get e2
    refine a8l value slice pins s σ H _ _ v u Q I rx ry ⟨a,vs,i,z,rfl,rfl,qt sub h1,?_,q z H S (Ext.refl sub) rz⟩ hs
    rw [Wr,← h2.length] at e1
    unfold atI; rw [e1]; exact hz
  | @lst a vs ts h1 h2 =>
    cases hu2 <;> first | exact nu hf | skip
    rename_i i
    obtain ⟨j,e1,e2⟩:=Option.bind_eq_some_iff.mp hf
    obtain ⟨z,hz,rz⟩:=h2.get e2
    refine a5h value slice pins s σ H _ _ v u Q I rx ry ⟨a,vs,i,z,rfl,rfl,mq sub h1,?_,q z H S (Ext.refl sub) rz⟩ hs
    rw [Wr,← h2.length] at e1
    unfold atI; rw [e1]; exact hz
  | str z =>
    cases hu2 <;> first | exact nu hf | skip
    rename_i i
    obtain ⟨hl,hf⟩:=Eu hf
    obtain ⟨j,e1,e2⟩:=Option.bind_eq_some_iff.mp hf
    obtain ⟨cc,e3,e4⟩:=Option.map_eq_some_iff.mp e2
    subst e4
    refine a8e value slice pins s σ H _ _ v u Q I rx ry ⟨z,i,cc,rfl,rfl,Nat.le_trans (Nat.le_of_lt hl) vh,?_,q _ H S (Ext.refl sub) (.str _)⟩ hs
    rw [Wr] at e1
    unfold atI; rw [e1]; exact e3
  | @dic a kvs ts h1 h2 =>
    obtain ⟨k,e1,e2⟩:=Option.bind_eq_some_iff.mp hf
    have ey:=a4h hu2 e1
    subst ey
    rcases h2.get k with ⟨z,t',a1,a2,a3⟩ | ⟨_,a2⟩
    · rw [e2] at a2; cases a2
      exact a6h hu value slice pins s σ H _ _ v u Q I rx ry ⟨a,z,rfl,.inl ⟨kvs,k,Ae sub h1,rfl,a1.symm⟩,q z H S (Ext.refl sub) a3⟩ hs
    · rw [e2] at a2; cases a2
  | _=>exact nu hf
theorem jy (hu:X.A.units+1<cLine) (ha:PE X a (tOf X.K B m1)) (hb:PE X b (tOf X.K B m2)) (hs:Yh b):PE X (.Subscript a b pos) (tOf X.K B (mOp gq m1 m2)):=T8 (aag (a03 hu) ha hb hs)
theorem u6:M7 X (.builtin "len") jx:=by
  intro pins s σ H xs us Q I rs z8
  obtain ⟨S,as,ts,w,sub,hr,hf,q⟩:=z8
  cases hr with
  | nil=>simp only [jx,reduceCtorEq] at hf
  | @cons x t xs' ts' h1 h2 =>
    cases h2 with
    | cons h3 h4=>simp only [jx,reduceCtorEq] at hf
    | nil =>
      cases h1 with
      | tup g1 g2=>simp only [jx] at hf; cases hf; exact Bf pins s σ H _ us Q I rs ⟨_,_,rfl,.inr (qt sub g1),by rw [g2.length]; exact q _ H S (Ext.refl sub) (.int _)⟩
      | lst g1 g2=>simp only [jx] at hf; cases hf; exact Bf pins s σ H _ us Q I rs ⟨_,_,rfl,.inl (mq sub g1),by rw [g2.length]; exact q _ H S (Ext.refl sub) (.int _)⟩
      | str z =>
        simp only [jx] at hf
        split at hf
        · rename_i hl; cases hf; exact Ni pins s σ H _ us Q I rs ⟨_,rfl,Nat.le_trans (Nat.le_of_lt hl) vh,q _ H S (Ext.refl sub) (.int _)⟩
        · cases hf
      | @dic a kvs ts g1 g2 =>
        simp only [jx] at hf; cases hf
        obtain ⟨u,rfl,ru⟩:=rs.one
        cases ru
        exact a94 I (Ae sub g1) fun t s' I'=>⟨.int kvs.length,H,I',⟨t,rfl⟩,by rw [g2.length]; exact q _ H S (Ext.refl sub) (.int _)⟩
      | _=>simp only [jx,reduceCtorEq] at hf
theorem xq:M7 X (.type "tuple") Ag:=by
  intro pins s σ H xs us Q I rs z8
  obtain ⟨S,as,ts,w,sub,hr,hf,q⟩:=z8
  cases hr with
  | nil=>simp only [Ag,reduceCtorEq] at hf
  | @cons x t xs' ts' h1 h2 =>
    cases h2 with
    | cons h3 h4=>simp only [Ag,reduceCtorEq] at hf
    | nil =>
      cases h1 with
      | @tup a vs ts g1 g2=>simp only [Ag] at hf; cases hf; exact G4 pins s σ H _ us Q I rs ⟨_,_,rfl,.inr ⟨qt sub g1,q _ H S (Ext.refl sub) (.tup g1 g2)⟩⟩
      | @lst a vs ts g1 g2 =>
        simp only [Ag] at hf; cases hf
        refine G4 pins s σ H _ us Q I rs ⟨_,_,rfl,.inl ⟨mq sub g1,fun p hp=>?_⟩⟩
        have x:=Ext.laid sub hp (.tup vs)
        exact q _ _ _ x (.tup (SqT.of jl) (g2.mono x.s nol))
      | _=>simp only [Ag,reduceCtorEq] at hf
theorem Va:M7 X (.type "list") Ed:=by
  intro pins s σ H xs us Q I rs z8
  obtain ⟨S,as,ts,w,sub,hr,hf,q⟩:=z8
  cases hr with
  | nil=>simp only [Ed,reduceCtorEq] at hf
  | @cons x t xs' ts' h1 h2 =>
    cases h2 with
    | cons h3 h4=>simp only [Ed,reduceCtorEq] at hf
    | nil =>
      cases h1 with
      | @tup a vs ts g1 g2 =>
        simp only [Ed] at hf; cases hf
        refine Dn pins s σ H _ us Q I rs ⟨_,_,rfl,.inr (qt sub g1),fun p hp=>?_⟩
        have x:=Ext.laid sub hp (.lst vs)
        exact q _ _ _ x (.lst (SqL.of jl) (g2.mono x.s nol))
      | @lst a vs ts g1 g2 =>
        simp only [Ed] at hf; cases hf
        refine Dn pins s σ H _ us Q I rs ⟨_,_,rfl,.inl (mq sub g1),fun p hp=>?_⟩
        have x:=Ext.laid sub hp (.lst vs)
        exact q _ _ _ x (.lst (SqL.of jl) (g2.mono x.s nol))
      | _=>simp only [Ed,reduceCtorEq] at hf
theorem Ef.put {K:PySem.W.Frag} {S:Hp} {as:List Addr} {k:L2.Key} {v:V} {t:T} (r:Rep K S as v t):∀ {vs:List (L2.Key × V)} {ts:List (L2.Key × T)},Ef K S as vs ts→Ef K S as (putK vs k v) (a3f k t ts):=by
  intro vs ts h
  have any:∀ {vs:List (L2.Key × V)} {ts:List (L2.Key × T)},Ef K S as vs ts→(vs.any fun kv=>decide (kv.1=k))=(ts.any fun p=>decide (p.1=k)):=by
    intro vs ts h
    induction vs generalizing ts with
    | nil=>cases h; rfl
    | cons p r ih=>cases h with | cons h1 h2=>rw [List.any_cons,List.any_cons,ih h2]
  have mp:∀ {vs:List (L2.Key × V)} {ts:List (L2.Key × T)},Ef K S as vs ts→Ef K S as (vs.map fun kv=>if kv.1=k then (kv.1,v) else kv) (ts.map fun p=>if p.1=k then (p.1,t) else p):=by
    intro vs ts h
    induction vs generalizing ts with
    | nil=>cases h; exact .nil
    | cons p rr ih =>
      cases h with
      | @cons q v0 t0 _ _ h1 h2 =>
        rw [List.map_cons,List.map_cons]
        by_cases e:q=k
        · rw [if_pos e,if_pos e]; exact .cons r (ih h2)
        · rw [if_neg e,if_neg e]; exact .cons h1 (ih h2)
  have ap:∀ {vs:List (L2.Key × V)} {ts:List (L2.Key × T)},Ef K S as vs ts→Ef K S as (vs++[(k,v)]) (ts++[(k,t)]):=by
    intro vs ts h
    induction vs generalizing ts with
    | nil=>cases h; exact .cons r .nil
    | cons p rr ih=>cases h with | cons h1 h2=>exact .cons h1 (ih h2)
  unfold putK a3f
  rw [any h]
  split
  · exact mp h
  · exact ap h
end
end C
end
noncomputable section
set_option linter.all false
set_option maxRecDepth 100000
set_option maxHeartbeats 4000002
set_option autoImplicit false
namespace C
open PySem PySem.Spec PyProof.Rows L2
theorem Qu {i:Nat} {k d:M T} {s s':Sta} {t:T} (h:Gd i k d s=some (t,s')):N8 i s=true∧∃ kt s1 dt kvs f q,k s=some (kt,s1)∧d s1=some (dt,s')∧s'.env[i]? = some (some (.dic kvs,f))∧keyOf kt=some q∧t=(Uw q kvs).getD dt:=by
  unfold Gd at h
  split at h
  · rename_i hd
    refine ⟨hd,?_⟩
    split at h
    · rename_i kt s1 e1
      split at h
      · rename_i dt s2 e2
        split at h
        · rename_i kvs f e3
          split at h
          · rename_i q e4
            cases h
            exact ⟨kt,s1,dt,kvs,f,q,e1,e2,e3,e4,rfl⟩
          · cases h
        · cases h
      · cases h
    · cases h
  · cases h
theorem Ql {i:Nat} {s s':Sta} {t:T} (h:yh i s=some (t,s')):s'=s∧((∃ xs f,s.env[i]? = some (some (.lst xs,f))∧t=.int xs.length)∨(∃ xs f,s.env[i]? = some (some (.dic xs,f))∧t=.int xs.length)):=by
  unfold yh at h
  split at h
  · rename_i xs f e; cases h; exact ⟨rfl,.inl ⟨xs,f,e,rfl⟩⟩
  · rename_i xs f e; cases h; exact ⟨rfl,.inr ⟨xs,f,e,rfl⟩⟩
  · cases h
noncomputable section
variable {K:PySem.W.Frag} {B:Bas} {st:Sta} {σ:L2.St} {H S:Hp} {ps:List (V × T)} {as:List Addr}
theorem Rel.dictAt (r:Rel K B st σ H ps S as) {i:Nat} {kvs:List (L2.Key × T)} {f:Bool} (e:st.env[i]? = some (some (.dic kvs,f))):∃ p vs,σ[i]? = some (some (.ref p))∧Rd H p (.dK vs)∧Ef K S as vs kvs:=by
  obtain ⟨v,h1,h2,h3⟩:=r.slots i _ f e
  cases f with
  | false =>
    have h:=h2 rfl
    cases h with
    | dic a b=>exact ⟨_,_,h1,Ae r.sub a,b⟩
  | true =>
    obtain ⟨p,rfl,o⟩:=h3 rfl
    obtain ⟨vs,h,q⟩:=o.own
    exact ⟨p,vs,h1,.inl h,q⟩
end
noncomputable section
variable {X:Cx} {B:Bas} {a b c e o k d:Expr} {m mo mk md mv:M T} {pos p:Pos}
theorem Mx {i:Nat} {s:Sta} (h:N8 i s=true):∃ kvs f,s.env[i]? = some (some (.dic kvs,f)):=by
  unfold N8 at h
  split at h
  · rename_i kvs f e; exact ⟨kvs,f,e⟩
  · cases h
theorem Ot {i:Nat} {s:Sta} (h:j4 i s=true):∃ kvs f,s.env[i]? = some (some (.lst kvs,f)):=by
  unfold j4 at h
  split at h
  · rename_i kvs f e; exact ⟨kvs,f,e⟩
  · cases h
theorem Y7 (i:Nat) {apos:Pos} (hu:X.A.units+1<cLine) (ho:PE X o (Zz i)) (hk:PE X k (tOf X.K B mk)) (hd:PE X d (tOf X.K B md)) (m:M2 X o "get" apos k d pos):PE X (.Call (.Attribute o "get" apos) [k,d] [] pos) (tOf X.K B (Gd i mk md)) :=
  (a0t hu ho hk hd m).imp fun σ H Q z9=>by
    obtain ⟨st,ps,S,as,R,t,st',e,q⟩:=z9
    obtain ⟨hd,kt,s1,dt,kvs,f,qk,e1,e2,e3,e4,rfl⟩:=Qu e
    obtain ⟨kvs0,f0,e0⟩:=Mx hd
    obtain ⟨p0,vs0,s0,rd0,_⟩:=R.dictAt e0
    refine ⟨_,s0,p0,rfl,.inl ⟨vs0,rd0⟩,st,ps,S,as,R,kt,s1,e1,fun u H1 S1 as1 R1=>⟨s1,_,S1,as1,R1,dt,st',e2,fun w H2 S2 as2 R2=>?_⟩⟩
    obtain ⟨p1,vs1,z1,rd1,h4⟩:=R2.dictAt e3
    rw [s0] at z1; cases z1
    have ey:=a4h R2.top2 e4
    subst ey
    refine ⟨Qv vs1 qk,.inl ⟨vs1,qk,rd1,rfl,rfl⟩,?_⟩
    rcases h4.get qk with ⟨z,t',a1,a2,a3⟩ | ⟨a1,a2⟩
    · rw [a1]; rw [a2] at q; exact q z H2 S2 as2 (R2.drop.drop.push a3)
    · rw [a1]; rw [a2] at q; exact q w H2 S2 as2 (R2.drop.drop.push R2.top)
theorem Ob (i:Nat) {pos':Pos} (hu:X.A.units+1<cLine) (ho:PE X o (Zz i)) (hk:PE X k (tOf X.K B mk)) (hv:PE X e (tOf X.K B mv)) (hs:swapsWith e (some (.Subscript o k pos')) pos.line X.env=pure false) :
    PS X (.Assign [.Subscript o k pos'] e pos) (sOf X.K B (Bo i mk mv)):=(a4q hu ho hk hv hs).imp fun D σ H z9=>by
  obtain ⟨st,ps,S,as,R,fl,st',e,q⟩:=z9
  obtain ⟨t,s1,kt,s2,kvs,qk,e1,hd,e3,e4,e5,hl,rfl,rfl⟩:=Rb e
  obtain ⟨kvs0,f0,e0⟩:=Mx hd
  refine ⟨st,ps,S,as,R,t,s1,e1,fun v H1 S1 as1 R1=>?_⟩
  obtain ⟨p0,vs0,s0,rd0,_⟩:=R1.dictAt e0
  refine ⟨_,s0,s1,_,S1,as1,R1,kt,s2,e3,fun y H3 S3 as3 R3=>?_⟩
  obtain ⟨w,h1,_,h3⟩:=R3.slots i _ true e4
  rw [s0] at h1; cases h1
  obtain ⟨p',ep,ow⟩:=h3 rfl
  cases ep
  obtain ⟨vs,hH,h4⟩:=ow.own
  have ey:=a4h R3.top e5
  subst ey
  exact ⟨p0,_,rfl,a6y.k hH (by rw [h4.length]; exact Nat.lt_of_lt_of_le hl vh),q _ _ S3 as3 (R3.drop.drop.turn e4 s0 ⟨_,jl,h4.put R3.top2⟩)⟩
end
end C
end
noncomputable section
set_option linter.all false
set_option maxRecDepth 100000
set_option maxHeartbeats 4000002
set_option autoImplicit false
namespace C
open PySem PySem.Spec PyProof.Rows L2
theorem j7 {ms:M (List T)} {n:Nat} (h:∀ st ts st',ms st=some (ts,st')→ts.length≤n) (hn:n≤1000):∀ st ts st',ms st=some (ts,st')→ts.length≤1000:=fun st ts st' e=>Nat.le_trans (h st ts st' e) hn
theorem yd {m:M T}:∀ st ts st',jo m st=some (ts,st')→ts.length≤sizeLine:=fun st ts st' e=>by
  unfold jo at e
  split at e
  · split at e
    · rename_i h; cases e; exact Nat.le_trans (Nat.le_of_lt h) vh
    · cases e
  · split at e
    · rename_i h; cases e; exact Nat.le_trans (Nat.le_of_lt h) vh
    · cases e
  · cases e
theorem Ci {m:M T}:∀ st ts st',dz m st=some (ts,st')→ts.length≤sizeLine:=fun st ts st' e=>by
  obtain ⟨n,_,h,rfl⟩:=Kq e
  unfold rangeT
  rw [List.length_map,List.length_range]
  refine Nat.le_trans ?_ vh
  show n.toNat≤1000000
  omega
noncomputable def j8 (P:Program) (w:World) (K:PySem.W.Frag) (mg:Str→Option Value) (base:Heap) (x:Str) (k:Nat) (ps:List Str) (F:Fn):Prop :=
  ∃ f fd,Ad P w K mg base CX0 k f fd ps (spF K ps.length F)∧Binds K fd ps []∧PySem.W.keepIn K (.ref f)=true∧mg x=some (.ref f)
theorem j8.mono {P:Program} {w:World} {K:PySem.W.Frag} {mg:Str→Option Value} {base:Heap} {x:Str} {j k:Nat} {ps:List Str} {F:Fn} (d:j8 P w K mg base x j ps F) (h:j≤k):j8 P w K mg base x k ps F:=by
  obtain ⟨f,fd,h1,h2⟩:=d
  exact ⟨f,fd,h1.mono h,h2⟩
noncomputable section
variable {X:Cx} {B:Bas} {a b c e o k:Expr} {m m1 m2:M T} {pos p:Pos} {es:List Expr} {ms:M (List T)} {F:Fn} {x:Str} {n:Nat} {pn:List Str}
theorem gn (D:j8 X.prog X.w X.K X.mg X.base x n pn F) (hr:Jv n X.A) (hg:Gl X x)
    (ha:PA X (e::es) (aOf X.K B ms)) (hl:∀ st ts st',ms st=some (ts,st')→ts.length=pn.length) (hdb:(x==("__debug__" : Str))=false:=by decide)
    (he:starEach (e::es) X.env=(false,eval e X.env)::starEach es X.env:=by rfl) (hpl:(backTo pos (starEach es X.env)).any (·.1)=false:=by rfl) :
    PE X (.Call (.Name x p) (e::es) [] pos) (tOf X.K B (dw F ms)):=by
  obtain ⟨f,fd,h1,h2,h3,h4⟩:=D
  exact a6x h1 hr hg h4 h3 h2 ha hl hdb he hpl
theorem G6 (h:PA X es (aOf X.K B ms)) (hm:∀ st ts st',ms st=some (ts,st')→ts.length≤1000):PE X (.List es pos) (fOf X.K B (iu (fun l=>some (.lst l)) ms)) :=
  (a3u h).imp fun σ H Q z9=>by
    obtain ⟨st,ps,S,as,R,t,st',e,q⟩:=z9
    obtain ⟨ts,e1,e2⟩:=Dq e
    cases e2
    refine ⟨st,ps,S,as,R,ts,st',e1,fun vs H1 S1 as1 R1 rs=>⟨?_,fun p hp=>?_⟩⟩
    · rw [rs.length]; exact Nat.le_of_lt (J7 (hm _ _ _ e1))
    · obtain ⟨bD,sD,nD,no⟩:=R1.fresh hp
      exact q p _ S1 as1 (R1.a6s bD sD nD no) ⟨⟨vs,jl,rs⟩,sD,nD,bD⟩ no
theorem Wj:PE X (.Dict [] [] pos) (fOf X.K B (ao (.dic []))):=a0q.imp fun σ H Q z9=>by
  obtain ⟨st,ps,S,as,R,t,st',e,q⟩:=z9
  cases e
  intro p hp
  obtain ⟨bD,sD,nD,no⟩:=R.fresh hp
  exact q p _ S as (R.a6s bD sD nD no) ⟨⟨[],jl,.nil⟩,sD,nD,bD⟩ no
theorem Rel.listAt {K:PySem.W.Frag} {B:Bas} {st:Sta} {σ:L2.St} {H S:Hp} {ps:List (V × T)} {as:List Addr} (r:Rel K B st σ H ps S as) {i:Nat} {xs:List T} {f:Bool} (e:st.env[i]? = some (some (.lst xs,f))):∃ p vs,σ[i]? = some (some (.ref p))∧SqL K H p vs∧ux K S as vs xs:=by
  obtain ⟨v,h1,h2,h3⟩:=r.slots i _ f e
  cases f with
  | false =>
    have h:=h2 rfl
    cases h with
    | lst a b=>exact ⟨_,_,h1,mq r.sub a,b⟩
  | true =>
    obtain ⟨p,rfl,o⟩:=h3 rfl
    obtain ⟨vs,h,q⟩:=o.own
    exact ⟨p,vs,h1,SqL.of h,q⟩
theorem vp (i:Nat) {st:Stmt} (h:PS X st (a66 (tBM X.K "list" Yd (Zz i) (V2 (tOf X.K B m) a80)))):PS X st (sOf X.K B (c7 i m)):=h.imp fun D σ H z9=>by
  obtain ⟨st,ps,S,as,R,fl,st',e,q⟩:=z9
  obtain ⟨hd,t,s1,xs,e1,e2,hl,rfl,rfl⟩:=Qp e
  obtain ⟨xs0,f0,e0⟩:=Ot hd
  obtain ⟨p0,vs0,s0,q0,_⟩:=R.listAt e0
  refine ⟨_,s0,.inl ⟨rfl,_,q0⟩,st,ps,S,as,R,t,s1,e1,fun v H1 S1 as1 R1=>?_⟩
  obtain ⟨w,h1,_,h3⟩:=R1.slots i _ true e2
  rw [s0] at h1; cases h1
  obtain ⟨p',ep,ow⟩:=h3 rfl
  cases ep
  obtain ⟨vs,hH,h4⟩:=ow.own
  exact ⟨p0,vs,v,rfl,rfl,hH,by rw [h4.length]; exact Nat.lt_of_lt_of_le hl vh,q _ _ S1 as1 (R1.drop.turn e2 s0 ⟨_,jl,h4.append (.cons R1.top .nil)⟩)⟩
end
end C
end
noncomputable section
set_option linter.all false
set_option maxRecDepth 100000
set_option maxHeartbeats 4000002
set_option autoImplicit false
namespace C
open PySem PySem.Spec PyProof.Rows L2
noncomputable section
variable {X:Cx} {B:Bas} {a b c e o k:Expr} {m m1 m2:M T} {pos p:Pos}
theorem Oh {K:PySem.W.Frag} {S:Hp} {as:List Addr}:∀ {vs:List V} {ts:List T} {l:List Int},ux K S as vs ts→Vj ts=some l→vs=l.map V.int
  | _,[],l,h0,h=>by cases h0; cases h; rfl
  | _,_::_,l,h0,h=>by
    cases h0 with | cons h1 h2=>?_
    cases h1 <;> first | exact nu h | skip
    obtain ⟨l',e1,e2⟩:=Option.map_eq_some_iff.mp h
    subst e2
    rw [Oh h2 e1]; rfl
theorem K6 {K:PySem.W.Frag} {S:Hp} {as:List Addr}:∀ {vs:List V} {ts:List T} {l:List Bool},ux K S as vs ts→O7 ts=some l→vs=l.map V.bl
  | _,_,l,.nil,h=>by cases h; rfl
  | _,_,l,.cons (t:=t) h1 h2,h=>by
    cases h1 <;> first | exact nu h | skip
    obtain ⟨l',e1,e2⟩:=Option.map_eq_some_iff.mp h
    subst e2
    rw [K6 h2 e1]; rfl
theorem Nz {K:PySem.W.Frag} {S:Hp} {as:List Addr}:∀ {vs:List V} {ts:List T} {l:List Str},ux K S as vs ts→Jg ts=some l→vs=l.map V.str
  | _,_,l,.nil,h=>by cases h; rfl
  | _,_,l,.cons (t:=t) h1 h2,h=>by
    cases h1 <;> first | exact nu h | skip
    obtain ⟨l',e1,e2⟩:=Option.map_eq_some_iff.mp h
    subst e2
    rw [Nz h2 e1]; rfl
theorem a0z {l:List Int} {us:List Value} (r:Vals (l.map V.int) us) {i:Nat} {v:Value} (h:us.toArray[i]? = some v):∃ t,v=.int (l.getD i 0) t:=by
  rw [List.getElem?_toArray] at h
  have hi:i<(l.map V.int).length:=by rw [r.length]; exact (List.getElem?_eq_some_iff.mp h).1
  rw [List.length_map] at hi
  have e:(l.map V.int)[i]? = some (.int l[i]):=by rw [List.getElem?_map,List.getElem?_eq_getElem hi]; rfl
  obtain ⟨u,h1,t,h2⟩:=r.get e
  rw [h] at h1; cases h1
  exact ⟨t,by rw [h2,List.getD_eq_getElem?_getD,List.getElem?_eq_getElem hi]; rfl⟩
theorem Yw {l:List Bool} {us:List Value} (r:Vals (l.map V.bl) us) {i:Nat} {v:Value} (h:us.toArray[i]? = some v):v=.bool (l.getD i true):=by
  rw [List.getElem?_toArray] at h
  have hi:i<(l.map V.bl).length:=by rw [r.length]; exact (List.getElem?_eq_some_iff.mp h).1
  rw [List.length_map] at hi
  have e:(l.map V.bl)[i]? = some (.bl l[i]):=by rw [List.getElem?_map,List.getElem?_eq_getElem hi]; rfl
  obtain ⟨u,h1,h2⟩:=r.get e
  rw [h] at h1; cases h1
  rw [h2,List.getD_eq_getElem?_getD,List.getElem?_eq_getElem hi]; rfl
theorem Inv.j4 {pins:List (Addr × Obj)} {σ:L2.St} {H:Hp} {s:Shared} {a:Addr} {xs:List V} (I:L2.Inv X pins σ H s) (h:SqL X.K H a xs):a<s.heap.objs.size:=by
  obtain ⟨its,_,⟨o,n,h1,_⟩,_⟩:=I.list h
  exact Heap.lt_size h1
theorem W8 (hc:X.calm=true):M7 X (.builtin "sum") aa3:=by
  intro pins s σ H xs us Q I rs z8
  obtain ⟨S,as,ts,w,sub,hr,hf,q⟩:=z8
  cases hr with
  | nil=>exact nu hf
  | @cons x t xs' ts' h1 h2 =>
    cases h2 with
    | cons h3 h4=>cases h1 <;> exact nu hf
    | nil =>
      cases h1 with
      | @lst a vs ts g1 g2 =>
        obtain ⟨l,e1,e2⟩:=Option.map_eq_some_iff.mp hf
        subst e2
        have ev:=Oh g2 e1
        subst ev
        obtain ⟨u,rfl,ru⟩:=rs.one
        cases ru
        obtain ⟨its,r,p,hz⟩:=I.list (mq sub g1)
        have hlt:=Inv.j4 I (mq sub g1)
        refine call_sum_walkG (wpAny_pyIter_list p.isList ?_)
        refine ⟨_,_,_,_,_,_,fun i=>l.getD i 0,rfl,Walks.list (A:=X.A.in1) (show X.A.in1.handled=none from I.ok.hd hc) s.heap.objs.size a (Nat.ne_of_lt hlt) its.toArray,And.intro ⟨_,Heap.get?_push_size _ rfl,rfl,rfl⟩ (PlainL.keeps p fun b o e=>Heap.get?_push_of_some _ e).isList,fun b hb=>?_,fun i v hv=>a0z r hv,fun h' tk t' hk=>?_⟩
        · rw [Heap.size_push]
          rcases List.mem_cons.mp hb with rfl | hb -- here
          · exact Nat.lt_succ_self _
          · rw [List.mem_singleton.mp hb]; exact Nat.lt_succ_of_lt hlt -- here
        · have hl:its.toArray.size=l.length:=by rw [List.size_toArray,← r.length,List.length_map]
          rw [hl,preSum_getD,List.take_length]
          exact ⟨.int l.sum,H,I.kept (h':=h') (t':=tk) fun b u e=>hk b u (by simp; exact Nat.ne_of_lt (Heap.lt_size e)) (Heap.get?_push_of_some _ e),⟨_,rfl⟩,q _ H S (Ext.refl sub) (.int _)⟩
      | _=>exact nu hf
theorem all_range (l:List Bool) (d:Bool):((List.range l.length).all fun i=>l.getD i d)=l.all id:=by
  induction l with
  | nil=>rfl
  | cons x r ih =>
    rw [List.length_cons,List.range_succ_eq_map,List.all_cons,List.all_map,List.all_cons,← ih]
    rfl
theorem Fj (hc:X.calm=true):M7 X (.builtin "all") a1e:=by
  intro pins s σ H xs us Q I rs z8
  obtain ⟨S,as,ts,w,sub,hr,hf,q⟩:=z8
  cases hr with
  | nil=>exact nu hf
  | @cons x t xs' ts' h1 h2 =>
    cases h2 with
    | cons h3 h4=>cases h1 <;> exact nu hf
    | nil =>
      cases h1 with
      | @lst a vs ts g1 g2 =>
        obtain ⟨l,e1,e2⟩:=Option.map_eq_some_iff.mp hf
        subst e2
        have ev:=K6 g2 e1
        subst ev
        obtain ⟨u,rfl,ru⟩:=rs.one
        cases ru
        obtain ⟨its,r,p,hz⟩:=I.list (mq sub g1)
        have hlt:=Inv.j4 I (mq sub g1)
        refine call_all_walk (wpAny_pyIter_list p.isList ?_)
        refine ⟨_,_,_,_,_,_,fun i=>l.getD i true,rfl,Walks.list (A:=X.A.in1) (show X.A.in1.handled=none from I.ok.hd hc) s.heap.objs.size a (Nat.ne_of_lt hlt) its.toArray,And.intro ⟨_,Heap.get?_push_size _ rfl,rfl,rfl⟩ (PlainL.keeps p fun b o e=>Heap.get?_push_of_some _ e).isList,fun i v s Q E hv hq=>?_,fun h' tk hk=>?_⟩
        · have e:=Yw r hv
          subst e
          exact wpAny_truthy_bool hq
        · have hl:its.toArray.size=l.length:=by rw [List.size_toArray,← r.length,List.length_map]
          rw [hl,all_range]
          exact ⟨.bl (l.all id),H,I.kept (h':=h') (t':=tk) fun b u e=>hk b u (by simp; exact Nat.ne_of_lt (Heap.lt_size e)) (Heap.get?_push_of_some _ e),rfl,q _ H S (Ext.refl sub) (.bl _)⟩
      | _=>exact nu hf
theorem Ka:∀ {l:List Str} {us:List Value},Vals (l.map V.str) us→StrsAre us l
  | [],_,r=>by cases r; exact .nil
  | x::l,_,r=>by
    rw [List.map_cons] at r
    cases r with
    | cons r1 r2=>obtain ⟨t,rfl⟩:=r1; exact .cons x t (Ka r2)
theorem Mg {l:List Str} {us:List Value} (h:StrsAre us l):Vals (l.map V.str) us:=by
  induction h with
  | nil=>exact .nil
  | cons x t _ ih=>exact .cons ⟨t,rfl⟩ ih
noncomputable abbrev Ec (a b:Str):Prop:=¬ b.cps.toList<a.cps.toList
theorem Jj {a b c:Str} (h1:Ec a b) (h2:Ec b c):Ec a c:=fun h=>by
  have h3:a.cps.toList≤b.cps.toList:=List.not_lt.mp h1
  have h4:b.cps.toList≤c.cps.toList:=List.not_lt.mp h2
  exact List.not_lt.mpr (List.le_trans h3 h4) h
theorem Vg {a b:Str} (h1:Ec a b) (h2:Ec b a):a=b:=by
  have h3:a.cps.toList≤b.cps.toList:=List.not_lt.mp h1
  have h4:b.cps.toList≤a.cps.toList:=List.not_lt.mp h2
  have h5:=List.le_antisymm h3 h4
  cases a; cases b
  simp at h5; subst h5; rfl
theorem Ik:∀ (p:Str) (l:List Str),risingS p l=true→(p::l).Pairwise Ec
  | p,[],_=>by simp
  | p,x::r,h=>by
    rw [risingS,Bool.and_eq_true] at h
    have ih:=Ik x r h.2
    have hx:Ec p x:=fun z=>by
      have:=h.1
      rw [ltCps_eq,decide_eq_true z] at this
      cases this
    refine List.pairwise_cons.mpr ⟨fun y hy=>?_,ih⟩
    rcases List.mem_cons.mp hy with rfl | hy -- here
    · exact hx
    · exact Jj hx (List.rel_of_pairwise_cons ih hy)
theorem Qc (l:List Str) (h:sortedS l=true):l.Pairwise Ec:=by
  cases l with
  | nil=>exact .nil
  | cons x r=>exact Ik x r h
theorem Iv (x:Str):∀ l,(W3 x l).Perm (x::l)
  | []=>.refl _
  | y::r=>by
    rw [W3]
    split
    · exact .refl _
    · exact ((Iv x r).cons y).trans (.swap x y r)
theorem Oa (x:Str):∀ l:List Str,l.Pairwise Ec→(W3 x l).Pairwise Ec
  | [],_=>by simp [W3]
  | y::r,h=>by
    rw [W3]
    split
    · rename_i hx
      have hx:=of_decide_eq_true hx
      have hxy:Ec x y:=fun z=>List.lt_irrefl _ (List.lt_trans hx z)
      refine List.pairwise_cons.mpr ⟨fun z hz=>?_,h⟩
      rcases List.mem_cons.mp hz with rfl | hz -- here
      · exact hxy
      · exact Jj hxy (List.rel_of_pairwise_cons h hz)
    · rename_i hx
      have hx:Ec y x:=fun z=>hx (decide_eq_true z)
      refine List.pairwise_cons.mpr ⟨fun z hz=>?_,Oa x r (List.pairwise_cons.mp h).2⟩
      rcases List.mem_cons.mp ((Iv x r).mem_iff.mp hz) with rfl | hz
      · exact hx
      · exact List.rel_of_pairwise_cons h hz
theorem Gj:∀ (l acc:List Str),acc.Pairwise Ec→(l.foldl (fun acc x=>W3 x acc) acc).Pairwise Ec∧(l.foldl (fun acc x=>W3 x acc) acc).Perm (l++acc)
  | [],acc,h=>⟨h,.refl _⟩
  | x::l,acc,h=>by
    obtain ⟨h1,h2⟩:=Gj l (W3 x acc) (Oa x acc h)
    exact ⟨h1,h2.trans (((Iv x acc).append_left l).trans (List.perm_middle))⟩
theorem Vk (l:List Str):(Cd l).Pairwise Ec:=(Gj l [] .nil).1
theorem Ga (l:List Str):(Cd l).Perm l:=by
  have:=(Gj l [] .nil).2
  rwa [List.append_nil] at this
theorem T9 {l l':List Str} (h1:sortedS l'=true) (h2:l'.Perm l):l'=Cd l :=
  List.Perm.eq_of_pairwise (le:=Ec) (fun _ _ _ _=>Vg) (Qc l' h1) (Vk l) (h2.trans (Ga l).symm)
theorem Il {K:PySem.W.Frag} {S:Hp} {as:List Addr}:∀ l:List Str,ux K S as (l.map V.str) (l.map T.str)
  | []=>.nil
  | x::l=>.cons (.str x) (Il l)
theorem Uo {pins:List (Addr × Obj)} {σ:L2.St} {H S:Hp} {s:Shared} {as:List Addr} {a:Addr} {l:List Str} {Q:VK} (I:L2.Inv X pins σ H s) (sub:Same S H) (g1:SqL X.K H a (l.map V.str)) (h64:l.length<64)
    (q:∀ v H' S',Ext S H S' H'→Rep X.K S' as v (.lst ((Cd l).map .str))→Q v H'):wpAny (model X.prog X.w) X.A (call (.builtin "sorted") [.ref a]) (EP X pins σ Q) X.xe s:=by
  obtain ⟨its,r,p,hz⟩:=I.list g1
  refine sorted_strs p.isList (Ka r) (by rw [← r.length,List.length_map]; exact h64) fun out ss' a1 a2 a3=>?_
  have es:=T9 a3 a2
  subst es
  obtain ⟨e,he⟩:=sortedAll_at s.heap its out
  have hl:(List.map V.str (Cd l)).length≤sizeLine:=by
    rw [List.length_map,(Ga l).length_eq]
    exact Nat.le_trans (Nat.le_of_lt h64) (by rw [sizeLine_eq]; decide)
  have hn:H (s.heap.objs.size+1)=none:=I.hok.fresh (Nat.le_succ _)
  have x:=Ext.laid sub hn (.lst ((Cd l).map V.str))
  refine ⟨.ref (s.heap.objs.size+1),_,I.laid (a:=s.heap.objs.size+1) (o:=.lst ((Cd l).map V.str)) (h':=sortedAll s.heap its out) (t':=s.toks) (fun _ _=>sortedAll_old) (Nat.le_succ _) ⟨hl,out.toList,e,Mg a1,he⟩,rfl,q _ _ _ x (.lst (SqL.of jl) (Il _))⟩
theorem Li:Eb X (.builtin "sorted") (fun xs H Q=>∃ S as ts l,Same S H∧ux X.K S as xs [.lst ts]∧ts.length<64∧Jg ts=some l∧∀ v H' S',Ext S H S' H'→Rep X.K S' as v (.lst ((Cd l).map .str))→Q v H'):=by
  intro pins s σ H xs us Q I rs z8
  obtain ⟨S,as,ts,l,sub,hr,h64,e1,q⟩:=z8
  cases hr with
  | cons h1 h2 =>
    cases h2
    cases h1 with
    | @lst a vs _ g1 g2 =>
      have ev:=Nz g2 e1
      subst ev
      obtain ⟨u,rfl,ru⟩:=rs.one
      cases ru
      have hl:=g2.length
      rw [List.length_map] at hl
      exact Uo I sub (mq sub g1) (by (clear rs g2 g1 q e1 sub I; omega)) q
noncomputable def tyOf:T→Option Value
  | .non=>some (.type "NoneType")
  | .bl _=>some (.type "bool")
  | .int _=>some (.type "int")
  | .str _=>some (.type "str")
  | .tup _=>some (.type "tuple")
  | .lst _=>some (.type "list")
  | .dic _=>some (.type "dict")
  | .obj _=>none
theorem a7v {pins:List (Addr × Obj)} {σ:L2.St} {H S:Hp} {s:Shared} {as:List Addr} {x:V} {u c:Value} {t:T} {ty:Value} {b:Bool} {Q:Value→Shared→Prop} {E:Value→Shared→Prop} (I:L2.Inv X pins σ H s) (sub:Same S H) (rx:RelV x u) (r:Rep X.K S as x t) (hty:tyOf t=some ty)
    (e:PySem.W.kitOne X.K ty c=some b) (h:∀ tk,Q (.bool b) { s with toks:=tk }):wpAny (model X.prog X.w) X.A (call (.builtin "isinstance") [u,c]) Q E s:=by
  cases r with
  | non=>cases hty; exact Fp I rx .non e h
  | bl y=>cases hty; exact Fp I rx (.bl y) e h
  | int y=>cases hty; exact Fp I rx (.int y) e h
  | str y=>cases hty; exact Fp I rx (.str y) e h
  | @tup a vs ts g1 g2 =>
    cases hty
    cases (show u=Value.ref a from rx)
    obtain ⟨its,_,⟨o,h1,h2,_⟩,_⟩:=I.tuple (qt sub g1)
    exact PySem.W.kia_one PySem.W.kitx_tuple I.kIn ⟨o,h1,h2⟩ e (fun z=>nomatch z) h
  | @lst a vs ts g1 g2 =>
    cases hty
    cases (show u=Value.ref a from rx)
    obtain ⟨its,_,⟨o,n,h1,h2,_⟩,_⟩:=I.list (mq sub g1)
    exact PySem.W.kia_one PySem.W.kitx_list I.kIn ⟨o,h1,h2⟩ e (fun z=>nomatch z) h
  | @dic a kvs ts g1 g2 =>
    cases hty
    cases (show u=Value.ref a from rx)
    obtain ⟨_,_,vs,_,o,es,ep,h1,h2,_⟩:=K4 I.hok (Ae sub g1)
    exact PySem.W.kia_one PySem.W.kitx_dict I.kIn ⟨o,h1,h2.1⟩ e (fun z=>nomatch z) h
  | obj h=>cases hty
noncomputable def a72 (f:Value→Bool):List T→Option T
  | [t]=>(tyOf t).map fun ty=>.bl (f ty)
  | _=>none
theorem Sx {cn:String} {f:Value→Bool} {pc:Pos} (hg:Gl X "isinstance") (hm:X.mg "isinstance" = none) (hg2:Gl X (Str.ofString cn)) (hm2:X.mg (Str.ofString cn)=none) (hv:bootBuiltins (Str.ofString cn)=some (.type cn))
    (hf:∀ t ty,tyOf t=some ty→PySem.W.kitOne X.K ty (.type cn)=some (f ty)) (ha:PE X a (tOf X.K B m)) (hd:((Str.ofString cn)==("__debug__" : Str))=false) (hn:(Str.ofString cn) ≠ "__name__")
    (he:starEach [a,.Name (Str.ofString cn) pc] X.env=(false,eval a X.env)::starEach [.Name (Str.ofString cn) pc] X.env:=by rfl) (he2:starEach [.Name (Str.ofString cn) pc] X.env=(false,eval (.Name (Str.ofString cn) pc) X.env)::starEach [] X.env:=by rfl)
    (hpl:(backTo pos (starEach [.Name (Str.ofString cn) pc] X.env)).any (·.1)=false:=by rfl) :
    PE X (.Call (.Name "isinstance" p) [a,.Name (Str.ofString cn) pc] [] pos) (tOf X.K B (iu (a72 f) (ak m fj))):=by
  have hc:Eb X (.builtin "isinstance") (fun xs H Q=>∃ S as x t ty,xs=[x,.ty cn]∧Same S H∧Rep X.K S as x t∧tyOf t=some ty∧Q (.bl (f ty)) H):=by
    intro pins s σ H xs us Q I rs z8
    obtain ⟨S,as,x,t,ty,ex,sub,r,hty,q⟩:=z8
    subst ex
    obtain ⟨u,w,rfl,r1,r2⟩:=rs.two
    cases r2
    exact a7v I sub r1 r hty (hf t ty hty) fun tk=>⟨.bl (f ty),H,I.tok _,rfl,q⟩
  have hnm:PE X (.Name (Str.ofString cn) pc) (tC (.ty cn)):=a5k hg2 hm2 hv rfl hn hd
  refine (pq hc hg hm PyProof.Rows.boot_isinstance (sy ha (sy hnm vq he2) he) (by decide) (by decide) he hpl).imp fun σ H Q z0=>?_
  obtain ⟨st,ps,S,as,R,t,st',e,q⟩:=z0
  obtain ⟨ts,e1,e2⟩:=Dq e
  obtain ⟨t1,s1,us,ea,en,rfl⟩:=Dk e1
  cases en
  simp only [a72] at e2
  obtain ⟨ty,e3,e4⟩:=Option.map_eq_some_iff.mp e2
  subst e4
  exact ⟨st,ps,S,as,R,t1,_,ea,fun v H1 S1 as1 R1=>⟨S1,as1,v,t1,ty,rfl,R1.sub,R1.top,e3,q _ H1 S1 as1 (R1.drop.push (.bl _))⟩⟩
example (K:PySem.W.Frag):PySem.W.kitOne K (.type "bool") (.type "int")=some true:=by rfl
example (K:PySem.W.Frag):PySem.W.kitOne K (.type "str") (.type "int")=some false:=by rfl
end
end C
end
noncomputable section
set_option linter.all false
set_option maxRecDepth 100000
set_option maxHeartbeats 4000002
set_option autoImplicit false
namespace C
open PySem PySem.Spec PyProof.Rows L2
theorem Pg (l b:Addr) (xs0 ys0:Array Value) (n n2:Nat) (dd2:Option Addr) (sl2:Array (Option Value)) (hs0:¬(!xs0.isEmpty&&Builtin.List.listTooLong (xs0.size+ys0.size))=true) (hs1:xs0.size≤sizeLine) (hs2:xs0.size+ys0.size≤sizeLine+1) :
    Meets (Builtin.«list.extend» ⟨[.ref l,.ref b],[]⟩) (fun _ R s=>s.heap.get? l=some { cls:=.type "list",dict:=none,data:=.seq xs0 n,slots:=#[] }∧s.heap.get? b=some { cls:=.type "list",dict:=dd2,data:=.seq ys0 n2,slots:=sl2 }∧R (.ok (.ret Value.none)) { s with heap:=s.heap.update l (Obj.mapSeq fun x=>x++ys0),toks:=s.toks }) :=
  .of_wp fun pr wd Ar R z h=>by
    obtain ⟨hp,gs,dr,tk,os⟩:=z; obtain ⟨hl,hb,h⟩:=h; have f1:=AutoSeq1.idx_int; have f2:=AutoSeq1.sub_tuple_tuple; have f3:=AutoSeq1.sub_list_list; have f4:=AutoSeq1.sub_tuple_list; have f5:=AutoSeq1.sub_list_tuple
    have hz':(xs0++ys0).size≤sizeLine+1:=by rw [Array.size_append]; exact hs2
    wp_walk using (wpAny_updateSeq hl rfl (hz:=hs1) (_hz':=hz')),AutoSeq1.wpAny_loadPart' hl,AutoSeq1.wpAny_loadPart' hb; exact ⟨_,rfl,h⟩
theorem Mf (l b:Addr) (xs0 ys0:Array Value) (n n2:Nat) (dd2:Option Addr) (sl2:Array (Option Value)) (hs0:¬(!xs0.isEmpty&&Builtin.List.listTooLong (xs0.size+ys0.size))=true) (hs1:xs0.size≤sizeLine) (hs2:xs0.size+ys0.size≤sizeLine+1) :
    Meets (Builtin.«list.extend» ⟨[.ref l,.ref b],[]⟩) (fun _ R s=>s.heap.get? l=some { cls:=.type "list",dict:=none,data:=.seq xs0 n,slots:=#[] }∧s.heap.get? b=some { cls:=.type "tuple",dict:=dd2,data:=.seq ys0 n2,slots:=sl2 }∧R (.ok (.ret Value.none)) { s with heap:=s.heap.update l (Obj.mapSeq fun x=>x++ys0),toks:=s.toks }) :=
  .of_wp fun pr wd Ar R z h=>by
    obtain ⟨hp,gs,dr,tk,os⟩:=z; obtain ⟨hl,hb,h⟩:=h; have f1:=AutoSeq1.idx_int; have f2:=AutoSeq1.sub_tuple_tuple; have f3:=AutoSeq1.sub_list_list; have f4:=AutoSeq1.sub_tuple_list; have f5:=AutoSeq1.sub_list_tuple
    have hz':(xs0++ys0).size≤sizeLine+1:=by rw [Array.size_append]; exact hs2
    wp_walk using (wpAny_updateSeq hl rfl (hz:=hs1) (_hz':=hz')),AutoSeq1.wpAny_loadPart' hl,AutoSeq1.wpAny_loadPart' hb; exact ⟨_,rfl,h⟩
noncomputable section
variable {X:Cx} {B:Bas} {m:M T}
noncomputable def Sw (K:PySem.W.Frag):V→List V→Hp→VK→Prop:=fun x vs H Q=>∃ l b xs zs,x=.ref l∧vs=[.ref b]∧H l=some (.lst xs)∧(SqL K H b zs∨SqT K H b zs)∧xs.length+zs.length≤sizeLine∧Q .non (upd H l (.lst (xs++zs)))
theorem Gi:MtM X "list.extend" (Sw X.K):=by
  intro pins s σ H x vs v us Q I rx rv h
  obtain ⟨l,b,xs,zs,rfl,rfl,hH,hB,hz,q⟩:=h
  cases rx
  obtain ⟨u,rfl,ru⟩:=rv.one
  cases ru
  obtain ⟨z,its,n,r,hl,e⟩:=I.a9z hH
  have fin:∀ its2:List Value,Vals zs its2→L2.Inv X pins σ (upd H l (.lst (xs++zs))) { s with heap:=s.heap.update l (Obj.mapSeq fun x=>x++its2.toArray),toks:=s.toks }:=fun its2 r2 =>
    I.aah (its':=its++its2) hH e (by simp) (r.append r2) (by rw [List.length_append]; exact hz)
  have hlong:∀ its2:List Value,Vals zs its2→¬ (!its.toArray.isEmpty&&Builtin.List.listTooLong (its.toArray.size+its2.toArray.size))=true:=fun its2 r2=>by
    have hsz:its.toArray.size+its2.toArray.size≤sizeLine:=by rw [List.size_toArray,List.size_toArray,← hl,← r2.length]; exact hz
    rw [a2b hsz,Bool.and_false]
    exact Bool.false_ne_true
  rcases hB with hB | hB
  · obtain ⟨its2,r2,⟨⟨cls2,dd2,data2,sl2⟩,n2,ho2,hc2,hd02,hd2⟩,_⟩:=I.list hB
    simp only at hc2 hd2
    subst hc2 hd2
    refine call_meets F.slot_list_extend ⟨_,e,rfl⟩ F.entry_list_extend (F.args_list_extend_2 _ _)
      (Pg l b its.toArray its2.toArray n n2 dd2 sl2 (hlong its2 r2) (by rw [List.size_toArray,← hl]; (clear hd02 ho2 r2 hB hlong fin e hl r rv q hz hH I; omega)) (by rw [List.size_toArray,List.size_toArray,← hl,← r2.length]; (clear hd02 ho2 r2 hB hlong fin e hl r z rv q hH I; omega))) ⟨e,ho2,?_⟩
    exact ⟨.non,_,fin its2 r2,rfl,q⟩
  · obtain ⟨its2,r2,⟨⟨cls2,dd2,data2,sl2⟩,ho2,hc2,n2,hd2⟩,_⟩:=I.tuple hB
    simp only at hc2 hd2
    subst hc2 hd2
    refine call_meets F.slot_list_extend ⟨_,e,rfl⟩ F.entry_list_extend (F.args_list_extend_2 _ _)
      (Mf l b its.toArray its2.toArray n n2 dd2 sl2 (hlong its2 r2) (by rw [List.size_toArray,← hl]; (clear ho2 r2 hB hlong fin e hl r rv q hz hH I; omega)) (by rw [List.size_toArray,List.size_toArray,← hl,← r2.length]; (clear ho2 r2 hB hlong fin e hl r z rv q hH I; omega))) ⟨e,ho2,?_⟩
    exact ⟨.non,_,fin its2 r2,rfl,q⟩
theorem J3 (i:Nat) {st:Stmt} (h:PS X st (a66 (tBM X.K "list" (Sw X.K) (Zz i) (V2 (tOf X.K B m) a80)))):PS X st (sOf X.K B (cu i m)):=h.imp fun D σ H z9=>by
  obtain ⟨st,ps,S,as,R,fl,st',e,q⟩:=z9
  obtain ⟨hd,t,s1,xs,ys,e1,ey,e2,hl,rfl,rfl⟩:=R9 e
  obtain ⟨xs0,f0,e0⟩:=Ot hd
  obtain ⟨p0,vs0,s0,q0,_⟩:=R.listAt e0
  refine ⟨_,s0,.inl ⟨rfl,_,q0⟩,st,ps,S,as,R,t,s1,e1,fun v H1 S1 as1 R1=>?_⟩
  obtain ⟨w,h1,_,h3⟩:=R1.slots i _ true e2
  rw [s0] at h1; cases h1
  obtain ⟨p',ep,ow⟩:=h3 rfl
  cases ep
  obtain ⟨vs,hH,h4⟩:=ow.own
  have top:=R1.top
  cases top with
  | @tup b zs _ g1 g2 =>
    cases ey
    exact ⟨p0,b,vs,zs,rfl,rfl,hH,.inr (qt R1.sub g1),by rw [h4.length,g2.length]; exact Nat.le_trans (Nat.le_of_lt hl) vh,q _ _ S1 as1 (R1.drop.turn e2 s0 ⟨_,jl,h4.append g2⟩)⟩
  | @lst b zs _ g1 g2 =>
    cases ey
    exact ⟨p0,b,vs,zs,rfl,rfl,hH,.inl (mq R1.sub g1),by rw [h4.length,g2.length]; exact Nat.le_trans (Nat.le_of_lt hl) vh,q _ _ S1 as1 (R1.drop.turn e2 s0 ⟨_,jl,h4.append g2⟩)⟩
  | _=>exact nu ey
end
end C
end
noncomputable section
set_option linter.all false
set_option maxRecDepth 100000
set_option maxHeartbeats 4000002
set_option autoImplicit false
namespace C
open PySem PySem.Spec PyProof.Rows L2
theorem Rel.newObj {K:PySem.W.Frag} {B:Bas} {st:Sta} {σ:L2.St} {H S:Hp} {ps:List (V × T)} {as:List Addr} {p:Addr} {ob:HO} {so:SO} (r:Rel K B st σ H ps S as) (hp:H p=none) (h:a3g K S (as++[p]) (upd H p ob) p so) :
    Rel K B { st with sto:=st.sto++[so] } σ (upd H p ob) ((.ref p,.obj st.sto.length)::ps) S (as++[p]):=by
  obtain ⟨bD,sD,nD,no⟩:=r.fresh hp
  have mo:∃ l,as++[p]=as++l:=⟨[p],rfl⟩
  have other:∀ q,q≠p→H q=upd H p ob q:=fun q n=>(n8 n).symm
  refine Rel.push (st:={ st with sto:=st.sto++[so] }) (H:=upd H p ob) (v:=.ref p) (t:=.obj st.sto.length) ⟨fun b u e=>?_,⟨r.grow.same,?_,fun q o a b c=>?_⟩,fun i t f e=>?_,r.apart,⟨?_,?_,fun n so2 e=>?_⟩,fun q hq=>(r.pend q hq).mono (Same.refl _) mo,r.len⟩ (.obj ?_)
  · rw [n8 (fun z=>by subst z; rw [sD] at e; cases e)]; exact r.sub _ _ e
  · obtain ⟨l,e⟩:=r.grow.more
    exact ⟨l++[p],by rw [e,List.append_assoc]⟩
  · obtain ⟨x,y,z⟩:=r.grow.keep q o a b c
    have n:q≠p:=fun w=>by subst w; rw [bD] at a; cases a
    refine ⟨by rw [n8 n]; exact x,y,fun m=>?_⟩
    rcases List.mem_append.mp m with m | m
    · exact z m
    · exact n (List.mem_singleton.mp m)
  · obtain ⟨v,h1,h2,h3⟩:=r.slots i t f e
    refine ⟨v,h1,fun z=>(h2 z).mono (Same.refl _) mo,fun z=>?_⟩
    obtain ⟨q,rfl,o⟩:=h3 z
    have n:q≠p:=fun w=>by subst w; subst z; exact no i t e h1
    refine ⟨q,rfl,o.own.more (Same.refl _) mo (other q n),o.out,fun m=>?_,o.new⟩
    rcases List.mem_append.mp m with m | m
    · exact o.nas m
    · exact n (List.mem_singleton.mp m)
  · show (as++[p]).length=(st.sto++[so]).length
    rw [List.length_append,List.length_append,r.sto.len]; rfl
  · refine List.nodup_append.mpr ⟨r.sto.nd,by simp,fun a ha b hb=>?_⟩
    rw [List.mem_singleton.mp hb]
    intro z; subst z; exact nD ha
  · have e:(st.sto++[so])[n]? = some so2:=e
    by_cases hn:n<st.sto.length
    · rw [List.getElem?_append_left hn] at e
      obtain ⟨a,h1,h2,h3⟩:=r.sto.at' n so2 e
      have na:a≠p:=fun z=>by subst z; exact nD (List.mem_of_getElem? h1)
      refine ⟨a,Yc h1,h2,?_⟩
      cases so2 with
      | dic ts=>obtain ⟨vs,x,y⟩:=h3; exact ⟨vs,by rw [n8 na]; exact x,y.mono (Same.refl _) mo⟩
      | lst ts=>obtain ⟨vs,x,y⟩:=h3; exact ⟨vs,by rw [n8 na]; exact x,y.mono (Same.refl _) mo⟩
      | dit ts=>obtain ⟨vs,x,y⟩:=h3; exact ⟨vs,by rw [n8 na]; exact x,y.mono (Same.refl _) mo⟩
    · rw [List.getElem?_append_right (Nat.le_of_not_lt hn)] at e
      have hn0:n - st.sto.length=0:=by
        have:=(List.getElem?_eq_some_iff.mp e).1
        simp at this; omega
      rw [hn0] at e; cases e
      have hne:n=as.length:=by rw [r.sto.len]; omega
      subst hne
      exact ⟨p,by rw [List.getElem?_append_right (Nat.le_refl _),Nat.sub_self]; rfl,sD,h⟩
  · rw [← r.sto.len,List.getElem?_append_right (Nat.le_refl _),Nat.sub_self]; rfl
noncomputable def PN (X:Cx) (e:Expr) (N:L2.St→V→Prop):Prop:=PE X e (fun σ H Q=>∃ v,N σ v∧Q v H)
noncomputable def MN (K:PySem.W.Frag) (m:M T) (N:L2.St→V→Prop):Prop:=∀ (B:Bas) (st:Sta) (σ:L2.St) (H:Hp) (ps:List (V × T)) (S:Hp) (as:List Addr) (t:T) (st':Sta),Rel K B st σ H ps S as→m st=some (t,st')→st'=st∧∃ v,N σ v∧Rep K S as v t
structure PM (X:Cx) (e:Expr) (m:M T) (N:L2.St→V→Prop):Prop where
  p:PN X e N
  m:MN X.K m N
noncomputable section
variable {X:Cx} {B:Bas} {a b e e1 e2:Expr} {m m1 m2:M T} {N N1 N2:L2.St→V→Prop} {pos p:Pos}
end
end C
end
noncomputable section
set_option linter.all false
set_option autoImplicit false
namespace C
open PySem PySem.Spec PyProof.Rows L2
inductive a0w:List Expr→List Str→Prop where
  | nil:a0w [] []
  | cons {x:Str} {k:Nat} {q:Pos} {es:List Expr} {xs:List Str}:a0w es xs→a0w (.Constant (.str x) k q::es) (x::xs)
theorem Y0 {X:Cx} {B:Bas}:∀ {es:List Expr} {xs:List Str},a0w es xs→PA X es (aOf X.K B (j6 xs))
  | _,_,.nil=>dg
  | _,_,.cons h=>aj u9 (Y0 h)
theorem len_strs:∀ (xs:List Str) (st:Sta) (ts:List T) (st':Sta),j6 xs st=some (ts,st')→ts.length≤xs.length
  | [],st,ts,st',e=>gj st ts st' e
  | _::xs,st,ts,st',e=>au (len_strs xs) st ts st' e
noncomputable section
variable {X:Cx} {B:Bas} {a b c e o k:Expr} {m m1 m2:M T} {pos p p2:Pos}
theorem a2j (l:List T):isTup l=a72 (fun ty=>ty == .type "tuple") l:=by
  match l with
  | []=>rfl
  | [t]=>cases t <;> rfl
  | x::y::r=>cases x <;> rfl
theorem a2h (l:List T):isInt l=a72 (fun ty=>ty == .type "int" || ty == .type "bool") l:=by
  match l with
  | []=>rfl
  | [t]=>cases t <;> rfl
  | x::y::r=>cases x <;> rfl
theorem a4a (l:List T):a95 l=a72 (fun ty=>ty == .type "bool") l:=by
  match l with
  | []=>rfl
  | [t]=>cases t <;> rfl
  | x::y::r=>cases x <;> rfl
theorem a0e (l:List T):isStr l=a72 (fun ty=>ty == .type "str") l:=by
  match l with
  | []=>rfl
  | [t]=>cases t <;> rfl
  | x::y::r=>cases x <;> rfl
theorem Yp:bootBuiltins "int" = some (.type "int"):=by decide +kernel
theorem Vm:bootBuiltins "bool" = some (.type "bool"):=by decide +kernel
theorem Z1:bootBuiltins "str" = some (.type "str"):=by decide +kernel
theorem Gv {pc:Pos} (hg:Gl X "isinstance") (hm:X.mg "isinstance" = none) (hg2:Gl X "tuple") (hm2:X.mg "tuple" = none) (ha:PE X a (tOf X.K B m)) (he:starEach [a,.Name "tuple" pc] X.env=(false,eval a X.env)::starEach [.Name "tuple" pc] X.env:=by rfl) :
    PE X (.Call (.Name "isinstance" p) [a,.Name "tuple" pc] [] pos) (tOf X.K B (iu isTup (ak m fj))):=by
  rw [show isTup=_ from funext a2j]
  exact Sx (cn := "tuple") hg hm hg2 hm2 boot_tuple (fun t ty h=>by cases t <;> cases h <;> rfl) ha (by decide) (by decide) he
theorem Ur {pc:Pos} (hg:Gl X "isinstance") (hm:X.mg "isinstance" = none) (hg2:Gl X "int") (hm2:X.mg "int" = none) (ha:PE X a (tOf X.K B m)) (he:starEach [a,.Name "int" pc] X.env=(false,eval a X.env)::starEach [.Name "int" pc] X.env:=by rfl) :
    PE X (.Call (.Name "isinstance" p) [a,.Name "int" pc] [] pos) (tOf X.K B (iu isInt (ak m fj))):=by
  rw [show isInt=_ from funext a2h]
  exact Sx (cn := "int") hg hm hg2 hm2 Yp (fun t ty h=>by cases t <;> cases h <;> rfl) ha (by decide) (by decide) he
theorem Rc {pc:Pos} (hg:Gl X "isinstance") (hm:X.mg "isinstance" = none) (hg2:Gl X "bool") (hm2:X.mg "bool" = none) (ha:PE X a (tOf X.K B m)) (he:starEach [a,.Name "bool" pc] X.env=(false,eval a X.env)::starEach [.Name "bool" pc] X.env:=by rfl) :
    PE X (.Call (.Name "isinstance" p) [a,.Name "bool" pc] [] pos) (tOf X.K B (iu a95 (ak m fj))):=by
  rw [show a95=_ from funext a4a]
  exact Sx (cn := "bool") hg hm hg2 hm2 Vm (fun t ty h=>by cases t <;> cases h <;> rfl) ha (by decide) (by decide) he
theorem Nu (i:Nat) (hm:X.mg "len" = none) {es:Expr} (hg:Gl X "len") (h:PE X es (Zz i)) (he:starEach [es] X.env=(false,eval es X.env)::starEach [] X.env:=by rfl) (hpl:(backTo pos (starEach [] X.env)).any (·.1)=false:=by rfl) :
    PE X (.Call (.Name "len" p) [es] [] pos) (tOf X.K B (yh i)):=by
  have hc:Eb X (.builtin "len") (fun xs H Q=>∃ q,xs=[.ref q]∧((∃ ys,SqL X.K H q ys∧Q (.int ys.length) H)∨(∃ kvs,Rd H q (.dK kvs)∧Q (.int kvs.length) H))):=by
    intro pins s σ H xs us Q I rs z8
    obtain ⟨q,ex,h⟩:=z8
    rcases h with ⟨ys,h1,h2⟩ | ⟨kvs,h1,h2⟩
    · exact Bf pins s σ H xs us Q I rs ⟨q,ys,ex,.inl h1,h2⟩
    · subst ex
      obtain ⟨u,rfl,ru⟩:=rs.one
      cases ru
      exact a94 I h1 fun t s' I'=>⟨.int kvs.length,H,I',⟨t,rfl⟩,h2⟩
  refine (pq hc hg hm PySem.boot_len (sy h vq he) (by decide) (by decide) he hpl).imp fun σ H Q z0=>?_
  obtain ⟨st,ps,S,as,R,t,st',e,q⟩:=z0
  obtain ⟨rfl,h⟩:=Ql e
  rcases h with ⟨xs,f,e1,rfl⟩ | ⟨xs,f,e1,rfl⟩
  · obtain ⟨p0,vs,s0,h1,h2⟩:=R.listAt e1
    exact ⟨_,s0,p0,rfl,.inl ⟨vs,h1,by rw [h2.length]; exact q _ H S as (R.push (.int _))⟩⟩
  · obtain ⟨p0,vs,s0,h1,h2⟩:=R.dictAt e1
    exact ⟨_,s0,p0,rfl,.inr ⟨vs,h1,by rw [h2.length]; exact q _ H S as (R.push (.int _))⟩⟩
end
end C
end
noncomputable section
set_option linter.all false
set_option autoImplicit false
namespace C
open PySem
mutual
theorem Br:∀ (t:T) {d:PyData},dat t=some d→d.canLay0=true
  | .non,_,h=>by simp only [dat] at h; cases h; simp only [PyData.canLay0]
  | .bl b,_,h=>by simp only [dat] at h; cases h; simp only [PyData.canLay0]
  | .int i,_,h=>by simp only [dat] at h; cases h; simp only [PyData.canLay0]
  | .str x,_,h=>by
    simp only [dat] at h
    split at h
    · rename_i hx; cases h; exact hx
    · cases h
  | .tup xs,_,h=>by
    simp only [dat] at h
    obtain ⟨l,e1,e2⟩:=Option.map_eq_some_iff.mp h
    subst e2
    simp only [PyData.canLay0]
    exact Ky xs e1
  | .lst xs,_,h=>by
    simp only [dat] at h
    obtain ⟨l,e1,e2⟩:=Option.map_eq_some_iff.mp h
    subst e2
    simp only [PyData.canLay0]
    exact Ky xs e1
  | .dic _,_,h=>by simp only [dat] at h; cases h
  | .obj _,_,h=>by simp only [dat] at h; cases h
theorem Ky:∀ (ts:List T) {l:List PyData},Gb ts=some l→PyData.canLayAll0 l=true
  | [],_,h=>by simp only [Gb] at h; cases h; simp only [PyData.canLayAll0]
  | x::r,_,h=>by
    simp only [Gb] at h
    split at h
    · rename_i a ea
      obtain ⟨l,e1,e2⟩:=Option.map_eq_some_iff.mp h
      subst e2
      simp only [PyData.canLayAll0]
      rw [Br x ea,Ky r e1]; rfl
    · cases h
end
theorem Zu {x:T} {r:List T} {l:List PyData} (h:Gb (x::r)=some l):∃ a l',dat x=some a∧Gb r=some l'∧l=a::l':=by
  simp only [Gb] at h
  split at h
  · rename_i a ea
    obtain ⟨l,e1,e2⟩:=Option.map_eq_some_iff.mp h
    exact ⟨a,l,ea,e1,e2.symm⟩
  · cases h
theorem Ib {t u:T} {b:Bool} (h:eqD t u=some b):∃ x y,dat t=some x∧dat u=some y∧x.depth≤40∧b=PyData.eqv x y:=by
  unfold eqD at h
  split at h
  · rename_i x ex
    split at h
    · rename_i y ey
      split at h
      · rename_i hd; cases h; exact ⟨x,y,ex,ey,hd,rfl⟩
      · cases h
    · cases h
  · cases h
theorem a6d {t u:T} {b:Bool} (h:eqT t u=some b):(∃ x y,t=.dic x∧u=.dic y∧((x.length=y.length∧a74 x y=some b)∨(x.length≠y.length∧b=false)))∨eqD t u=some b:=by
  unfold eqT at h
  split at h
  · split at h
    · rename_i hl; exact .inl ⟨_,_,rfl,rfl,.inl ⟨hl,h⟩⟩
    · rename_i hl; cases h; exact .inl ⟨_,_,rfl,rfl,.inr ⟨hl,rfl⟩⟩
  · exact .inr h
end C
end
noncomputable section
set_option linter.all false
set_option maxRecDepth 100000
set_option maxHeartbeats 4000002
set_option autoImplicit false
namespace C
open PySem PySem.Spec PyProof.Rows L2
noncomputable section
variable {X:Cx} {pins:List (Addr × Obj)} {σ:L2.St} {H S:Hp} {s:Shared} {as:List Addr}
theorem Yi (I:L2.Inv X pins σ H s) (sub:Same S H):(∀ {v:V} {t:T},Rep X.K S as v t→∀ {d:PyData} {u:Value},dat t=some d→RelV v u→∃ bs,Reads s.heap u d bs)∧∀ {vs:List V} {ts:List T},ux X.K S as vs ts→∀ {ds:List PyData} {us:List Value},Gb ts=some ds→Vals vs us→∃ bs,ReadsAll s.heap us ds bs:=by
  have tp:∀ {a:Addr} {vs:List V} {ts:List T},SqT X.K S a vs→ux X.K S as vs ts→(∀ {ds:List PyData} {us:List Value},Gb ts=some ds→Vals vs us→∃ bs,ReadsAll s.heap us ds bs)→∀ {d:PyData} {u:Value},dat (.tup ts)=some d→RelV (.ref a) u→∃ bs,Reads s.heap u d bs:=by
    intro a vs ts h _ q d u e r
    simp only [dat] at e
    obtain ⟨l,e1,e2⟩:=Option.map_eq_some_iff.mp e
    subst e2
    cases r
    obtain ⟨its,rv,⟨o,h1,h2,n,h3⟩,_⟩:=I.tuple (qt sub h)
    obtain ⟨bs,rb⟩:=q e1 rv
    exact ⟨_,.tuple h1 h2 h3 rb⟩
  have ls:∀ {a:Addr} {vs:List V} {ts:List T},SqL X.K S a vs→ux X.K S as vs ts→(∀ {ds:List PyData} {us:List Value},Gb ts=some ds→Vals vs us→∃ bs,ReadsAll s.heap us ds bs)→∀ {d:PyData} {u:Value},dat (.lst ts)=some d→RelV (.ref a) u→∃ bs,Reads s.heap u d bs:=by
    intro a vs ts h _ q d u e r
    simp only [dat] at e
    obtain ⟨l,e1,e2⟩:=Option.map_eq_some_iff.mp e
    subst e2
    cases r
    obtain ⟨its,rv,⟨o,n,h1,h2,_,h3⟩,_⟩:=I.list (mq sub h)
    obtain ⟨bs,rb⟩:=q e1 rv
    exact ⟨_,.list h1 h2 h3 rb⟩
  have st:∀ (x:Str) {d:PyData} {u:Value},dat (.str x)=some d→RelV (.str x) u→∃ bs,Reads s.heap u d bs:=by
    intro x d u e r
    simp only [dat] at e
    split at e
    · cases e; obtain ⟨t,rfl⟩:=r; exact ⟨_,.str x t⟩
    · cases e
  have cn:∀ {v:V} {t:T} {vs:List V} {ts:List T},Rep X.K S as v t→ux X.K S as vs ts→(∀ {d:PyData} {u:Value},dat t=some d→RelV v u→∃ bs,Reads s.heap u d bs)→(∀ {ds:List PyData} {us:List Value},Gb ts=some ds→Vals vs us→∃ bs,ReadsAll s.heap us ds bs)→∀ {ds:List PyData} {us:List Value},Gb (t::ts)=some ds→Vals (v::vs) us→∃ bs,ReadsAll s.heap us ds bs:=by
    intro v t vs ts _ _ h q ds us e r
    obtain ⟨a,l,e1,e2,e3⟩:=Zu e
    subst e3
    cases r with
    | cons r1 r2 =>
      obtain ⟨b1,x1⟩:=h e1 r1
      obtain ⟨b2,x2⟩:=q e2 r2
      exact ⟨_,.cons x1 x2⟩
  have nl:∀ {ds:List PyData} {us:List Value},Gb []=some ds→Vals [] us→∃ bs,ReadsAll s.heap us ds bs:=by
    intro ds us e r; simp only [Gb] at e; cases e; cases r; exact ⟨_,.nil⟩
  have no:∀ {d:PyData} {u:Value},dat .non=some d→RelV .non u→∃ bs,Reads s.heap u d bs:=by
    intro d u e r; simp only [dat] at e; cases e; cases r; exact ⟨_,.none⟩
  have bo:∀ (b:Bool) {d:PyData} {u:Value},dat (.bl b)=some d→RelV (.bl b) u→∃ bs,Reads s.heap u d bs:=by
    intro b d u e r; simp only [dat] at e; cases e; cases r; exact ⟨_,.bool b⟩
  have it:∀ (i:Int) {d:PyData} {u:Value},dat (.int i)=some d→RelV (.int i) u→∃ bs,Reads s.heap u d bs:=by
    intro i d u e r; simp only [dat] at e; cases e; obtain ⟨t,rfl⟩:=r; exact ⟨_,.int i t⟩
  have di:∀ {a:Addr} {ts:List (L2.Key × T)} {d:PyData} {u:Value},dat (.dic ts)=some d→RelV (.ref a) u→∃ bs,Reads s.heap u d bs:=by
    intro a ts d u e; simp only [dat] at e; cases e
  have ob:∀ {a:Addr} {n:Nat} {d:PyData} {u:Value},dat (.obj n)=some d→RelV (.ref a) u→∃ bs,Reads s.heap u d bs:=by
    intro a n d u e; simp only [dat] at e; cases e
  exact ⟨fun h=>Rep.rec (motive_1:=fun v t _=>∀ {d:PyData} {u:Value},dat t=some d→RelV v u→∃ bs,Reads s.heap u d bs) (motive_2:=fun vs ts _=>∀ {ds:List PyData} {us:List Value},Gb ts=some ds→Vals vs us→∃ bs,ReadsAll s.heap us ds bs) (motive_3:=fun _ _ _=>True) no bo it st tp ls (fun _ _ _=>di) (fun _=>ob) nl cn trivial (fun _ _ _ _=>trivial) h,
    fun h=>ux.rec (motive_1:=fun v t _=>∀ {d:PyData} {u:Value},dat t=some d→RelV v u→∃ bs,Reads s.heap u d bs) (motive_2:=fun vs ts _=>∀ {ds:List PyData} {us:List Value},Gb ts=some ds→Vals vs us→∃ bs,ReadsAll s.heap us ds bs) (motive_3:=fun _ _ _=>True) no bo it st tp ls (fun _ _ _=>di) (fun _=>ob) nl cn trivial (fun _ _ _ _=>trivial) h⟩
theorem Rep.reads (I:L2.Inv X pins σ H s) (sub:Same S H) {v:V} {t:T} (h:Rep X.K S as v t) {d:PyData} {u:Value} (e:dat t=some d) (r:RelV v u):∃ bs,Reads s.heap u d bs:=(Yi I sub).1 h e r
theorem a3k (I:L2.Inv X pins σ H s) (sub:Same S H) {x y:V} {t u:T} {v w:Value} {b:Bool} {A:Around} (hx:Rep X.K S as x t) (hy:Rep X.K S as y u) (rx:RelV x v) (ry:RelV y w) (e:eqD t u=some b) (hu:A.units+40<cLine):SeqAt.EqAt A s v w b:=by
  obtain ⟨dx,dy,e1,e2,hd,rfl⟩:=Ib e
  obtain ⟨b1,x1⟩:=hx.reads I sub e1 rx
  obtain ⟨b2,x2⟩:=hy.reads I sub e2 ry
  exact SeqAt.eqAt_reads dx dy A s v w b1 b2 x1 x2 (Br _ e1) (Br _ e2) (by have:=Nat.min_le_left dx.depth dy.depth; (clear this x2 x1 e e2 e1 ry rx hy hx sub I; omega))
theorem Yy (I:L2.Inv X pins σ H s) (sub:Same S H) {A:Around} (hu:A.units+40<cLine) {kb:List (L2.Key × V)} {ub:List (L2.Key × T)} {wb:List (L2.Key × Value)} (rb:Ef X.K S as kb ub) (vb:KV kb wb) :
    ∀ {ka:List (L2.Key × V)} {ua:List (L2.Key × T)} {wa:List (L2.Key × Value)} {r:Bool},Ef X.K S as ka ua→KV ka wa→a74 ua ub=some r→PySem.W.KeqHits A s wb wa r
  | _,[],_,_,h0,va,e=>by
    cases h0
    simp only [a74] at e; cases e
    cases va
    exact .nil
  | _,(k,_)::_,_,_,h0,va,e=>by
    cases h0 with | cons h q=>?_
    simp only [a74] at e
    cases va with
    | @cons _ p2 _ _ hp hr =>
      obtain ⟨pk,pv⟩:=p2
      obtain ⟨ek,rv⟩:=hp
      dsimp only at ek rv
      subst ek
      rcases rb.get k with ⟨z,t',a1,a2,a3⟩ | ⟨a1,a2⟩
      · rw [a2] at e
        dsimp only at e
        have rel:=KV.val vb k
        rw [a1] at rel
        obtain ⟨w',hw,rw'⟩:=Ph.some_of rel
        split at e
        · rename_i eb he
          obtain ⟨b',e1,e2⟩:=Option.map_eq_some_iff.mp e
          subst e2
          exact .hit hw (a3k I sub h a3 rv rw' he hu) (Yy I sub hu rb vb q hr e1)
        · cases e
      · rw [a2] at e
        cases e
        have rel:=KV.val vb k
        rw [a1] at rel
        exact .miss (Ph.none_of rel)
end
noncomputable section
variable {X:Cx}
theorem N7 {op:CmpOp} {neg:Bool} (hop:(op=.Eq∧neg=false)∨(op=.NotEq∧neg=true)) {g:T→T→Option T} (hg:∀ t u w,g t u=some w→∃ b,eqT t u=some b∧w=.bl (xor neg b)) (hu:X.A.units+64<cLine):OpT X (compareOp op) g:=by
  intro pins s σ H x y v u Q I rx ry z8
  obtain ⟨S,as,t,t2,w,sub,ht,hu2,hf,q⟩:=z8
  obtain ⟨b,e,rfl⟩:=hg _ _ _ hf
  have fin:EP X pins σ Q (.bool (xor neg b)) s:=⟨.bl (xor neg b),H,I,rfl,q _ H S (Ext.refl sub) (.bl _)⟩
  rcases a6d e with ⟨xs,ys,rfl,rfl,hd⟩ | he
  · cases ht with
    | @dic a kvs _ g1 g2 =>
      cases hu2 with
      | @dic a' kvs' _ k1 k2 =>
        cases rx
        cases ry
        obtain ⟨z,hs,vs,rel,dd⟩:=K4 I.hok (Ae sub g1)
        obtain ⟨z',hs',vs',rel',dd'⟩:=K4 I.hok (Ae sub k1)
        have l1:vs.length=xs.length:=by rw [← rel.length]; exact g2.length
        have l2:vs'.length=ys.length:=by rw [← rel'.length]; exact k2.length
        have hu1:X.A.in1.units+40<cLine:=by show X.A.units+1+40<cLine; (clear l2 l1 dd' rel' hs' z' dd rel hs z k2 k1 g2 g1 hf e hd fin q sub I hg hop; omega)
        rcases hd with ⟨hl,eb⟩ | ⟨hl,rfl⟩
        · have hits:vs.length=vs'.length→PySem.W.KeqHits X.A.in1 s vs' vs b:=fun _=>Yy I sub hu1 k2 rel' g2 rel eb
          have el:(vs.length==vs'.length)=true:=by rw [l1,l2,hl]; exact beq_self_eq_true _
          rcases hop with ⟨rfl,rfl⟩ | ⟨rfl,rfl⟩
          · refine PySem.W.keq_eq hs hs' dd dd' (by (clear hf fin q hg el hits eb hl hu1 l2 l1 dd' rel' hs' z' dd rel hs z k2 k1 g2 g1 e sub I; omega)) hits ?_
            rw [el]; simpa using fin
          · refine PySem.W.keq_ne hs hs' dd dd' (by (clear hf fin q hg el hits eb hl hu1 l2 l1 dd' rel' hs' z' dd rel hs z k2 k1 g2 g1 e sub I; omega)) hits ?_
            rw [el]; simpa using fin
        · have hits:vs.length=vs'.length→PySem.W.KeqHits X.A.in1 s vs' vs true:=fun h=>absurd (by rw [← l1,← l2]; exact h) hl
          have el:(vs.length==vs'.length)=false:=by rw [l1,l2]; exact beq_eq_false_iff_ne.mpr hl
          rcases hop with ⟨rfl,rfl⟩ | ⟨rfl,rfl⟩
          · refine PySem.W.keq_eq hs hs' dd dd' (by (clear hf fin q hg el hits e hl hu1 l2 l1 dd' rel' hs' z' dd rel hs z k2 k1 g2 g1 sub I; omega)) hits ?_
            rw [el]; simpa using fin
          · refine PySem.W.keq_ne hs hs' dd dd' (by (clear hf fin q hg el hits e hl hu1 l2 l1 dd' rel' hs' z' dd rel hs z k2 k1 g2 g1 sub I; omega)) hits ?_
            rw [el]; simpa using fin
  · obtain ⟨dx,dy,e1,e2,hd,rfl⟩:=Ib he
    obtain ⟨b1,x1⟩:=ht.reads I sub e1 rx
    obtain ⟨b2,x2⟩:=hu2.reads I sub e2 ry
    have hm:X.A.units+min dx.depth dy.depth<cLine:=by have:=Nat.min_le_left dx.depth dy.depth; (clear this x2 x1 he fin q hf e e2 e1 hu2 ht sub ry rx I hg hop; omega)
    rcases hop with ⟨rfl,rfl⟩ | ⟨rfl,rfl⟩
    · exact SeqAt.compareEq_reads x1 x2 (Br _ e1) (Br _ e2) hm (by simpa using fin)
    · exact SeqAt.compareNe_reads x1 x2 (Br _ e1) (Br _ e2) hm (by simpa using fin)
theorem zy (hu:X.A.units+64<cLine):OpT X (compareOp .Eq) eqO:=N7 (.inl ⟨rfl,rfl⟩) (fun t u w h=>by
  unfold eqO at h
  split at h
  · rename_i b e; cases h; exact ⟨b,e,by simp⟩
  · cases h) hu
theorem Hy (hu:X.A.units+64<cLine):OpT X (compareOp .NotEq) neO:=N7 (.inr ⟨rfl,rfl⟩) (fun t u w h=>by
  unfold neO at h
  split at h
  · rename_i b e; cases h; exact ⟨b,e,by simp⟩
  · cases h) hu
open Classical in
noncomputable def a6t (h:Heap) (dx:PyData) (y:Value):Bool:=if e:∃ d bs,Reads h y d bs∧d.canLay0=true then PyData.eqv (Classical.choose e) dx else false
theorem Pu {h:Heap} {dx d:PyData} {y:Value} {bs:List Addr} (r:Reads h y d bs) (l:d.canLay0=true):a6t h dx y=PyData.eqv d dx:=by
  have e:∃ d bs,Reads h y d bs∧d.canLay0=true:=⟨d,bs,r,l⟩
  unfold a6t
  rw [dif_pos e]
  obtain ⟨bs',r',l'⟩:=Classical.choose_spec e
  rw [SeqAt.Reads.unique _ _ _ _ _ l' r' r]
theorem a3d {pins:List (Addr × Obj)} {σ:L2.St} {H S:Hp} {s:Shared} {as:List Addr} {A:Around} (I:L2.Inv X pins σ H s) (sub:Same S H) (hu:A.units+40<cLine) {x:V} {t:T} {v:Value} {dx:PyData} (hx:Rep X.K S as x t) (rx:RelV x v) (ex:dat t=some dx) :
    ∀ {vs:List V} {ts:List T} {us:List Value} {b:Bool},ux X.K S as vs ts→Vals vs us→inL t ts=some b→(∀ y∈us,SeqAt.EqAt A s y v (a6t s.heap dx y))∧us.any (a6t s.heap dx)=b
  | _,[],_,_,h0,r,e=>by cases h0; simp only [inL] at e; cases e; cases r; exact ⟨fun y h=>(nomatch h),rfl⟩
  | _,_::_,_,_,h0,r,e=>by
    cases h0 with | cons h q=>?_
    simp only [inL] at e
    cases r with
    | @cons _ u1 _ us1 r1 r2 =>
      split at e
      · rename_i eb he
        obtain ⟨b',e1,e2⟩:=Option.map_eq_some_iff.mp e
        subst e2
        obtain ⟨i1,i2⟩:=a3d I sub hu hx rx ex q r2 e1
        obtain ⟨dy,dx',f1,f2,hd,rfl⟩:=Ib he
        rw [ex] at f2; cases f2
        obtain ⟨b1,x1⟩:=h.reads I sub f1 r1
        have hb:=Pu (dx:=dx) x1 (Br _ f1)
        refine ⟨fun y hy=>?_,by rw [List.any_cons,i2,hb]⟩
        rcases List.mem_cons.mp hy with rfl | hy -- here
        · rw [hb]; exact a3k I sub h hx r1 rx he hu
        · exact i1 y hy
      · cases e
end
end C
end
noncomputable section
set_option linter.all false
set_option maxRecDepth 100000
set_option maxHeartbeats 4000002
set_option autoImplicit false
namespace C
open PySem PySem.Spec PyProof.Rows L2
noncomputable def acz (K:PySem.W.Frag) (ar:Nat) (F:Fn):Sp:=fun vs H Q _=>∃ S as sto ts t sto',Same S H∧Hf K S as H sto∧ux K S as vs ts∧ts.length=ar∧F ts sto=some (t,sto') ∧
  ∀ p H' S' as',a9m ⟨S,as,H⟩ S' as' H'→Same S' H'→Hf K S' as' H' sto'→Vc K ⟨S,as,H⟩ S' as' H' p t→Q (.ref p) H'
theorem a6v {g:G} {m:M T} {s s':Sta} {fl:Flow} (h:sGo g m s=some (fl,s')):∃ t s1,m s=some (t,s1)∧g t s1=some s'∧fl=.next:=by
  unfold sGo at h
  split at h
  · rename_i t s1 e
    split at h
    · rename_i s2 e2; cases h; exact ⟨t,s1,e,e2,rfl⟩
    · cases h
  · cases h
noncomputable section
variable {X:Cx} {B:Bas} {a b c e:Expr} {m m1 m2:M T} {pos p:Pos} {u v:S} {es:List Expr} {ms:M (List T)} {k n:Nat} {f:Addr} {fd:FuncData} {pn:List Str} {F:Fn} {x:Str}
theorem ab9 {g:G} {s:Stmt} (h:PS X s (a2v (tOf X.K B m) (gOf X.K B g))):PS X s (sOf X.K B (sGo g m)):=h.imp fun D σ H z9=>by
  obtain ⟨st,ps,S,as,R,fl,st',e,q⟩:=z9
  obtain ⟨t,s1,e1,e2,rfl⟩:=a6v e
  exact ⟨st,ps,S,as,R,t,s1,e1,fun v H' S' as' R'=>⟨s1,ps,S',as',t,R',st',e2,fun σ' H'' S'' as'' R''=>q σ' H'' S'' as'' R''⟩⟩
end
noncomputable def Xo (P:Program) (w:World) (K:PySem.W.Frag) (mg:Str→Option Value) (base:Heap) (x:Str) (k:Nat) (ps:List Str) (F:Fn):Prop :=
  ∃ f fd,Ad P w K mg base CX0 k f fd ps (acz K ps.length F)∧Binds K fd ps []∧PySem.W.keepIn K (.ref f)=true∧mg x=some (.ref f)
theorem Xo.mono {P:Program} {w:World} {K:PySem.W.Frag} {mg:Str→Option Value} {base:Heap} {x:Str} {j k:Nat} {ps:List Str} {F:Fn} (d:Xo P w K mg base x j ps F) (h:j≤k):Xo P w K mg base x k ps F:=by
  obtain ⟨f,fd,h1,h2⟩:=d
  exact ⟨f,fd,h1.mono h,h2⟩
noncomputable section
variable {X:Cx} {B:Bas} {a b c e:Expr} {m m1 m2:M T} {pos p:Pos} {es:List Expr} {ms:M (List T)} {n:Nat} {pn:List Str} {F:Fn} {x:Str}
end
noncomputable section
variable {P:Program} {w:World} {K:PySem.W.Frag} {mg:Str→Option Value} {base:Heap}
end
end C
end
noncomputable section
set_option linter.all false
set_option maxRecDepth 100000
set_option maxHeartbeats 4000002
set_option autoImplicit false
namespace C
open PySem PySem.Spec PyProof.Rows L2
noncomputable section
variable {X:Cx} {B:Bas} {a b c e:Expr} {m m1 m2:M T} {pos p p2 pos2:Pos}
theorem Wd:M7 X (.builtin "abs") ni:=by
  intro pins s σ H xs us Q I rs z8
  obtain ⟨S,as,ts,w,sub,hr,hf,q⟩:=z8
  cases hr with
  | nil=>exact nu hf
  | @cons x t xs' ts' h1 h2 =>
    cases h2 with
    | cons h3 h4=>cases h1 <;> exact nu hf
    | nil =>
      cases h1 <;> first | exact nu hf | skip
      cases hf
      exact a0r pins s σ H _ us Q I rs ⟨_,rfl,q _ H S (Ext.refl sub) (.int _)⟩
noncomputable def W6:List Nat→TGs
  | []=>abw
  | i::is=>a8h (Jq i) (W6 is)
theorem Ui {K:PySem.W.Frag} {H S:Hp} {as:List Addr} {ps:List (V × T)}:∀ (is:List Nat) {vs:List V} {xs:List T} {st:Sta} {σ:L2.St} {Q:L2.St→Hp→Prop},Rel K B st σ H ps S as→ux K S as vs xs→xs.length=is.length →
    (∀ σ',Rel K B ((is.zip xs).foldl (fun s p=>bh p.1 p.2 false s) st) σ' H ps S as→Q σ' H)→W6 is vs σ H Q
  | [],_,_,_,_,_,R,.nil,_,q=>⟨rfl,q _ R⟩
  | i::is,_,_,_,_,_,R,.cons r rs,hl,q=>⟨_,_,rfl,Ui is (R.put (i:=i) r) rs (by simpa using hl) q⟩
  | [],_,_,_,_,_,_,.cons _ _,hl,_=>by simp at hl
  | _::_,_,_,_,_,_,_,.nil,hl,_=>by simp at hl
theorem Dd {is:List Nat} {tg:Expr} (h:PG X tg (ac4 X.K is.length (W6 is))):PG X tg (gOf X.K B (jz is)):=fun pins s σ H x u Q I r z9=>h pins s σ H x u Q I r (by
  obtain ⟨st,ps,S,as,t,R,st',e,q⟩:=z9
  have top:=R.top
  cases t with
  | tup xs =>
    cases top with
    | @tup a vs _ g1 g2 =>
      obtain ⟨hl,e⟩:=Eu e
      cases e
      exact ⟨a,vs,rfl,qt R.sub g1,by rw [g2.length]; exact hl,Ui is R.drop g2 hl fun σ' R'=>q σ' H S as R'⟩
  | _=>exact nu e)
end
end C
namespace C
open PySem PySem.Spec PyProof.Rows L2
end C
end
noncomputable section
set_option linter.all false
set_option maxRecDepth 100000
set_option maxHeartbeats 4000002
set_option autoImplicit false
namespace C
open PySem PySem.Spec PyProof.Rows L2
noncomputable section
variable {X:Cx} {B:Bas} {a b c e lo hi:Expr} {m m1 m2 ml mh:M T} {pos p p2:Pos}
theorem Wt {K:PySem.W.Frag} {S:Hp} {as:List Addr} {x:V} {t:T} (r:Rep K S as x t):decide (x=V.non)=Mv t:=by
  cases r <;> rfl
theorem a0p {K:PySem.W.Frag} {S:Hp} {as:List Addr} {x:V} {t:T} (r:Rep K S as x t) (h:Mv t=true):x=.non:=by
  cases r <;> first | rfl | cases h
theorem a7y:OpT X (compareOp .Is) a3q:=by
  intro pins s σ H x y v u Q I rx ry z8
  obtain ⟨S,as,t,t2,w,sub,ht,hu2,hf,q⟩:=z8
  unfold a3q at hf
  split at hf
  · rename_i hn; cases hf
    exact a79 pins s σ H x y v u Q I rx ry ⟨a0p hu2 hn,by rw [Wt ht]; exact q _ H S (Ext.refl sub) (.bl _)⟩
  · cases hf
theorem ux.take {K:PySem.W.Frag} {S:Hp} {as:List Addr}:∀ (n:Nat) {vs:List V} {ts:List T},ux K S as vs ts→ux K S as (vs.take n) (ts.take n)
  | 0,_,_,_=>.nil
  | _+1,_,_,.nil=>.nil
  | n+1,_,_,.cons h r=>.cons h (ux.take n r)
end
end C
end
noncomputable section
set_option linter.all false
set_option maxRecDepth 100000
set_option maxHeartbeats 4000002
set_option autoImplicit false
namespace C
open PySem PySem.Spec PyProof.Rows L2
theorem Rh {o:M T} {s s':Sta} {t:T} (h:Bp o s=some (t,s')):∃ n xs,o s=some (.obj n,s')∧s'.sto[n]? = some (.lst xs)∧t=.int xs.length:=by
  unfold Bp at h
  split at h
  · rename_i n s1 e1
    split at h
    · rename_i xs e3; cases h; exact ⟨n,xs,e1,e3,rfl⟩
    · cases h
  · cases h
theorem ux.set {K:PySem.W.Frag} {S:Hp} {as:List Addr} {v:V} {t:T} (h:Rep K S as v t):∀ {vs:List V} {ts:List T} (j:Nat),ux K S as vs ts→ux K S as (vs.set j v) (ts.set j t)
  | _,_,_,.nil=>.nil
  | _,_,0,.cons _ r=>.cons h r
  | _,_,j+1,.cons q r=>.cons q (ux.set h j r)
noncomputable section
variable {X:Cx} {B:Bas} {a b c e o k:Expr} {m mo mk mv:M T} {pos p:Pos}
theorem O4 (hg:Gl X "len") (hm:X.mg "len" = none) (ho:PE X o (tOf X.K B mo)) (he:starEach [o] X.env=(false,eval o X.env)::starEach [] X.env:=by rfl) (hpl:(backTo pos (starEach [] X.env)).any (·.1)=false:=by rfl) :
    PE X (.Call (.Name "len" p) [o] [] pos) (tOf X.K B (Bp mo)):=(pq Bf hg hm PySem.boot_len (sy ho vq he) (by decide) (by decide) he hpl).imp fun σ H Q z9=>by
  obtain ⟨st,ps,S,as,R,t,st',e,q⟩:=z9
  obtain ⟨n,xs,e1,e2,rfl⟩:=Rh e
  refine ⟨st,ps,S,as,R,_,st',e1,fun v H1 S1 as1 R1=>?_⟩
  have t1:=R1.top
  cases t1 with
  | @obj _ a ha =>
    obtain ⟨a',h1,h2,vs,h3,h4⟩:=R1.sto.at' n _ e2
    rw [ha] at h1; cases h1
    exact ⟨a,vs,rfl,.inl (SqL.of h3),by rw [h4.length]; exact q _ H1 S1 as1 (R1.drop.push (.int _))⟩
end
end C
end
noncomputable section
set_option linter.all false
set_option maxRecDepth 100000
set_option maxHeartbeats 4000002
set_option autoImplicit false
namespace C
open PySem PySem.Spec PyProof.Rows L2
noncomputable section
variable {X:Cx} {B:Bas} {pins:List (Addr × Obj)} {σ:L2.St} {H S:Hp} {s:Shared} {as:List Addr} {Q:VK}
theorem gather {R:List Value→Shared→Prop} {A:Around} {E:Value→Shared→Prop} {T:String} {r d:Addr} {n:Nat} {P:Nat→Value→Prop} {OK:Heap→Prop} (KS:PySem.W.KdlSrc X.prog X.w T r d n P OK) (nh:A.handled=none) (ok0:OK s.heap) (sz:n≤sizeLine)
    (k:∀ (h1:Heap) (tk:Nat) (got:Array Value),s.heap.objs.size<h1.objs.size→(∀ b o,s.heap.get? b=some o→h1.get? b=some o)→ItemsOf P got n→R got.toList { s with heap:=h1,toks:=tk }) :
    wpAny (model X.prog X.w) A (collect (.ref r)) R E s:=by
  have lt0:=KS.there _ ok0
  unfold collect
  refine wpAny_bind (wpAny_runValue
    (codeAny_builtin entry_proto_collect' ?_))
  rw [Around.under_plainId
    PySem.F.plain_proto_collect _]
  show wpAny _ A.in1 (newList [] >>= fun z=>again (.builtin "list.__iadd__" ⟨[z,.ref r],[]⟩)) _ _ s
  refine wpAny_bind (wpAny_newObj_type (wpAny_pure ⟨plainId_quiet PySem.F.plain_list_iadd _,codeAny_builtin entry_list_iadd' ?_⟩))
  rw [Around.under_plainId
    PySem.F.plain_list_iadd _]
  change wpAny _ A.in1 (Builtin.List.listExtendWith (.ref s.heap.objs.size) (.ref r) (.ref s.heap.objs.size)) _ _ _
  have new0:(s.heap.push { cls:=.type "list",data:=.seq ([]:List Value).toArray }).get? s.heap.objs.size=some { cls:=.type "list",data:=.seq #[] }:=Heap.get?_push_size _ rfl
  have walk:=PySem.W.kdl_extend (A:=A) (s:={ s with heap:=s.heap.push { cls:=.type "list",data:=.seq ([]:List Value).toArray } })
    (R:=fun (f:Result) (s1:Shared)=>∃ (h1:Heap) (tk:Nat) (got:Array Value) (c1:Nat),f=.ok (.ret (.ref s.heap.objs.size))∧s1 = { s with heap:=h1,toks:=tk }∧(∀ b o,s.heap.get? b=some o→h1.get? b=some o) ∧
      h1.get? s.heap.objs.size=some { cls:=.type "list",dict:=none,data:=.seq got c1,slots:=#[] }∧ItemsOf P got n)
    KS nh (KS.keep _ _ ok0 fun b _ o e=>Heap.get?_push_of_some _ e) s.heap.objs.size (Nat.ne_of_gt lt0.1) (Nat.ne_of_gt lt0.2) (.ref s.heap.objs.size) 0 new0
    (fun h1 tk got c1 old at1 its=>⟨h1,tk,got,c1,rfl,rfl,fun b o e=>old b o (Nat.ne_of_lt (Heap.lt_size e)) (Heap.get?_push_of_some _ e),at1,its⟩) sz
  have last:∀ (h1:Heap) (tk:Nat) (got:Array Value) (c1:Nat),(∀ b o,s.heap.get? b=some o→h1.get? b=some o)→h1.get? s.heap.objs.size=some { cls:=.type "list",dict:=none,data:=.seq got c1,slots:=#[] }→ItemsOf P got n →
      wpAny (model X.prog X.w) A (load s.heap.objs.size >>= fun o=>match o.data with | .seq xs _=>pure xs.toList | _=>unsupported "internal:collect") R E { s with heap:=h1,toks:=tk } :=
    fun h1 tk got c1 old at1 its=>wpAny_bind (wpAny_load at1 (wpAny_pure (k h1 tk got (Heap.lt_size at1) old its)))
  refine wpAny_mono walk (fun fin s1 x=>?_) fun e s1 x=>?_
  · cases fin with
    | done f =>
      obtain ⟨h1,tk,got,c1,ef,rfl,old,at1,its⟩:=x
      cases ef
      exact last h1 tk got c1 old at1 its
    | again c =>
      refine ⟨x.1,codeAny_mono x.2 fun f s2 y=>?_⟩
      obtain ⟨h1,tk,got,c1,rfl,rfl,old,at1,its⟩:=y
      exact last h1 tk got c1 old at1 its
  · obtain ⟨_,_,_,_,ef,_⟩:=x
    cases ef
theorem Xj {T:String} {r d:Addr} {n:Nat} {P:Nat→Value→Prop} {OK:Heap→Prop} {l:List Str} (KS:PySem.W.KdlSrc X.prog X.w T r d n P OK) (hc:X.calm=true) (I:L2.Inv X pins σ H s) (sub:Same S H) (hok:OK s.heap) (h64:n<64)
    (hi:∀ vs:List Value,vs.length=n→(∀ (j:Nat) (v:Value),vs[j]? = some v→P j v)→∃ l',StrsAre vs l'∧l'.Perm l)
    (q:∀ v H' S',Ext S H S' H'→Rep X.K S' as v (.lst ((Cd l).map .str))→Q v H'):wpAny (model X.prog X.w) X.A (call (.builtin "sorted") [.ref r]) (EP X pins σ Q) X.xe s:=by
  have hn:n≤sizeLine:=Nat.le_trans (Nat.le_of_lt h64) (by rw [sizeLine_eq]; decide)
  refine Calls.call_function_entry kind_sorted plain_sorted
    entry_sorted (args_sorted1 _) ?_
  unfold Builtin.«sorted»
  refine wpAny_bind (m:=checkCount "sorted" 1 1 _) (wpAny_pure (wpAny_bind ?_))
  refine (gather (A:=X.A.in1) KS (show X.A.in1.handled=none from I.ok.hd hc) hok hn fun h' tk acc hlt hk hacc=>?_)
  have hl:acc.toList.length=n:=Array.length_toList.trans hacc.1
  obtain ⟨l',hS,hp⟩:=hi acc.toList hl fun j v e=>hacc.2 j v (by rw [← Array.getElem?_toList]; exact e)
  refine wpAny_bind (wpAny_newList ?_ (hl ▸ hn))
  have hoL:(h'.push (seqObj "list" acc.toList.toArray 0)).get? h'.objs.size=some (seqObj "list" acc.toList.toArray 0):=Heap.get?_push_size _ rfl
  refine wpAny_bind (wpAny_holding (wpAny_call_entry slot_list_sort ⟨_,hoL,rfl⟩ entry_list_sort (list_sort_treeK strKind_oneLt hoL hS.keysOf (fun v₁ v₂ rest e=>keyKind_strs (by rw [← e]; exact hS)) (by rw [hl]; exact h64) fun st' a1 a2=>⟨_,rfl,?_⟩) (args_list_sort _)))
  refine wpAny_pure ⟨_,rfl,(?_:EP X pins σ Q _ _)⟩
  obtain ⟨ss',b1,b2,b3⟩:=sorted_out_str hS a1 a2
  have es:=T9 b3 (b2.trans hp)
  subst es
  have hle:=Nat.le_of_lt hlt
  obtain ⟨e,he⟩:=sortedHeap_at (out:=(arrOf st').map (·.2)) hoL
  have hsz:(List.map V.str (Cd l)).length≤sizeLine:=by
    rw [List.length_map,(Ga l).length_eq,← hp.length_eq,← hS.length,hl]
    exact hn
  have hnn:H h'.objs.size=none:=I.hok.fresh hle
  have x:=Ext.laid sub hnn (.lst ((Cd l).map V.str))
  refine ⟨.ref h'.objs.size,_,I.laid (a:=h'.objs.size) (o:=.lst ((Cd l).map V.str)) (t':=tk) (fun b u eb=>?_) hle ⟨hsz,_,e,Mg b1,he⟩,rfl,q _ _ _ x (.lst (SqL.of jl) (Il _))⟩
  have hb:=Heap.lt_size (hk _ _ eb)
  rw [sortedHeap_old (Nat.ne_of_lt hb) (by rw [Heap.size_push]; exact Nat.lt_succ_of_lt hb)]
  exact Heap.get?_push_of_some _ (hk _ _ eb)
theorem Mh:∀ {kvs:List (L2.Key × V)} {ts:List (L2.Key × T)} {l:List Str},kvs.map (·.1)=ts.map (·.1)→Jg (ts.map fun p=>Vn p.1)=some l→kvs.map (·.1)=l.map Sum.inr
  | [],[],l,_,h=>by simp only [List.map_nil,Jg] at h; cases h; rfl
  | (k,v)::kvs,(k2,t)::ts,l,e,h=>by
    simp only [List.map_cons,List.cons.injEq] at e
    obtain ⟨e1,e2⟩:=e
    subst e1
    cases k with
    | inl i=>simp only [List.map_cons,Vn,Jg,reduceCtorEq] at h
    | inr x =>
      simp only [List.map_cons,Vn,Jg] at h
      obtain ⟨l',h1,h2⟩:=Option.map_eq_some_iff.mp h
      subst h2
      rw [List.map_cons,List.map_cons,Mh e2 h1]
theorem Ef.keys {K:PySem.W.Frag} {S:Hp} {as:List Addr}:∀ {kvs:List (L2.Key × V)} {ts:List (L2.Key × T)},Ef K S as kvs ts→kvs.map (·.1)=ts.map (·.1)
  | _,_,.nil=>rfl
  | _,_,.cons h q=>by rw [List.map_cons,List.map_cons,Ef.keys q]
theorem Gq {prog:Program} {w:World}:∀ {vs:List (L2.Key × Value)} {us:List Value} {l:List Str},vs.map (·.1)=l.map Sum.inr→us.length=vs.length→(∀ (j:Nat) (v:Value),us[j]? = some v→∃ k x,vs[j]? = some (k,x)∧(v8 prog w).is k v=true)→StrsAre us l
  | [],us,l,e,hl,h=>by
    cases us with
    | cons _ _=>simp at hl
    | nil=>cases l with
      | nil=>exact .nil
      | cons _ _=>simp at e
  | (k,x)::vs,us,l,e,hl,h=>by
    cases us with
    | nil=>simp at hl
    | cons u us =>
      cases l with
      | nil=>simp at e
      | cons y l =>
        simp only [List.map_cons,List.cons.injEq] at e
        obtain ⟨e1,e2⟩:=e
        subst e1
        obtain ⟨k',x',h1,h2⟩:=h 0 u rfl
        simp only [List.getElem?_cons_zero,Option.some.injEq,Prod.mk.injEq] at h1
        obtain ⟨rfl,rfl⟩:=h1
        rw [Um] at h2
        have hu:∃ t,u=.str y t:=by
          rcases uw h2 with ⟨i,t,e',_⟩ | ⟨z,t,e',hz⟩
          · cases e'
          · cases e'; exact ⟨t,hz⟩
        obtain ⟨t,rfl⟩:=hu
        exact .cons y t (Gq e2 (by simpa using hl) fun j v ev=>by simpa using h (j+1) v (by simpa using ev))
theorem Ny (hc:X.calm=true):M7 X (.builtin "sorted") Lp:=by
  intro pins s σ H xs us Q I rs z8
  obtain ⟨S,as,ts,w,sub,hr,hf,q⟩:=z8
  cases hr with
  | nil=>exact nu hf
  | @cons x t xs' ts' h1 h2 =>
    cases h2 with
    | cons h3 h4=>cases h1 <;> exact nu hf
    | nil =>
      cases h1 with
      | @lst a vs ts g1 g2 =>
        obtain ⟨h64,hf⟩:=Eu hf
        obtain ⟨l,e1,e2⟩:=Option.map_eq_some_iff.mp hf
        subst e2
        exact Li pins s σ H _ us Q I rs ⟨S,as,ts,l,sub,.cons (.lst g1 g2) .nil,h64,e1,q⟩
      | @dic a kvs ts g1 g2 =>
        obtain ⟨h64,hf⟩:=Eu hf
        obtain ⟨l,e1,e2⟩:=Option.map_eq_some_iff.mp hf
        subst e2
        obtain ⟨u,rfl,ru⟩:=rs.one
        cases ru
        obtain ⟨z,hd,vs,rel,dd⟩:=K4 I.hok (Ae sub g1)
        obtain ⟨ep,hat⟩:=dd.dictAt
        have hlen:vs.length=ts.length:=by rw [← rel.length]; exact g2.length
        have hk:=Mh g2.keys e1
        rw [KV.keys rel] at hk
        exact Xj (PySem.W.kdl_dict (knd:=v8 X.prog X.w) (kvs:=vs) (ep:=ep) hd) hc I sub hat (by rw [hlen]; exact h64) (fun us hl hp=>⟨l,Gq hk hl hp,.refl _⟩) q
      | _=>exact nu hf
end
end C
end
noncomputable section
set_option linter.all false
set_option maxRecDepth 100000
set_option maxHeartbeats 4000002
set_option autoImplicit false
namespace C
open PySem PySem.Spec PyProof.Rows L2
noncomputable section
variable {prog:Program} {w:World} {A:Around} {E:Value→Shared→Prop} {s:Shared}
end
end C
end
noncomputable section
set_option linter.all false
set_option maxRecDepth 100000
set_option maxHeartbeats 4000002
set_option autoImplicit false
namespace C
open PySem PySem.Spec PyProof.Rows L2
noncomputable section
variable {prog:Program} {w:World} {A:Around} {R:Result→Shared→Prop} {I:Addr} {fp wr:List Addr} {G:Array GenState→Array GenState→Prop} {n:Nat} {P:Nat→Value→Prop} {St:Nat→Shared→Prop} {κ:Type} [DecidableEq κ] {knd:PySem.KeyKind prog w κ}
end
end C
end
noncomputable section
set_option linter.all false
set_option maxRecDepth 100000
set_option maxHeartbeats 4000002
set_option autoImplicit false
namespace C
open PySem PySem.Spec PyProof.Rows L2
noncomputable section
variable {prog:Program} {w:World} {A:Around} {E:Value→Shared→Prop} {s:Shared} {κ:Type} [DecidableEq κ] {knd:PySem.KeyKind prog w κ}
end
end C
end
noncomputable section
set_option linter.all false
set_option maxRecDepth 100000
set_option maxHeartbeats 4000002
set_option autoImplicit false
namespace C
open PySem PySem.Spec PyProof.Rows L2
noncomputable section
variable {X:Cx} {pins:List (Addr × Obj)} {σ:L2.St} {H S:Hp} {s:Shared} {as:List Addr}
inductive Jl (h:Heap) (prog:Program) (w:World):List Value→List L2.Key→List Value→Prop where
  | nil:Jl h prog w [] [] []
  | cons {t:Addr} {kx wv:Value} {o:Obj} {n:Nat} {q:L2.Key} {us:List Value} {qs:List L2.Key} {ws:List Value}:h.get? t=some o→o.cls=.type "tuple" → o.data=.seq #[kx,wv] n→(v8 prog w).is q kx=true →
      Jl h prog w us qs ws→Jl h prog w (.ref t::us) (q::qs) (wv::ws)
theorem Jl.len {h:Heap} {prog:Program} {w:World}:∀ {us:List Value} {qs:List L2.Key} {ws:List Value},Jl h prog w us qs ws→us.length=qs.length∧us.length=ws.length:=by
  intro us qs ws h
  induction h with
  | nil=>exact ⟨rfl,rfl⟩
  | cons _ _ _ _ _ ih=>exact ⟨congrArg (· + 1) ih.1,congrArg (· + 1) ih.2⟩
end
noncomputable section
variable {X:Cx} {B:Bas} {a:Expr} {m:M T} {pos p:Pos}
end
end C
end
noncomputable section
set_option linter.all false
set_option autoImplicit false
namespace C
open PySem PySem.Spec PyProof.Rows L2
theorem j8.zero {P:Program} {w:World} {K:PySem.W.Frag} {mg:Str→Option Value} {base:Heap} {x qual:Str} {st:Stmt} {f:Addr} {fd:FuncData} {ps:List Str} {k:Nat} (F:Fun K x qual st f fd) (h:mg x=some (.ref f)) (b:Binds K fd ps []):j8 P w K mg base x k ps (fun _ _=>none):=by
  have no:∀ vs H Q E,¬ spF K ps.length (fun _ _=>none) vs H Q E:=fun vs H Q E z=>by
    obtain ⟨S,as,sto,ts,t,sto',_,_,_,_,e,_⟩:=z
    cases e
  exact ⟨f,fd,⟨fun vs H Q E z=>absurd z (no vs H Q E),fun A outer s H args us vs Q E _ _ _ _ z=>absurd z (no vs H Q E)⟩,b,F.kp,h⟩
end C
end
noncomputable section
set_option autoImplicit false
namespace C
open PySem
noncomputable def wk:Nat→M Bool→S→S
  | 0,_,_=>fun _=>none
  | n+1,c,b=>fun s=>match c s with
    | some (false,s1)=>some (.next,s1)
    | some (true,s1)=>match b s1 with
      | some (.next,s2)=>wk n c b s2
      | some (.cont,s2)=>wk n c b s2
      | some (.brk,s2)=>some (.next,s2)
      | some (.ret v,s2)=>some (.ret v,s2)
      | none=>none
    | none=>none
noncomputable def Xp (i j:Nat):S:=fun s=>match s.env[i]? with
  | some (some (.lst xs,true))=>match xs[xs.length - 1]? with
    | some t=>some (.next,bh j t false (bh i (.lst xs.dropLast) true s))
    | none=>none
  | _=>none
noncomputable def W2:List T→Option T
  | [.int i]=>some (.int i)
  | [.bl k]=>some (.int (if k then 1 else 0))
  | _=>none
end C
end
noncomputable section
set_option linter.all false
set_option maxRecDepth 100000
set_option maxHeartbeats 4000002
set_option autoImplicit false
namespace C
open PySem PySem.Spec PyProof.Rows L2
theorem Vv {n:Nat} {c:M Bool} {b:S} {s s':Sta} {fl:Flow} (h:wk (n+1) c b s=some (fl,s')):(∃ s1,c s=some (false,s1)∧fl=.next∧s'=s1) ∨
    ∃ s1 fb s2,c s=some (true,s1)∧b s1=some (fb,s2)∧(match fb with | .next=>wk n c b s2=some (fl,s') | .cont=>wk n c b s2=some (fl,s') | .brk=>fl=.next∧s'=s2 | .ret v=>fl=.ret v∧s'=s2):=by
  rw [wk] at h
  dsimp only at h
  split at h
  · rename_i s1 e1; cases h; exact .inl ⟨_,e1,rfl,rfl⟩
  · rename_i s1 e1
    split at h
    · rename_i s2 e2; exact .inr ⟨s1,.next,s2,e1,e2,h⟩
    · rename_i s2 e2; exact .inr ⟨s1,.cont,s2,e1,e2,h⟩
    · rename_i s2 e2; cases h; exact .inr ⟨s1,.brk,_,e1,e2,rfl,rfl⟩
    · rename_i v s2 e2; cases h; exact .inr ⟨s1,.ret v,_,e1,e2,rfl,rfl⟩
    · cases h
  · cases h
theorem a1w {i j:Nat} {s s':Sta} {fl:Flow} (h:Xp i j s=some (fl,s')):∃ xs t,s.env[i]? = some (some (.lst xs,true))∧xs[xs.length - 1]? = some t∧fl=.next∧s'=bh j t false (bh i (.lst xs.dropLast) true s):=by
  unfold Xp at h
  split at h
  · rename_i xs e
    split at h
    · rename_i t e2; cases h; exact ⟨xs,t,e,e2,rfl,rfl⟩
    · cases h
  · cases h
theorem ux.dropLast {K:PySem.W.Frag} {S:Hp} {as:List Addr}:∀ {vs:List V} {ts:List T},ux K S as vs ts→ux K S as vs.dropLast ts.dropLast
  | _,_,.nil=>.nil
  | _,_,.cons h .nil=>.nil
  | _,_,.cons h (.cons h2 r)=>.cons h (ux.dropLast (.cons h2 r))
noncomputable section
variable {X:Cx} {B:Bas} {c e:Expr} {m:M T} {pos p:Pos} {u:S} {body:List Stmt}
theorem U9 (n:Nat) {mc:M Bool} (hp:PassesOwn (model X.prog X.w) X.A X.env X.xe) (hc:PT X c (cOf X.K B mc)) (hb:PSs X body (sOf X.K B u)):PS X (.While c body [] pos) (sOf X.K B (wk n mc u)):=(a2g hp hc hb).imp fun D σ H z9=>by
  obtain ⟨st,ps,S,as,R,fl,st',e,q⟩:=z9
  refine ⟨fun k σ H=>∃ sti Si asi,Rel X.K B sti σ H ps Si asi∧wk k mc u sti=some (fl,st'),⟨n,st,S,as,R,e⟩,?_⟩
  rintro k σ2 H2 ⟨sti,Si,asi,Ri,ei⟩
  cases k with
  | zero=>rw [wk] at ei; cases ei
  | succ k =>
    rcases Vv ei with ⟨s1,e1,rfl,rfl⟩ | ⟨s1,fb,s2,e1,e2,er⟩
    · exact ⟨sti,ps,Si,asi,Ri,false,_,e1,fun H3 S3 as3 R3=>a4s (q σ2 H3 S3 as3 R3)⟩
    · refine ⟨sti,ps,Si,asi,Ri,true,s1,e1,fun H3 S3 as3 R3=>a6a ⟨fun σ' H'=>∃ sti Si asi,Rel X.K B sti σ' H' ps Si asi∧wk k mc u sti=some (fl,st'),fun σ' H' h=>⟨k,Nat.lt_succ_self _,h⟩,s1,ps,S3,as3,R3,fb,s2,e2,?_⟩⟩
      cases fb with
      | next=>exact fun σ' H' S' as' R'=>⟨s2,S',as',R',er⟩
      | cont=>exact fun σ' H' S' as' R'=>⟨s2,S',as',R',er⟩
      | brk =>
        obtain ⟨rfl,rfl⟩:=er
        exact fun σ' H' S' as' R'=>q σ' H' S' as' R'
      | ret v =>
        obtain ⟨rfl,rfl⟩:=er
        exact fun v σ' H' S' as' R'=>q v σ' H' S' as' R'
theorem a3o (i j:Nat) {st:Stmt} (h:PS X st (a2v (ab5 X.K "list" aax (Zz i)) (Jq j))):PS X st (sOf X.K B (Xp i j)):=h.imp fun D σ H z9=>by
  obtain ⟨st,ps,S,as,R,fl,st',e,q⟩:=z9
  obtain ⟨xs,t,e2,e3,rfl,rfl⟩:=a1w e
  obtain ⟨w,h1,_,h3⟩:=R.slots i _ true e2
  obtain ⟨p0,rfl,ow⟩:=h3 rfl
  obtain ⟨vs,hH,h4⟩:=ow.own
  obtain ⟨y,hy,ry⟩:=h4.get e3
  have hy':vs[vs.length - 1]? = some y:=by rw [h4.length]; exact hy
  have R2:=R.turn (ob:=.lst vs.dropLast) (t':=.lst xs.dropLast) e2 h1 ⟨_,jl,h4.dropLast⟩
  exact ⟨_,h1,.inl ⟨rfl,_,SqL.of hH⟩,p0,vs,y,rfl,rfl,hH,hy',q _ _ S as (R2.put (i:=j) ry)⟩
theorem Dc:M7 X (.type "int") W2:=by
  intro pins s σ H xs us Q I rs z8
  obtain ⟨S,as,ts,w,sub,hr,hf,q⟩:=z8
  cases hr with
  | nil=>exact nu hf
  | @cons x t xs' ts' h1 h2 =>
    cases h2 with
    | cons h3 h4=>cases h1 <;> exact nu hf
    | nil =>
      cases h1 <;> first | exact nu hf | skip
      · cases hf
        exact Nx pins s σ H _ us Q I rs (.inr ⟨_,rfl,q _ H S (Ext.refl sub) (.int _)⟩)
      · cases hf
        exact Nx pins s σ H _ us Q I rs (.inl ⟨_,rfl,q _ H S (Ext.refl sub) (.int _)⟩)
end
end C
end
noncomputable section
set_option linter.all false
set_option maxRecDepth 100000
set_option maxHeartbeats 4000002
set_option autoImplicit false
namespace C
open PySem PySem.Spec PyProof.Rows L2
noncomputable section
variable {X:Cx} {B:Bas} {e st:Expr} {te:TE} {m:M T} {pos p2 p3 p4:Pos} {j:Nat}
theorem Zt (hg:Gl X "list") (hm:X.mg "list" = none) (ha:PE X e (tOf X.K B m)) (he:starEach [e] X.env=(false,eval e X.env)::starEach [] X.env:=by rfl) (hpl:(backTo pos (starEach [] X.env)).any (·.1)=false:=by rfl) :
    PE X (.Call (.Name "list" p3) [e] [] pos) (fOf X.K B (iu Ed (ak m fj))):=by
  refine (ur Dn hg hm PyProof.Rows.boot_list (sy ha vq he) (by decide) (by decide) he hpl).imp fun σ H Q z0=>?_
  obtain ⟨st,ps,S,as,R,t,st',e,q⟩:=z0
  obtain ⟨ts,e1,e2⟩:=Dq e
  obtain ⟨t1,s1,us,ea,en,rfl⟩:=Dk e1
  cases en
  refine ⟨st,ps,S,as,R,t1,_,ea,fun v H1 S1 as1 R1=>?_⟩
  have top:=R1.top
  cases top with
  | @lst a vs ts g1 g2 =>
    simp only [Ed] at e2; cases e2
    refine ⟨a,vs,rfl,.inl (mq R1.sub g1),fun p hp=>?_⟩
    obtain ⟨bD,sD,nD,no⟩:=R1.fresh hp
    exact q p _ S1 as1 (R1.drop.a6s bD sD nD (fun j w e1 e2=>no j w e1 e2)) ⟨⟨vs,jl,g2⟩,sD,nD,bD⟩ (fun j w e1 e2=>no j w e1 e2)
  | @tup a vs ts g1 g2 =>
    simp only [Ed] at e2; cases e2
    refine ⟨a,vs,rfl,.inr (qt R1.sub g1),fun p hp=>?_⟩
    obtain ⟨bD,sD,nD,no⟩:=R1.fresh hp
    exact q p _ S1 as1 (R1.drop.a6s bD sD nD (fun j w e1 e2=>no j w e1 e2)) ⟨⟨vs,jl,g2⟩,sD,nD,bD⟩ (fun j w e1 e2=>no j w e1 e2)
  | _=>simp only [Ed,reduceCtorEq] at e2
end
end C
end
noncomputable section
set_option linter.all false
set_option maxRecDepth 100000
set_option maxHeartbeats 4000002
set_option autoImplicit false
namespace C
open PySem PySem.Spec PyProof.Rows L2
noncomputable section
variable {X:Cx} {B:Bas} {a:Expr} {m:M T} {pos p:Pos}
end
end C
end
noncomputable section
set_option autoImplicit false
namespace C
open PySem
noncomputable def a3i (xs ys:List T):List T:=(xs.zip ys).map fun p=>.tup [p.1,p.2]
noncomputable def a4c (a b:M T):M (List T):=fun s=>match a s with
  | some (t,s1)=>match b s1 with
    | some (u,s2)=>match iy t,iy u with
      | some xs,some ys=>if xs.length<lim∧ys.length<lim then some (a3i xs ys,s2) else none
      | _,_=>none
    | none=>none
  | none=>none
noncomputable def a0m (y:T):List T→Nat→Option Nat
  | [],_=>none
  | x::r,k=>match eqD x y with
    | some true=>some k
    | some false=>a0m y r (k+1)
    | none=>none
noncomputable def J6:T→T→Option T
  | .lst xs,y=>if xs.length<lim∧(dat y).isSome∧(inL y xs).isSome then (a0m y xs 0).map fun (k:Nat)=>.int (k:Int) else none
  | _,_=>none
noncomputable def sIx (n d:Nat):Option Int→Nat
  | none=>d
  | some v=>if v<0 then (v+(n:Int)).toNat else min v.toNat n
noncomputable def a77 (xs:List T) (lo hi:Option Int):List T:=(xs.drop (sIx xs.length 0 lo)).take (sIx xs.length xs.length hi - sIx xs.length 0 lo)
noncomputable def a9j (lo hi:Option Int):T→Option T
  | .lst xs=>some (.lst (a77 xs lo hi))
  | .tup xs=>if sIx xs.length 0 lo=0∧sIx xs.length xs.length hi=xs.length then none else some (.tup (a77 xs lo hi))
  | _=>none
noncomputable def a4d:M (Option Int):=fun s=>some (none,s)
noncomputable def Ov (e:M T):M (Option Int):=fun s=>match e s with
  | some (.int i,s1)=>some (some i,s1)
  | _=>none
noncomputable def Gu (m:M T) (lo hi:M (Option Int)):M T:=fun s=>match m s with
  | some (t,s1)=>match lo s1 with
    | some (l,s2)=>match hi s2 with
      | some (h,s3)=>match a9j l h t with
        | some u=>some (u,s3)
        | none=>none
      | none=>none
    | none=>none
  | none=>none
noncomputable def a9l:T→Option T
  | .lst xs=>some (.lst xs.reverse)
  | _=>none
noncomputable def ac0 (b:Bool):T→Bool
  | .bl k=>k==b
  | _=>false
noncomputable def isC:T→T→Option T
  | x,.non=>some (.bl (Mv x))
  | x,.bl b=>some (.bl (ac0 b x))
  | _,_=>none
noncomputable def En (x y:T):Option T:=match isC x y with
  | some (.bl b)=>some (.bl (!b))
  | _=>none
end C
end
noncomputable section
set_option linter.all false
set_option autoImplicit false
namespace C
open PySem PySem.Sem
noncomputable def Gf:Bool→Heap→Addr→Addr→Nat→Prop
  | true,h,it,a,i=>h.IsListIter it a i
  | false,h,it,a,i=>h.IsTupleIter it a i
noncomputable def Bt:Bool→Heap→Addr→Array Value→Prop
  | true,h,a,xs=>h.IsList a xs
  | false,h,a,xs=>h.IsTuple a xs
theorem Gf.to {k:Bool} {h h':Heap} {it a:Addr} {i:Nat} (x:Gf k h it a i) (e:∀ o,h.get? it=some o→h'.get? it=some o):Gf k h' it a i:=by
  cases k <;> obtain ⟨o,ho,r⟩:=x <;> exact ⟨o,e o ho,r⟩
theorem Gf.obj {k:Bool} {h:Heap} {it a:Addr} {i:Nat} (x:Gf k h it a i):∃ o,h.get? it=some o∧∀ v,o.data≠.cell v:=by
  cases k <;> obtain ⟨o,ho,_,d⟩:=x <;> exact ⟨o,ho,fun v z=>by rw [d] at z; cases z⟩
theorem Bt.to {k:Bool} {h h':Heap} {a:Addr} {xs:Array Value} (x:Bt k h a xs) (e:∀ o,h.get? a=some o→h'.get? a=some o):Bt k h' a xs:=by
  cases k <;> obtain ⟨o,ho,r⟩:=x <;> exact ⟨o,e o ho,r⟩
noncomputable section
variable {prog:Program} {w:World} {A:Around} {E:Value→Shared→Prop} {s:Shared}
theorem nextT {it t:Addr} {i:Nat} {xs:Array Value} {x:Value} {Q:Value→Shared→Prop} (h1:s.heap.IsTupleIter it t i) (h2:s.heap.IsTuple t xs) (h3:xs[i]? = some x)
    (q:∀ h',h'.IsTupleIter it t (i+1)→Heap.SameBut it s.heap h'→Q x { s with heap:=h' }):wpAny (model prog w) A (Builtin.SmallTypes.nextOf (.ref it)) Q E s:=by
  have ty:s.TypeIs (.ref it) "tuple_iterator" := h1.typeIs
  obtain ⟨oi,gi,ci,di⟩:=h1
  obtain ⟨ot,gt,_,m,dt⟩:=h2
  have upd:∀ (h':Heap),h'=s.heap.update it (Obj.mapFields (·.setIfInBounds 1 (rawInt ((i:Int)+1))))→h'.IsTupleIter it t (i+1):=fun h' e=>by
    subst e
    refine ⟨_,Heap.get?_update_self _ gi (Obj.isFreed_of_fields (Obj.data_mapFields di _)),(Obj.cls_mapFields ..).trans ci,?_⟩
    rw [Obj.data_mapFields di]; rfl
  unfold Builtin.SmallTypes.nextOf -- here
  refine wpAny_bind (wpAny_callSpecial?_slot (name:=Str.ofString "__next__") ty F.slot_tuple_iterator_next (wpAny_call_entry F.slot_tuple_iterator_next ty F.entry_tuple_iterator_next ?_ (F.args_tuple_iterator_next_1 _)))
  refine (show wpAny _ _ (field (.ref it) 0 >>= _) _ _ s from wpAny_bind (wpAny_field gi di (x:=.ref t) rfl ?_))
  dsimp only
  rw [if_neg (by intro z; cases z)]
  refine (show wpAny _ _ (field (.ref it) 1 >>= _) _ _ s from wpAny_bind (wpAny_field gi di (x:=.int i 0) rfl ?_))
  refine (show wpAny _ _ (seqItems? (.ref t) >>= _) _ _ s from wpAny_bind (wpAny_seqItems gt dt ?_))
  dsimp only
  rw [Int.toNat_natCast,h3]
  exact wpAny_bind (wpAny_setField gi di (by simp) (wpAny_pure ⟨x,rfl,wpAny_pure (q _ (upd _ rfl) (Heap.SameBut.update ..))⟩))
theorem Yn {it t:Addr} {i:Nat} {xs:Array Value} {Q:Value→Shared→Prop} (hh:A.handled=none) (h1:s.heap.IsTupleIter it t i) (h2:s.heap.IsTuple t xs) (h3:xs[i]? = none)
    (q:∀ h' e,Heap.ExtBut it s.heap h'→(∃ o,h'.get? e=some o∧o.cls=.type "StopIteration")→E (.ref e) { s with heap:=h' }):wpAny (model prog w) A (Builtin.SmallTypes.nextOf (.ref it)) Q E s:=by
  have ty:s.TypeIs (.ref it) "tuple_iterator" := h1.typeIs
  obtain ⟨oi,gi,ci,di⟩:=h1
  obtain ⟨ot,gt,_,m,dt⟩:=h2
  unfold Builtin.SmallTypes.nextOf -- here
  refine wpAny_bind (wpAny_callSpecial?_slot (name:=Str.ofString "__next__") ty F.slot_tuple_iterator_next (wpAny_call_entry F.slot_tuple_iterator_next ty F.entry_tuple_iterator_next ?_ (F.args_tuple_iterator_next_1 _)))
  refine (show wpAny _ _ (field (.ref it) 0 >>= _) _ _ s from wpAny_bind (wpAny_field gi di (x:=.ref t) rfl ?_))
  dsimp only
  rw [if_neg (by intro z; cases z)]
  refine (show wpAny _ _ (field (.ref it) 1 >>= _) _ _ s from wpAny_bind (wpAny_field gi di (x:=.int i 0) rfl ?_))
  refine (show wpAny _ _ (seqItems? (.ref t) >>= _) _ _ s from wpAny_bind (wpAny_seqItems gt dt ?_))
  dsimp only
  rw [Int.toNat_natCast,h3]
  refine wpAny_bind (wpAny_rule (wpAny_bind (wpAny_setField gi di (by simp) ?_)))
  refine (show wpAny _ _ (newExc (.type "StopIteration") [] >>= _) _ _ _ from wpAny_bind ?_)
  simp only [newExc,newTuple]
  refine wpAny_bind (wpAny_newObj_type (wpAny_bind (m:=firstArgMember _ _) (wpAny_of_eq (a:=Value.none) (by first | rfl | (simp only [firstArgMember]; rfl)) (wpAny_newObj_type ?_ (by size_fits)))) (by size_fits))
  simp only [raiseNew]
  refine wpAny_bind (wpAny_handled ?_) -- here
  rw [show A.in1.handled=none from hh] -- here
  exact wpAny_bind (wpAny_pure (wpAny_throw (q _ _ (((Heap.SameBut.update ..).extBut.push _).push _) ⟨_,Heap.get?_push_size _ rfl,rfl⟩)))
theorem Lf {k:Bool} {it a:Addr} {i:Nat} {xs:Array Value} {x:Value} {Q:Value→Shared→Prop} (h1:Gf k s.heap it a i) (h2:Bt k s.heap a xs) (h3:xs[i]? = some x)
    (q:∀ h',Gf k h' it a (i+1)→Heap.SameBut it s.heap h'→Q x { s with heap:=h' }):wpAny (model prog w) A (Builtin.SmallTypes.nextOf (.ref it)) Q E s:=by
  cases k with
  | true=>exact wpAny_nextOf_list_item h1 h2 h3 q
  | false=>exact nextT h1 h2 h3 q
theorem Gs {k:Bool} {it a:Addr} {i:Nat} {xs:Array Value} {Q:Value→Shared→Prop} (hh:A.handled=none) (h1:Gf k s.heap it a i) (h2:Bt k s.heap a xs) (h3:xs[i]? = none)
    (q:∀ h' e,Heap.ExtBut it s.heap h'→(∃ o,h'.get? e=some o∧o.cls=.type "StopIteration")→E (.ref e) { s with heap:=h' }):wpAny (model prog w) A (Builtin.SmallTypes.nextOf (.ref it)) Q E s:=by
  cases k with
  | true=>exact wpAny_nextOf_list_end hh h1 h2 h3 q
  | false=>exact Yn hh h1 h2 h3 q
end
structure Mr (h:Heap) (z ti to' i1 i2:Addr) (f:Value):Prop where
  zip:IsZip h z ti to' f
  its:IsPair h ti (.ref i1) (.ref i2)
  kept:∃ a b,IsPair h to' a b
structure Far (z ti to' i1 i2:Addr):Prop where
  nd:[z,ti,to',i1,i2].Nodup
theorem Far.all {z ti to' i1 i2:Addr} (f:Far z ti to' i1 i2):ti≠z∧to'≠z∧i1≠z∧i2≠z∧ti≠to'∧ti≠i1∧ti≠i2∧to'≠i1∧to'≠i2∧i1≠i2:=by
  have:=f.nd
  simp only [List.nodup_cons,List.mem_cons,List.not_mem_nil,or_false,not_or] at this
  obtain ⟨⟨a,b,c,d⟩,⟨e,f,g⟩,⟨h,i⟩,j,_⟩:=this
  exact ⟨Ne.symm a,Ne.symm b,Ne.symm c,Ne.symm d,e,f,g,h,i,j⟩
noncomputable def Xd (z to' i1 i2:Addr) (h h':Heap):Prop:=∀ c o,c≠z→c≠to'→c≠i1→c≠i2→h.get? c=some o→h'.get? c=some o
noncomputable section
variable {prog:Program} {w:World} {A:Around} {E:Value→Shared→Prop} {s:Shared}
theorem a0j {k1 k2:Bool} {z ti to' i1 i2 a1 a2:Addr} {j1 j2:Nat} {xs ys:Array Value} {x y:Value} {Q:Value→Shared→Prop} (D:Far z ti to' i1 i2) (Z:Mr s.heap z ti to' i1 i2 .none)
    (h1:Gf k1 s.heap i1 a1 j1) (h2:Gf k2 s.heap i2 a2 j2) (r1:Bt k1 s.heap a1 xs) (r2:Bt k2 s.heap a2 ys) (n2:a2≠z∧a2≠to'∧a2≠i1∧a2≠i2) (n1:a1≠z) (hx:xs[j1]? = some x) (hy:ys[j2]? = some y)
    (q:∀ h',Mr h' z ti to' i1 i2 (rawInt s.heap.objs.size)→Gf k1 h' i1 a1 (j1+1)→Gf k2 h' i2 a2 (j2+1)→IsPair h' s.heap.objs.size x y→Xd z to' i1 i2 s.heap h'→Q (.ref s.heap.objs.size) { s with heap:=h' }) :
    wpAny (model prog w) A (Builtin.«zip.__next__» ⟨[.ref z],[]⟩) (fun fin s'=>∃ v,fin=.done (.ret v)∧Q v s') E s:=by -- here
  obtain ⟨hz,hI,a,b,hO⟩:=Z
  obtain ⟨d1,d2,d3,d4,d5,d6,d7,d8,d9,d10⟩:=D.all
  refine (show wpAny _ _ (field (.ref z) 2 >>= _) _ _ _ from wpAny_bind (wpAny_field hz rfl (x:=.bool false) rfl ?_))
  refine (show wpAny _ _ (field (.ref z) 3 >>= _) _ _ _ from wpAny_bind (wpAny_field hz rfl (x:=.ref ti) rfl (wpAny_bind (wpAny_seqItems hI rfl ?_))))
  refine (show wpAny _ _ (Builtin.SmallTypes.ownedTupleIsFree (.ref z) >>= _) _ _ _ from wpAny_bind ?_)
  unfold Builtin.SmallTypes.ownedTupleIsFree -- here
  refine wpAny_bind (wpAny_field hz rfl (x:=.none) rfl (wpAny_pure ?_)) -- here
  dsimp only
  rw [if_pos rfl]
  refine wpAny_bind (wpAny_rule (wpAny_bind (wpAny_field hz rfl (x:=.ref to') rfl (wpAny_bind (wpAny_setField_rec hz (by simp) fun g1 z1 s1=>wpAny_bind ?_)))))
  have z1:IsZip g1 z ti to' .ellipsis:=z1
  simp only [List.zipIdx_cons,List.zipIdx_nil,List.forIn_cons,List.forIn_nil] -- here
  refine wpAny_bind (wpAny_bind (wpAny_onRaise (show wpAny _ _ (Builtin.SmallTypes.nextOf (.ref i1) >>= _) _ _ _ from wpAny_bind (Lf (h1.to fun o e=>s1.extBut _ _ d3 e) (r1.to fun o e=>s1.extBut _ _ n1 e) hx fun g2 t2 s2=>wpAny_pure ?_))))
  have o2:IsPair g2 to' a b:=s2.extBut _ _ d8 (s1.extBut _ _ d2 hO)
  refine wpAny_bind (wpAny_seqItems o2 rfl (wpAny_bind (wpAny_updateSeq_pair o2 fun g3 o3 s3=>wpAny_bind (wpAny_letGo (wpAny_pure ?_)))))
  have o3:IsPair g3 to' x b:=o3
  have e3:∀ c o,c≠z→c≠i1→c≠to'→s.heap.get? c=some o→g3.get? c=some o:=fun c o c1 c2 c3 e=>s3.extBut _ _ c3 (s2.extBut _ _ c2 (s1.extBut _ _ c1 e))
  refine wpAny_bind (wpAny_bind (wpAny_onRaise (show wpAny _ _ (Builtin.SmallTypes.nextOf (.ref i2) >>= _) _ _ _ from wpAny_bind (Lf (h2.to fun o e=>e3 _ o d4 (Ne.symm d10) (Ne.symm d9) e) (r2.to fun o e=>e3 _ o n2.1 n2.2.2.1 n2.2.1 e) hy fun g4 t4 s4=>wpAny_pure ?_))))
  have o4:IsPair g4 to' x b:=s4.extBut _ _ d9 o3
  refine wpAny_bind (wpAny_seqItems o4 rfl (wpAny_bind (wpAny_updateSeq_pair o4 fun g5 o5 s5=>wpAny_bind (wpAny_letGo (wpAny_pure (wpAny_pure ?_))))))
  have o5:IsPair g5 to' x y:=o5
  have sz:g5.objs.size=s.heap.objs.size:=by rw [s5.1,s4.1,s3.1,s2.1,s1.1]
  have z5:IsZip g5 z ti to' .ellipsis:=s5.extBut _ _ (Ne.symm d2) (s4.extBut _ _ (Ne.symm d4) (s3.extBut _ _ (Ne.symm d2) (s2.extBut _ _ (Ne.symm d3) z1)))
  have t5:Gf k1 g5 i1 a1 (j1+1):=t2.to fun o e=>s5.extBut _ _ (Ne.symm d8) (s4.extBut _ _ d10 (s3.extBut _ _ (Ne.symm d8) e))
  have u5:Gf k2 g5 i2 a2 (j2+1):=t4.to fun o e=>s5.extBut _ _ (Ne.symm d9) e
  refine wpAny_bind (wpAny_seqItems o5 rfl (wpAny_bind (wpAny_newTuple ?_)))
  refine (show wpAny _ _ (Builtin.SmallTypes.ownedTupleHandOut (.ref z) (.ref g5.objs.size) >>= _) _ _ _ from wpAny_bind ?_)
  unfold Builtin.SmallTypes.ownedTupleHandOut -- here
  have z6:IsZip (g5.push { cls:=.type "tuple",data:=.seq #[x,y] }) z ti to' .ellipsis:=Heap.get?_push_of_some _ z5
  refine wpAny_bind (wpAny_setField_rec z6 (by simp) fun g7 z7 s7=>?_)
  have z7:IsZip g7 z ti to' (rawInt g5.objs.size):=z7
  refine wpAny_setField_rec z7 (by simp) fun g8 z8 s8=>wpAny_pure ⟨_,rfl,?_⟩
  have z8:IsZip g8 z ti to' (rawInt g5.objs.size):=z8
  have e8:∀ c o,c≠z→g5.get? c=some o→g8.get? c=some o:=fun c o c1 e=>s8.extBut _ _ c1 (s7.extBut _ _ c1 (Heap.get?_push_of_some _ e))
  have p8:IsPair g8 g5.objs.size x y:=s8.extBut _ _ (Nat.ne_of_gt (Heap.lt_size z5)) (s7.extBut _ _ (Nat.ne_of_gt (Heap.lt_size z5)) (Heap.get?_push_size _ rfl))
  have all:∀ c o,c≠z→c≠to'→c≠i1→c≠i2→s.heap.get? c=some o→g8.get? c=some o:=fun c o c1 c2 c3 c4 e=>e8 c o c1 (s5.extBut _ _ c2 (s4.extBut _ _ c4 (e3 c o c1 c3 c2 e)))
  rw [sz] at z8 p8
  show Q (.ref g5.objs.size) _
  rw [sz]
  exact q g8 ⟨z8,all _ _ d1 d5 d6 d7 hI,x,y,e8 _ _ d2 o5⟩ (t5.to fun o e=>e8 _ o d3 e) (u5.to fun o e=>e8 _ o d4 e) p8 all
theorem a1i {k1 k2:Bool} {z ti to' i1 i2 a1 a2:Addr} {j1 j2:Nat} {xs ys:Array Value} {Q:PySem.Fin→Shared→Prop} (hh:A.handled=none) (D:Far z ti to' i1 i2) (Z:Mr s.heap z ti to' i1 i2 .none)
    (h1:Gf k1 s.heap i1 a1 j1) (h2:Gf k2 s.heap i2 a2 j2) (r1:Bt k1 s.heap a1 xs) (r2:Bt k2 s.heap a2 ys) (n2:a2≠z∧a2≠to'∧a2≠i1∧a2≠i2) (n1:a1≠z) (hend:xs[j1]? = none∨ys[j2]? = none)
    (q:∀ h' e,Xd z to' i1 i2 s.heap h'→(∃ o,h'.get? e=some o∧o.cls=.type "StopIteration")→E (.ref e) { s with heap:=h' }) :
    wpAny (model prog w) A (Builtin.«zip.__next__» ⟨[.ref z],[]⟩) Q E s:=by -- here
  obtain ⟨hz,hI,a,b,hO⟩:=Z
  obtain ⟨d1,d2,d3,d4,d5,d6,d7,d8,d9,d10⟩:=D.all
  refine (show wpAny _ _ (field (.ref z) 2 >>= _) _ _ _ from wpAny_bind (wpAny_field hz rfl (x:=.bool false) rfl ?_))
  refine (show wpAny _ _ (field (.ref z) 3 >>= _) _ _ _ from wpAny_bind (wpAny_field hz rfl (x:=.ref ti) rfl (wpAny_bind (wpAny_seqItems hI rfl ?_))))
  refine (show wpAny _ _ (Builtin.SmallTypes.ownedTupleIsFree (.ref z) >>= _) _ _ _ from wpAny_bind ?_)
  unfold Builtin.SmallTypes.ownedTupleIsFree -- here
  refine wpAny_bind (wpAny_field hz rfl (x:=.none) rfl (wpAny_pure ?_)) -- here
  dsimp only
  rw [if_pos rfl]
  refine wpAny_bind (wpAny_rule (wpAny_bind (wpAny_field hz rfl (x:=.ref to') rfl (wpAny_bind (wpAny_setField_rec hz (by simp) fun g1 z1 s1=>wpAny_bind ?_)))))
  have z1:IsZip g1 z ti to' .ellipsis:=z1
  simp only [List.zipIdx_cons,List.zipIdx_nil,List.forIn_cons,List.forIn_nil] -- here
  have fin:∀ (g:Heap) (e:Addr) (zg:IsZip g z ti to' .ellipsis) (he:∃ o,g.get? e=some o∧o.cls=.type "StopIteration") (kg:Xd z to' i1 i2 s.heap g),wpAny (model prog w) A (setField (.ref z) 0 .none) (fun _ s'=>E (.ref e) s') E { s with heap:=g }:=fun g e zg ⟨o,ho,hc⟩ kg=>by
    have ne:e≠z:=fun x=>by subst x; rw [zg] at ho; cases ho; simp at hc
    exact wpAny_setField_rec zg (by simp) fun g' _ s'=>q g' e (fun c o c1 c2 c3 c4 x=>s'.extBut _ _ c1 (kg c o c1 c2 c3 c4 x)) ⟨o,s'.extBut _ _ ne ho,hc⟩
  cases hx:xs[j1]? with
  | none =>
    refine wpAny_bind (wpAny_bind (wpAny_onRaise (show wpAny _ _ (Builtin.SmallTypes.nextOf (.ref i1) >>= _) _ _ _ from wpAny_bind (Gs hh (h1.to fun o e=>s1.extBut _ _ d3 e) (r1.to fun o e=>s1.extBut _ _ n1 e) hx fun g2 e s2 he=>?_))))
    exact fin g2 e (s2 _ _ (Ne.symm d3) z1) he fun c o c1 _ c3 _ x=>s2 _ _ c3 (s1.extBut _ _ c1 x)
  | some x =>
    have hy:ys[j2]? = none:=hend.resolve_left fun h=>by rw [hx] at h; cases h
    refine wpAny_bind (wpAny_bind (wpAny_onRaise (show wpAny _ _ (Builtin.SmallTypes.nextOf (.ref i1) >>= _) _ _ _ from wpAny_bind (Lf (h1.to fun o e=>s1.extBut _ _ d3 e) (r1.to fun o e=>s1.extBut _ _ n1 e) hx fun g2 t2 s2=>wpAny_pure ?_))))
    have o2:IsPair g2 to' a b:=s2.extBut _ _ d8 (s1.extBut _ _ d2 hO)
    refine wpAny_bind (wpAny_seqItems o2 rfl (wpAny_bind (wpAny_updateSeq_pair o2 fun g3 o3 s3=>wpAny_bind (wpAny_letGo (wpAny_pure ?_)))))
    have e3:∀ c o,c≠z→c≠i1→c≠to'→s.heap.get? c=some o→g3.get? c=some o:=fun c o c1 c2 c3 e=>s3.extBut _ _ c3 (s2.extBut _ _ c2 (s1.extBut _ _ c1 e))
    refine wpAny_bind (wpAny_bind (wpAny_onRaise (show wpAny _ _ (Builtin.SmallTypes.nextOf (.ref i2) >>= _) _ _ _ from wpAny_bind (Gs hh (h2.to fun o e=>e3 _ o d4 (Ne.symm d10) (Ne.symm d9) e) (r2.to fun o e=>e3 _ o n2.1 n2.2.2.1 n2.2.1 e) hy fun g4 e s4 he=>?_))))
    exact fin g4 e (s4 _ _ (Ne.symm d4) (s3.extBut _ _ (Ne.symm d2) (s2.extBut _ _ (Ne.symm d3) z1))) he fun c o c1 c2 c3 c4 x=>s4 _ _ c4 (e3 c o c1 c3 c2 x)
theorem a1x {k1 k2:Bool} {z ti to' i1 i2 a1 a2:Addr} {j1 j2:Nat} {xs ys:Array Value} {x y:Value} {Q:Option Value→Shared→Prop} (D:Far z ti to' i1 i2) (Z:Mr s.heap z ti to' i1 i2 .none)
    (h1:Gf k1 s.heap i1 a1 j1) (h2:Gf k2 s.heap i2 a2 j2) (r1:Bt k1 s.heap a1 xs) (r2:Bt k2 s.heap a2 ys) (n2:a2≠z∧a2≠to'∧a2≠i1∧a2≠i2) (n1:a1≠z) (hx:xs[j1]? = some x) (hy:ys[j2]? = some y)
    (q:∀ h',Mr h' z ti to' i1 i2 (rawInt s.heap.objs.size)→Gf k1 h' i1 a1 (j1+1)→Gf k2 h' i2 a2 (j2+1)→IsPair h' s.heap.objs.size x y→Xd z to' i1 i2 s.heap h'→Q (some (.ref s.heap.objs.size)) { s with heap:=h' }) :
    wpAny (model prog w) A (pyNext (.ref z)) Q E s:=by -- here
  have ty:s.TypeIs (.ref z) "zip" := ⟨_,Z.zip,rfl⟩
  unfold pyNext
  exact wpAny_bind (wpAny_attempt (wpAny_callSpecial?_slot (name:=Str.ofString "__next__") ty F.slot_zip_next (wpAny_call_entry F.slot_zip_next ty F.entry_zip_next
    (a0j D Z h1 h2 r1 r2 n2 n1 hx hy fun h' a b c d e=>wpAny_pure (q h' a b c d e)) (F.args_zip_next_1 _))))
theorem a1m {k1 k2:Bool} {z ti to' i1 i2 a1 a2:Addr} {j1 j2:Nat} {xs ys:Array Value} {Q:Option Value→Shared→Prop} (hh:A.handled=none) (D:Far z ti to' i1 i2) (Z:Mr s.heap z ti to' i1 i2 .none)
    (h1:Gf k1 s.heap i1 a1 j1) (h2:Gf k2 s.heap i2 a2 j2) (r1:Bt k1 s.heap a1 xs) (r2:Bt k2 s.heap a2 ys) (n2:a2≠z∧a2≠to'∧a2≠i1∧a2≠i2) (n1:a1≠z) (hend:xs[j1]? = none∨ys[j2]? = none)
    (q:∀ h',Xd z to' i1 i2 s.heap h'→Q none { s with heap:=h' }):wpAny (model prog w) A (pyNext (.ref z)) Q E s:=by
  have ty:s.TypeIs (.ref z) "zip" := ⟨_,Z.zip,rfl⟩
  unfold pyNext
  refine wpAny_bind (wpAny_attempt (wpAny_callSpecial?_slot (name:=Str.ofString "__next__") ty F.slot_zip_next (wpAny_call_entry F.slot_zip_next ty F.entry_zip_next
    (a1i hh D Z h1 h2 r1 r2 n2 n1 hend fun h' e kp he=>?_) (F.args_zip_next_1 _))))
  obtain ⟨o,ho,hc⟩:=he
  exact wpAny_bind (wpAny_isInstance (T := "StopIteration") (b:=true) ⟨o,ho,hc⟩ isSubtype_stop (wpAny_pure (q _ kp)))
end
noncomputable abbrev Xk (k:Bool) (a:Addr):Obj:={ cls:=.type (if k then "list_iterator" else "tuple_iterator"),data:=.fields #[.ref a,.int 0 0] }
noncomputable abbrev zh1 (h:Heap) (k1:Bool) (a1:Addr):Heap:=h.push (Xk k1 a1)
noncomputable abbrev zh2 (h:Heap) (k1 k2:Bool) (a1 a2:Addr):Heap:=(zh1 h k1 a1).push (Xk k2 a2)
noncomputable abbrev zh3 (h:Heap) (k1 k2:Bool) (a1 a2:Addr):Heap:=(zh2 h k1 k2 a1 a2).push { cls:=.type "tuple",data:=.seq #[.ref h.objs.size,.ref (zh1 h k1 a1).objs.size] }
noncomputable abbrev zh4 (h:Heap) (k1 k2:Bool) (a1 a2:Addr):Heap:=(zh3 h k1 k2 a1 a2).push { cls:=.type "tuple",data:=.seq #[.none,.none] }
noncomputable abbrev zh5 (h:Heap) (k1 k2:Bool) (a1 a2:Addr):Heap:=(zh4 h k1 k2 a1 a2).push { cls:=.type "zip",data:=.fields #[.none,.bool false,.bool false,.ref (zh2 h k1 k2 a1 a2).objs.size,.ref (zh3 h k1 k2 a1 a2).objs.size] }
set_option maxHeartbeats 4000000 in
theorem Qi (a1 a2:Addr) (xs ys:Array Value):Meets (Builtin.«zip.__new__» ⟨[.type "zip",.ref a1,.ref a2],[]⟩) (fun _ R s=>s.heap.IsTuple a1 xs∧s.heap.IsTuple a2 ys ∧
      R (.ok (.ret (.ref (zh4 s.heap false false a1 a2).objs.size))) { s with heap:=zh5 s.heap false false a1 a2 }) :=
  .of_wp fun prog w A R s z9=>by
    obtain ⟨r1,r2,fin⟩:=z9
    obtain ⟨hp,g,d,tk,os⟩:=s -- here
    have hsub:=sub_zip
    have q1:Heap.IsTuple (Shared.heap ⟨hp,g,d,tk,os⟩) a1 xs:=r1
    have q2:Heap.IsTuple (Shared.heap ⟨hp.push { cls:=.type "tuple_iterator",data:=.fields #[.ref a1,.int 0 0] },g,d,tk,os⟩) a2 ys:=Heap.IsTuple.push r2 _
    wp_walk using wpAny_pyIter_tuple q1,wpAny_pyIter_tuple q2
    exact ⟨_,rfl,fin⟩
set_option maxHeartbeats 4000000 in
theorem Qk (a1 a2:Addr) (xs ys:Array Value):Meets (Builtin.«zip.__new__» ⟨[.type "zip",.ref a1,.ref a2],[]⟩) (fun _ R s=>s.heap.IsTuple a1 xs∧s.heap.IsList a2 ys ∧
      R (.ok (.ret (.ref (zh4 s.heap false true a1 a2).objs.size))) { s with heap:=zh5 s.heap false true a1 a2 }) :=
  .of_wp fun prog w A R s z9=>by
    obtain ⟨r1,r2,fin⟩:=z9
    obtain ⟨hp,g,d,tk,os⟩:=s -- here
    have hsub:=sub_zip
    have q1:Heap.IsTuple (Shared.heap ⟨hp,g,d,tk,os⟩) a1 xs:=r1
    have q2:Heap.IsList (Shared.heap ⟨hp.push { cls:=.type "tuple_iterator",data:=.fields #[.ref a1,.int 0 0] },g,d,tk,os⟩) a2 ys:=Heap.IsList.push r2 _
    wp_walk using wpAny_pyIter_tuple q1,wpAny_pyIter_list q2
    exact ⟨_,rfl,fin⟩
set_option maxHeartbeats 4000000 in
theorem Rt (a1 a2:Addr) (xs ys:Array Value):Meets (Builtin.«zip.__new__» ⟨[.type "zip",.ref a1,.ref a2],[]⟩) (fun _ R s=>s.heap.IsList a1 xs∧s.heap.IsTuple a2 ys ∧
      R (.ok (.ret (.ref (zh4 s.heap true false a1 a2).objs.size))) { s with heap:=zh5 s.heap true false a1 a2 }) :=
  .of_wp fun prog w A R s z9=>by
    obtain ⟨r1,r2,fin⟩:=z9
    obtain ⟨hp,g,d,tk,os⟩:=s -- here
    have hsub:=sub_zip
    have q1:Heap.IsList (Shared.heap ⟨hp,g,d,tk,os⟩) a1 xs:=r1
    have q2:Heap.IsTuple (Shared.heap ⟨hp.push { cls:=.type "list_iterator",data:=.fields #[.ref a1,.int 0 0] },g,d,tk,os⟩) a2 ys:=Heap.IsTuple.push r2 _
    wp_walk using wpAny_pyIter_list q1,wpAny_pyIter_tuple q2
    exact ⟨_,rfl,fin⟩
set_option maxHeartbeats 4000000 in
theorem Q9 (a1 a2:Addr) (xs ys:Array Value):Meets (Builtin.«zip.__new__» ⟨[.type "zip",.ref a1,.ref a2],[]⟩) (fun _ R s=>s.heap.IsList a1 xs∧s.heap.IsList a2 ys ∧
      R (.ok (.ret (.ref (zh4 s.heap true true a1 a2).objs.size))) { s with heap:=zh5 s.heap true true a1 a2 }) :=
  .of_wp fun prog w A R s z9=>by
    obtain ⟨r1,r2,fin⟩:=z9
    obtain ⟨hp,g,d,tk,os⟩:=s -- here
    have hsub:=sub_zip
    have q1:Heap.IsList (Shared.heap ⟨hp,g,d,tk,os⟩) a1 xs:=r1
    have q2:Heap.IsList (Shared.heap ⟨hp.push { cls:=.type "list_iterator",data:=.fields #[.ref a1,.int 0 0] },g,d,tk,os⟩) a2 ys:=Heap.IsList.push r2 _
    wp_walk using wpAny_pyIter_list q1,wpAny_pyIter_list q2
    exact ⟨_,rfl,fin⟩
theorem a0n (k1 k2:Bool) (a1 a2:Addr) (xs ys:Array Value):Meets (Builtin.«zip.__new__» ⟨[.type "zip",.ref a1,.ref a2],[]⟩) (fun _ R s=>Bt k1 s.heap a1 xs∧Bt k2 s.heap a2 ys ∧
      R (.ok (.ret (.ref (zh4 s.heap k1 k2 a1 a2).objs.size))) { s with heap:=zh5 s.heap k1 k2 a1 a2 }):=by
  cases k1 <;> cases k2
  · exact Qi a1 a2 xs ys
  · exact Qk a1 a2 xs ys
  · exact Rt a1 a2 xs ys
  · exact Q9 a1 a2 xs ys
theorem Tw {k:Bool} {h:Heap} {p a:Addr} (e:h.get? p=some (Xk k a)):Gf k h p a 0:=by
  cases k <;> exact ⟨_,e,rfl,rfl⟩
noncomputable section
variable {prog:Program} {w:World} {A:Around} {E:Value→Shared→Prop} {s:Shared}
theorem a0s {k1 k2:Bool} {a1 a2:Addr} {xs ys:Array Value} {Q:Value→Shared→Prop} (r1:Bt k1 s.heap a1 xs) (r2:Bt k2 s.heap a2 ys)
    (q:∀ h',Mr h' (s.heap.objs.size+4) (s.heap.objs.size+2) (s.heap.objs.size+3) s.heap.objs.size (s.heap.objs.size+1) .none→Gf k1 h' s.heap.objs.size a1 0→Gf k2 h' (s.heap.objs.size+1) a2 0 →
      (∀ c o,s.heap.get? c=some o→h'.get? c=some o)→Q (.ref (s.heap.objs.size+4)) { s with heap:=h' }):wpAny (model prog w) A (call (.type "zip") [.ref a1,.ref a2]) Q E s:=by
  refine callType_new F.called_zip (by decide) (F.typeCall_zip_2 _ _) (F.newCall_zip_2 _ _) (fun obj=>F.args_object_init_3 obj _ _) F.entry_zip_new (a0n k1 k2 a1 a2 xs ys) ⟨r1,r2,?_⟩
  have y1:(zh1 s.heap k1 a1).objs.size=s.heap.objs.size+1:=Heap.size_push ..
  have y2:(zh2 s.heap k1 k2 a1 a2).objs.size=s.heap.objs.size+2:=by rw [Heap.size_push,y1]
  have y3:(zh3 s.heap k1 k2 a1 a2).objs.size=s.heap.objs.size+3:=by rw [Heap.size_push,y2]
  have y4:(zh4 s.heap k1 k2 a1 a2).objs.size=s.heap.objs.size+4:=by rw [Heap.size_push,y3]
  have up:∀ {h:Heap} {o:Obj} {c:Addr} {u:Obj},h.get? c=some u→(h.push o).get? c=some u:=fun e=>Heap.get?_push_of_some _ e
  have g5:(zh5 s.heap k1 k2 a1 a2).get? (zh4 s.heap k1 k2 a1 a2).objs.size=some _:=Heap.get?_push_size _ rfl
  have g4:(zh5 s.heap k1 k2 a1 a2).get? (zh3 s.heap k1 k2 a1 a2).objs.size=some _:=up (Heap.get?_push_size _ rfl)
  have g3:(zh5 s.heap k1 k2 a1 a2).get? (zh2 s.heap k1 k2 a1 a2).objs.size=some _:=up (up (Heap.get?_push_size _ rfl))
  have g2:(zh5 s.heap k1 k2 a1 a2).get? (zh1 s.heap k1 a1).objs.size=some (Xk k2 a2):=up (up (up (Heap.get?_push_size _ rfl)))
  have g1:(zh5 s.heap k1 k2 a1 a2).get? s.heap.objs.size=some (Xk k1 a1):=up (up (up (up (Heap.get?_push_size _ rfl))))
  show _∧_
  rw [y2,y3,y4] at g5
  rw [y1,y2] at g3
  rw [y3] at g4
  rw [y1] at g2
  rw [y4]
  exact ⟨⟨_,g5,rfl⟩,q _ ⟨g5,g3,_,_,g4⟩ (Tw g1) (Tw g2) fun c o x=>up (up (up (up (up x))))⟩
end
end C
end
noncomputable section
set_option linter.all false
set_option maxRecDepth 100000
set_option maxHeartbeats 4000002
set_option autoImplicit false
namespace C
open PySem PySem.Spec PyProof.Rows L2
theorem Inv.a65 {X:Cx} {pins:List (Addr × Obj)} {σ:L2.St} {H:Hp} {s:Shared} {h':Heap} {t':Nat} {ch:List Addr} {n:Addr} {o:HO} (I:L2.Inv X pins σ H s) (hch:∀ b∈ch,P0 X pins H b)
    (k:∀ b u,b∉ch→s.heap.get? b=some u→h'.get? b=some u) (hp:s.heap.objs.size≤n) (new:yw X.prog X.w (upd H n o) h' n o):L2.Inv X pins σ (upd H n o) { s with heap:=h',toks:=t' }:=by
  have fr:=I.hok.fresh hp
  have nn:∀ b u,s.heap.get? b=some u→b≠n:=fun b u e=>Nat.ne_of_lt (Nat.lt_of_lt_of_le (Heap.lt_size e) hp)
  have nch:∀ b u,H b=some u→b∉ch:=fun b u e z=>by rw [(hch b z).1] at e; cases e
  refine I.step (g':=s.gens) (d':=s.drawn) (ch:=ch) (fun b hb=>?_) (fun b u _ _ hc e _=>k b u hc e) (fun b u _ _ hc e _=>⟨u.slots,k b u hc e⟩) (fun b u _ e z=>by rw [n8 (nn b u e)]; exact z)
    (fun b u hc e=>⟨u,k b u hc e⟩) (fun b xs e=>by rw [n8 (uy e fr)]; exact e) (fun b u xs e=>by rw [n8 (uy e fr)]; exact e) (fun b ps e=>⟨#[],by rw [n8 (uy e fr),e]; simp⟩) (fun m hm=>?_) (fun b u e=>?_) I.bare
  · obtain ⟨f0,f1,f2,f3,f4,f5⟩:=hch b hb
    exact ⟨f3,f1,f4,f5⟩
  · obtain ⟨ob,es,ep,ho,r⟩:=hm
    exact ⟨ob,es,ep,k _ ob (fun z=>(hch _ z).2.1 rfl) ho,r⟩
  · by_cases hb:b=n
    · subst hb; rw [jl] at e; cases e; exact new
    · rw [n8 hb] at e
      refine (I.hok b u e).stay (fun c v hc q=>k c v ?_ q) (fun c q=>by rw [n8 (uy q fr)]; exact q) fun c xs q=>by rw [n8 (uy q fr)]; exact q
      rcases hc with rfl | hc
      · exact nch _ _ e
      · exact nch _ _ hc
theorem Inv.a5n {X:Cx} {pins:List (Addr × Obj)} {σ:L2.St} {H:Hp} {s:Shared} {h':Heap} {t':Nat} {ch:List Addr} (I:L2.Inv X pins σ H s) (hch:∀ b∈ch,P0 X pins H b)
    (k:∀ b u,b∉ch→s.heap.get? b=some u→h'.get? b=some u):L2.Inv X pins σ H { s with heap:=h',toks:=t' }:=by
  have nch:∀ b u,H b=some u→b∉ch:=fun b u e z=>by rw [(hch b z).1] at e; cases e
  refine I.step (g':=s.gens) (d':=s.drawn) (ch:=ch) (fun b hb=>?_) (fun b u _ _ hc e _=>k b u hc e) (fun b u _ _ hc e _=>⟨u.slots,k b u hc e⟩) (fun b u _ e z=>z)
    (fun b u hc e=>⟨u,k b u hc e⟩) (fun b xs e=>e) (fun b u xs e=>e) (fun b ps e=>⟨#[],by rw [e]; simp⟩) (fun m hm=>?_) (fun b u e=>?_) I.bare
  · obtain ⟨f0,f1,f2,f3,f4,f5⟩:=hch b hb
    exact ⟨f3,f1,f4,f5⟩
  · obtain ⟨ob,es,ep,ho,r⟩:=hm
    exact ⟨ob,es,ep,k _ ob (fun z=>(hch _ z).2.1 rfl) ho,r⟩
  · refine (I.hok b u e).stay (fun c v hc q=>k c v ?_ q) (fun c q=>q) fun c xs q=>q
    rcases hc with rfl | hc
    · exact nch _ _ e
    · exact nch _ _ hc
noncomputable def Sq:Bool→PySem.W.Frag→Hp→Addr→List V→Prop
  | true,K,H,a,xs=>SqL K H a xs
  | false,K,H,a,xs=>SqT K H a xs
noncomputable section
variable {X:Cx} {pins:List (Addr × Obj)} {σ:L2.St} {H:Hp} {s:Shared} {a:Addr} {xs ys:List V} {k:Bool}
theorem Sq.row (I:L2.Inv X pins σ H s) (h:Sq k X.K H a xs):∃ its:List Value,Vals xs its∧Bt k s.heap a its.toArray:=by
  cases k with
  | true=>obtain ⟨its,r,p,_⟩:=I.list h; exact ⟨its,r,p.isList⟩
  | false=>obtain ⟨its,r,p,_⟩:=I.tuple h; exact ⟨its,r,p⟩
theorem Sq.inj (I:L2.Inv X pins σ H s) (h:Sq k X.K H a xs) (h':Sq k X.K H a ys):xs=ys:=by
  cases k with
  | true=>exact I.Uk h h'
  | false=>exact I.Ml h h'
theorem Sq.far (I:L2.Inv X pins σ H s) {b:Addr} (h:Sq k X.K H a xs) (f:P0 X pins H b):a≠b:=by
  have held:∀ o,X.K.lookup a=some o→a≠b:=fun o e z=>by
    subst z
    have eb:=I.mod.kin a o e
    rcases f.2.2.2.1 with q | q
    · exact I.ok.noex a o eb q
    · exact absurd (Nat.lt_of_lt_of_le (Heap.lt_size (I.ok.bs a o eb).1) q) (Nat.lt_irrefl _)
  have there:∀ u,Rd H a u→a≠b:=fun u e z=>by
    subst z
    rcases e with e | ⟨o,e⟩ <;> rw [f.1] at e <;> cases e
  cases k with
  | true =>
    rcases h with h | ⟨o,_,_,e,_⟩
    · exact there _ h
    · exact held o e
  | false =>
    rcases h with h | ⟨o,_,_,e,_⟩
    · exact there _ h
    · exact held o e
end
noncomputable def Itz (K:PySem.W.Frag) (k1 k2:Bool) (a1 a2:Addr):It :=
  ⟨fun i H=>∃ xs ys x y,Sq k1 K H a1 xs∧Sq k2 K H a2 ys∧xs[i]? = some x∧ys[i]? = some y,
   fun i H v H'=>∃ p x y,H p=none∧v=.ref p∧H'=upd H p (.tup [x,y])∧(∀ xs,Sq k1 K H a1 xs→xs[i]? = some x)∧∀ ys,Sq k2 K H a2 ys→ys[i]? = some y,
   fun i H=>∃ xs ys,Sq k1 K H a1 xs∧Sq k2 K H a2 ys∧(xs.length≤i∨ys.length≤i)⟩
theorem a1v {P:Program} {w:World} {K:PySem.W.Frag} {elts:List Expr} {x1:Nat} {pos:Pos} {k1 k2:Bool} {a1 a2 z ti to' i1 i2:Addr} (D:Far z ti to' i1 i2) :
    Turn P w K (.Tuple elts x1 pos) (Itz K k1 k2 a1 a2) [z,ti,to',i1,i2] z (fun i h=>Mr h z ti to' i1 i2 .none∧Gf k1 h i1 a1 i∧Gf k2 h i2 a2 i) where
  mem:=by simp
  obj:=fun i h ⟨Z,t1,t2⟩ b hb=>by
    simp only [List.mem_cons,List.not_mem_nil,or_false] at hb -- here
    obtain ⟨zz,its,a,b,kp⟩:=Z
    rcases hb with rfl | rfl | rfl | rfl | rfl
    · exact ⟨_,zz,fun v q=>by cases q⟩
    · exact ⟨_,its,fun v q=>by cases q⟩
    · exact ⟨_,kp,fun v q=>by cases q⟩
    · exact t1.obj
    · exact t2.obj
  keep:=fun i h h' ⟨⟨zz,its,a,b,kp⟩,t1,t2⟩ e=>⟨⟨e z (by simp) _ zz,e ti (by simp) _ its,a,b,e to' (by simp) _ kp⟩,t1.to fun o q=>e i1 (by simp) o q,t2.to fun o q=>e i2 (by simp) o q⟩
  item:=by
    intro X hP hw hK hc i pins s σ H E I hf ⟨Z,t1,t2⟩ ⟨xs,ys,x,y,q1,q2,e1,e2⟩
    subst hP hw hK
    obtain ⟨its1,v1,r1⟩:=q1.row I
    obtain ⟨its2,v2,r2⟩:=q2.row I
    obtain ⟨u1,g1,ru1⟩:=v1.get e1
    obtain ⟨u2,g2,ru2⟩:=v2.get e2
    have f1:∀ b∈[z,ti,to',i1,i2],a1≠b:=fun b hb=>q1.far I (hf b hb)
    have f2:∀ b∈[z,ti,to',i1,i2],a2≠b:=fun b hb=>q2.far I (hf b hb)
    refine a1x D Z t1 t2 r1 r2 ⟨f2 z (by simp),f2 to' (by simp),f2 i1 (by simp),f2 i2 (by simp)⟩ (f1 z (by simp)) (by simpa using g1) (by simpa using g2) fun h' Z' t1' t2' hp kp=>?_
    refine ⟨_,rfl,wpAny_letOwnedTupleGo_zip (s:={ s with heap:=h' }) Z'.zip fun h2 z2 s2=>?_⟩
    obtain ⟨d1,d2,d3,d4,d5,d6,d7,d8,d9,d10⟩:=D.all
    have lt:∀ b∈[z,ti,to',i1,i2],s.heap.objs.size≠b:=fun b hb=>by
      have ob:∃ o,s.heap.get? b=some o:=by
        simp only [List.mem_cons,List.not_mem_nil,or_false] at hb -- here
        obtain ⟨zz,its,a,b',kp⟩:=Z
        rcases hb with rfl | rfl | rfl | rfl | rfl
        · exact ⟨_,zz⟩
        · exact ⟨_,its⟩
        · exact ⟨_,kp⟩
        · exact ⟨_,t1.obj.choose_spec.1⟩
        · exact ⟨_,t2.obj.choose_spec.1⟩
      obtain ⟨o,e⟩:=ob
      exact Nat.ne_of_gt (Heap.lt_size e)
    have pair:IsPair h2 s.heap.objs.size u1 u2:=s2.extBut _ _ (lt z (by simp)) hp
    have J:L2.Inv X pins σ (upd H s.heap.objs.size (.tup [x,y])) { s with heap:=h2,toks:=s.toks }:=Inv.a65 (ch:=[z,ti,to',i1,i2]) I hf (fun b u hb e=>by
      simp only [List.mem_cons,List.not_mem_nil,or_false,not_or] at hb
      exact s2.extBut _ _ hb.1 (kp b u hb.1 hb.2.2.1 hb.2.2.2.1 hb.2.2.2.2 e)) (Nat.le_refl _) ⟨by show 2≤sizeLine; rw [sizeLine_eq]; decide,[u1,u2],.cons ru1 (.cons ru2 .nil),⟨_,pair,rfl,rfl,0,rfl⟩⟩
    refine ⟨.ref s.heap.objs.size,_,J,rfl,⟨s.heap.objs.size,x,y,I.hok.fresh (Nat.le_refl _),rfl,rfl,fun xs' h=>by rw [h.inj I q1]; exact e1,fun ys' h=>by rw [h.inj I q2]; exact e2⟩,?_,fun b hb=>?_⟩
    · obtain ⟨_,its,a,b,kk⟩:=Z'
      exact ⟨⟨z2,s2.extBut _ _ d1 its,a,b,s2.extBut _ _ d2 kk⟩,t1'.to fun o q=>s2.extBut _ _ d3 q,t2'.to fun o q=>s2.extBut _ _ d4 q⟩
    · rw [n8 (Ne.symm (lt b hb))]; exact (hf b hb).1
  done:=by
    intro X hP hw hK hc i pins s σ H E I hf ⟨Z,t1,t2⟩ ⟨xs,ys,q1,q2,e⟩
    subst hP hw hK
    obtain ⟨its1,v1,r1⟩:=q1.row I
    obtain ⟨its2,v2,r2⟩:=q2.row I
    have f1:∀ b∈[z,ti,to',i1,i2],a1≠b:=fun b hb=>q1.far I (hf b hb)
    have f2:∀ b∈[z,ti,to',i1,i2],a2≠b:=fun b hb=>q2.far I (hf b hb)
    refine a1m (I.ok.hd hc) D Z t1 t2 r1 r2 ⟨f2 z (by simp),f2 to' (by simp),f2 i1 (by simp),f2 i2 (by simp)⟩ (f1 z (by simp)) ?_ fun h' kp=>⟨rfl,Inv.a5n (t':=s.toks) (ch:=[z,ti,to',i1,i2]) I hf fun b u hb e=>?_⟩
    · have l1:=v1.length
      have l2:=v2.length
      rcases e with e | e
      · exact .inl (by simp; omega)
      · exact .inr (by simp; omega)
    · simp only [List.mem_cons,List.not_mem_nil,or_false,not_or] at hb
      exact kp b u hb.1 hb.2.2.1 hb.2.2.2.1 hb.2.2.2.2 e
  self:=fun _ _ _ _ _ ⟨Z,_⟩ h=>wpAny_pyIter_zip Z.zip h
theorem a4o (n:Nat):Far (n+4) (n+2) (n+3) n (n+1):=⟨by
  have h1:n+4≠n+2:=by omega
  have h2:n+4≠n+3:=by omega
  have h3:n+4≠n:=by omega
  have h4:n+4≠n+1:=by omega
  have h5:n+2≠n+3:=by omega
  have h6:n+2≠n:=by omega
  have h7:n+2≠n+1:=by omega
  have h8:n+3≠n:=by omega
  have h9:n+3≠n+1:=by omega
  have h10:n≠n+1:=by omega
  exact List.nodup_cons.mpr ⟨by simp only [List.mem_cons,List.not_mem_nil,or_false,not_or]; exact ⟨h1,h2,h3,h4⟩,List.nodup_cons.mpr ⟨by simp only [List.mem_cons,List.not_mem_nil,or_false,not_or]; exact ⟨h5,h6,h7⟩,List.nodup_cons.mpr ⟨by simp only [List.mem_cons,List.not_mem_nil,or_false,not_or]; exact ⟨h8,h9⟩,List.nodup_cons.mpr ⟨by simp only [List.mem_cons,List.not_mem_nil,or_false]; exact h10,List.nodup_cons.mpr ⟨by simp,.nil⟩⟩⟩⟩⟩⟩
noncomputable def iZp (K:PySem.W.Frag) (ta:TA):TI:=fun σ H R=>ta σ H fun vs H1=>∃ k1 k2 a1 a2 xs ys,vs=[.ref a1,.ref a2]∧Sq k1 K H1 a1 xs∧Sq k2 K H1 a2 ys∧R (Itz K k1 k2 a1 a2) H1
noncomputable section
variable {X:Cx} {B:Bas} {a b:Expr} {m m1 m2:M T} {pos p:Pos} {elts:List Expr} {x1:Nat} {tpos:Pos}
theorem a99 {ta:TA} (hg:Gl X "zip") (hm:X.mg "zip" = none) (ha:PA X [a,b] ta) (hs:starEach [a,b] X.env=[(false,eval a X.env),(false,eval b X.env)]:=by rfl) (hs2:starEach [b] X.env=[(false,eval b X.env)]:=by rfl) :
    PI X (.Tuple elts x1 tpos) (.Call (.Name "zip" p) [a,b] [] pos) (iZp X.K ta):=by
  intro pins s σ H R I h
  refine Call_ (Jc I hg hm boot_zip (PyProof.Rows.callWith_type1 (thn (ha pos pins s σ H _ I h) fun us s1 z0=>?_) (by rw [hs,hs2]) (by rw [hs2]; rfl)))
  obtain ⟨vs,H1,I1,r1,q1⟩:=z0
  obtain ⟨k1,k2,a1,a2,xs,ys,e,w1,w2,q⟩:=q1
  subst e
  cases r1 with
  | cons r rr =>
    cases rr with
    | cons r' rr =>
      cases rr
      cases r
      cases r'
      obtain ⟨its1,v1,r1⟩:=w1.row I1
      obtain ⟨its2,v2,r2⟩:=w2.row I1
      refine a0s r1 r2 fun h' Z t1 t2 kp=>wpAny_pyIter_zip Z.zip ?_
      have D:Far (s1.heap.objs.size+4) (s1.heap.objs.size+2) (s1.heap.objs.size+3) s1.heap.objs.size (s1.heap.objs.size+1):=a4o s1.heap.objs.size
      refine ⟨_,_,_,_,H1,rfl,I1.kept (t':=s1.toks) kp,a1v D,⟨Z,t1,t2⟩,fun b hb=>?_,q⟩
      have hle:s1.heap.objs.size≤b:=by
        simp only [List.mem_cons,List.not_mem_nil,or_false] at hb -- here
        rcases hb with rfl | rfl | rfl | rfl | rfl
        · exact Nat.le_add_right _ 4
        · exact Nat.le_add_right _ 2
        · exact Nat.le_add_right _ 3
        · exact Nat.le_refl _
        · exact Nat.le_add_right _ 1
      exact I1.a85 hle (I1.hok.fresh hle)
theorem U5 {ts:List T} {s s':Sta} (h:a4c m1 m2 s=some (ts,s')):∃ t u s1 xs ys,m1 s=some (t,s1)∧m2 s1=some (u,s')∧iy t=some xs∧iy u=some ys∧xs.length<lim∧ys.length<lim∧ts=a3i xs ys:=by
  unfold a4c at h
  split at h
  · rename_i t s1 e1
    split at h
    · rename_i u s2 e2
      split at h
      · rename_i xs ys e3 e4
        split at h
        · rename_i hl; cases h; exact ⟨t,u,s1,xs,ys,e1,e2,e3,e4,hl.1,hl.2,rfl⟩
        · cases h
      · cases h
    · cases h
  · cases h
theorem a7c:∀ st ts st',a4c m1 m2 st=some (ts,st')→ts.length≤sizeLine:=fun st ts st' e=>by
  obtain ⟨t,u,s1,xs,ys,_,_,_,_,l1,_,rfl⟩:=U5 e
  unfold a3i
  rw [List.length_map,List.length_zip]
  have:=vh
  omega
theorem a0x {xs ys:List T} {i:Nat} {t:T} (h:(a3i xs ys)[i]? = some t):∃ x y,xs[i]? = some x∧ys[i]? = some y∧t=.tup [x,y]:=by
  unfold a3i at h
  rw [List.getElem?_map] at h
  obtain ⟨p,e,rfl⟩:=Option.map_eq_some_iff.mp h
  obtain ⟨e1,e2⟩:=List.getElem?_zip_eq_some.mp e
  exact ⟨p.1,p.2,e1,e2,rfl⟩
theorem Wb {K:PySem.W.Frag} {S:Hp} {as:List Addr} {v:V} {t:T} {xs:List T} (r:Rep K S as v t) (e:iy t=some xs):∃ k a vs,v=.ref a∧Sq k K S a vs∧ux K S as vs xs∧(k=true∧t=.lst xs∨k=false∧t=.tup xs):=by
  cases r with
  | @lst a vs ts g1 g2=>simp only [iy] at e; cases e; exact ⟨true,a,vs,rfl,g1,g2,.inl ⟨rfl,rfl⟩⟩
  | @tup a vs ts g1 g2=>simp only [iy] at e; cases e; exact ⟨false,a,vs,rfl,g1,g2,.inr ⟨rfl,rfl⟩⟩
  | _=>simp only [iy,reduceCtorEq] at e
theorem Sq.mono {k:Bool} {K:PySem.W.Frag} {S H:Hp} {a:Addr} {vs:List V} (e:Same S H) (h:Sq k K S a vs):Sq k K H a vs:=by
  cases k with
  | true=>exact mq e h
  | false=>exact qt e h
theorem Xa {K:PySem.W.Frag} {S:Hp} {as:List Addr} {a:Addr} {t:T} {xs:List T} {k:Bool} (r:Rep K S as (.ref a) t) (e:k=true∧t=.lst xs∨k=false∧t=.tup xs):∃ vs,Sq k K S a vs∧ux K S as vs xs:=by
  rcases e with ⟨rfl,rfl⟩ | ⟨rfl,rfl⟩
  · cases r with
    | lst g1 g2=>exact ⟨_,g1,g2⟩
  · cases r with
    | tup g1 g2=>exact ⟨_,g1,g2⟩
theorem a9g (hg:Gl X "zip") (hm:X.mg "zip" = none) (h1:PE X a (tOf X.K B m1)) (h2:PE X b (tOf X.K B m2)) (hs:starEach [a,b] X.env=[(false,eval a X.env),(false,eval b X.env)]:=by rfl) (hs2:starEach [b] X.env=[(false,eval b X.env)]:=by rfl) :
    PI X (.Tuple elts x1 tpos) (.Call (.Name "zip" p) [a,b] [] pos) (iOf X.K B (a4c m1 m2)):=by
  intro pins s σ H R I hw
  refine a99 (ta:=V2 (tOf X.K B m1) (V2 (tOf X.K B m2) a80)) hg hm (sy h1 (sy h2 vq (by rw [hs2]; rfl)) (by rw [hs,hs2])) hs hs2 pins s σ H R I ?_
  obtain ⟨st,ps,S,as,Rl,ts,st',e,hz,q⟩:=hw
  obtain ⟨t,u,s1,xs,ys,e1,e2,e3,e4,l1,l2,rfl⟩:=U5 e
  refine ⟨st,ps,S,as,Rl,t,s1,e1,fun v H1 S1 as1 R1=>⟨s1,_,S1,as1,R1,u,st',e2,fun v2 H2 S2 as2 R2=>?_⟩⟩
  obtain ⟨k1,a1,vs1,rfl,w1,p1,c1⟩:=Wb R2.top2 e3
  obtain ⟨k2,a2,vs2,rfl,w2,p2,c2⟩:=Wb R2.top e4
  refine ⟨k1,k2,a1,a2,vs1,vs2,rfl,w1.mono R2.sub,w2.mono R2.sub,q _ H2 S2 as2 [(.ref a2,u),(.ref a1,t)] R2 fun S3 as3 H3 hp hh=>?_⟩
  obtain ⟨us1,y1,z1⟩:=Xa (hp (.ref a1,t) (by simp)) c1
  obtain ⟨us2,y2,z2⟩:=Xa (hp (.ref a2,u) (by simp)) c2
  refine ⟨fun i tt et=>?_,fun i hi=>⟨us1,us2,y1.mono hh,y2.mono hh,?_⟩⟩
  · obtain ⟨x,y,f1,f2,rfl⟩:=a0x et
    obtain ⟨vx,gx,rx⟩:=z1.get f1
    obtain ⟨vy,gy,ry⟩:=z2.get f2
    refine ⟨⟨us1,us2,vx,vy,y1.mono hh,y2.mono hh,gx,gy⟩,fun v H' z0=>?_⟩
    obtain ⟨pp,x',y',hn,hv,hH,b1,b2⟩:=z0
    have c1:=b1 _ (y1.mono hh)
    have c2:=b2 _ (y2.mono hh)
    rw [gx] at c1; rw [gy] at c2
    cases c1; cases c2
    subst hv hH
    have x:=Ext.laid hh hn (.tup [vx,vy])
    exact ⟨_,x,.tup (SqT.of jl) (.cons (rx.mono x.s nol) (.cons (ry.mono x.s nol) .nil))⟩
  · rw [z1.length,z2.length]
    unfold a3i at hi
    rw [List.length_map,List.length_zip] at hi
    omega
end
end C
end
noncomputable section
set_option linter.all false
set_option maxRecDepth 100000
set_option maxHeartbeats 4000002
set_option autoImplicit false
namespace C
open PySem PySem.Spec PyProof.Rows L2
noncomputable section
variable {X:Cx}
theorem Xy {pins:List (Addr × Obj)} {σ:L2.St} {H S:Hp} {s:Shared} {as:List Addr} {A:Around} (I:L2.Inv X pins σ H s) (sub:Same S H) (hu:A.units+40<cLine) {x:V} {t:T} {v:Value} {dx:PyData} (hx:Rep X.K S as x t) (rx:RelV x v) (ex:dat t=some dx) :
    ∀ {vs:List V} {ts:List T} {us:List Value} {d j:Nat},ux X.K S as vs ts→Vals vs us→a0m t ts d=some j→d≤j∧∃ h:j - d<us.length,a6t s.heap dx us[j - d]=true∧∀ m (hm:m<us.length),m<j - d→a6t s.heap dx us[m]=false
  | _,_,_,_,_,.nil,r,e=>by simp only [a0m] at e; cases e
  | _,_,_,d,j,.cons h q,r,e=>by
    cases r with
    | @cons _ u1 _ us1 r1 r2 =>
      simp only [a0m] at e
      split at e
      · rename_i he
        cases e
        obtain ⟨dy,dx',f1,f2,hd,hv⟩:=Ib he
        rw [ex] at f2; cases f2
        obtain ⟨b1,x1⟩:=h.reads I sub f1 r1
        refine ⟨Nat.le_refl _,⟨by simp,?_,fun m hm hlt=>by (clear x1 hv hd f1 he r2 r1 q h ex rx hx hu sub I; omega)⟩⟩
        simp only [Nat.sub_self,List.getElem_cons_zero]
        rw [Pu x1 (Br _ f1),← hv]
      · rename_i he
        obtain ⟨dy,dx',f1,f2,hd,hv⟩:=Ib he
        rw [ex] at f2; cases f2
        obtain ⟨b1,x1⟩:=h.reads I sub f1 r1
        obtain ⟨g1,g2,g3,g4⟩:=Xy I sub hu hx rx ex q r2 e
        have ej:j - d=(j - (d+1))+1:=by (clear g4 g3 x1 hv hd f1 e he r2 r1 q h ex rx hx hu sub I; omega)
        refine ⟨by (clear g4 g3 g1 x1 hv hd f1 e he r2 r1 q h ex rx hx hu sub I; omega),⟨by rw [ej]; simpa using g2,?_,fun m hm hlt=>?_⟩⟩
        · simp only [ej,List.getElem_cons_succ]; exact g3
        · cases m with
          | zero=>simp only [List.getElem_cons_zero]; rw [Pu x1 (Br _ f1),← hv]
          | succ m=>simp only [List.getElem_cons_succ]; exact g4 m (by simpa using hm) (by (clear hm ej g4 g3 g1 x1 hv hd f1 e he r2 r1 q h ex rx hx hu sub I; omega))
      · cases e
noncomputable def a8o (K:PySem.W.Frag):V→List V→Hp→VK→Prop:=fun x vs H Q=>∃ S as l ts y t j b,x=.ref l∧vs=[y]∧Same S H∧Rep K S as (.ref l) (.lst ts)∧Rep K S as y t∧(dat t).isSome=true∧inL t ts=some b∧a0m t ts 0=some j∧ts.length<lim∧Q (.int (j:Nat)) H
theorem a1t (hu:X.A.units+64<cLine):MtM X "list.index" (a8o X.K):=by
  intro pins s σ H x vs v us Q I rx rv z8
  obtain ⟨S,as,l,ts,y,t,j,b,e1,e2,sub,rl,ry,hd,hi,hj,hl,q⟩:=z8
  subst e1 e2
  cases rx
  obtain ⟨u,rfl,ru⟩:=rv.one
  obtain ⟨dx,ex⟩:=Option.isSome_iff_exists.mp hd
  have hu1:X.A.in1.units+40<cLine:=by show X.A.units+1+40<cLine; (clear ex rv ru q hl hj hi hd ry rl sub I; omega)
  cases rl with
  | @lst _ vs _ g1 g2 =>
    obtain ⟨its,r,⟨⟨cls2,dd2,data2,sl2⟩,n2,ho2,hc2,hd02,hd2⟩,_⟩:=I.list (mq sub g1)
    simp only at hc2 hd2
    subst hc2 hd2
    obtain ⟨i1,i2⟩:=a3d I sub hu1 ry ru ex g2 r hi
    obtain ⟨_,c1,c2,c3⟩:=Xy I sub hu1 ry ru ex g2 r hj
    have ln:its.length=ts.length:=by rw [← r.length]; exact g2.length
    refine call_meets F.slot_list_index ⟨_,ho2,rfl⟩ F.entry_list_index (F.args_list_index_2 _ _)
      (SeqAt.list_indexAt l its.toArray n2 dd2 sl2 u (a6t s.heap dx) j (by simpa using c1) (by have:ts.length<1000000:=hl; simp at c1; (clear c3 c2 i2 i1 hd02 ho2 r g2 g1 hu1 ex rv ru q hl hj hi hd ry sub I hu; omega)) (by simpa using c2) (fun m hm hlt=>by simpa using c3 m (by simpa using hm) hlt)) ⟨ho2,fun y hy=>i1 y (by simpa using hy),?_⟩
    exact ⟨.int j,H,I.tok _,⟨_,rfl⟩,q⟩
variable {B:Bas} {o e:Expr} {m1 m2:M T} {apos cpos:Pos}
theorem V8 {x y w:T} (h:J6 x y=some w):∃ xs b j,x=.lst xs∧xs.length<lim∧(dat y).isSome=true∧inL y xs=some b∧a0m y xs 0=some j∧w=.int (j:Nat):=by
  unfold J6 at h
  split at h
  · split at h
    · rename_i hc
      obtain ⟨j,e1,e2⟩:=Option.map_eq_some_iff.mp h
      obtain ⟨b,hb⟩:=Option.isSome_iff_exists.mp hc.2.2
      exact ⟨_,b,j,rfl,hc.1,hc.2.1,hb,e1,e2.symm⟩
    · cases h
  · cases h
theorem a2p (hu:X.A.units+64<cLine) (ho:PE X o (tOf X.K B m1)) (he:PE X e (tOf X.K B m2))
    (hbase:attributeBase o "index" X.env (eval o X.env)=eval o X.env:=by rfl)
    (hfew:((backTo cpos (starEach [e] X.env)).all (fun x=>!x.1)&&(backToKw cpos (keywordEach [] X.env)).all (fun x=>x.1.isSome)
      && decide ([e].length+([]:List Keyword).length+(if ([]:List Keyword).isEmpty then 0 else 1)<30))=true:=by rfl)
    (hline:(apos.endLine==cpos.line)=true:=by rfl) (hs:starEach [e] X.env=(false,eval e X.env)::starEach [] X.env:=by rfl) (hplain:(backTo cpos (starEach [] X.env)).any (·.1)=false:=by rfl) :
    PE X (.Call (.Attribute o "index" apos) [e] [] cpos) (tOf X.K B (mOp J6 m1 m2)) :=
  (Ew F.plainAttrs_list F.slot_list_index F.type_list_index (a1t hu) ho (sy he vq hs) hbase hfew hline hs hplain).imp fun σ H Q z9=>by
    obtain ⟨st,ps,S,as,R,t,st',e,q⟩:=z9
    obtain ⟨t1,s1,t2,e1,e2,e3⟩:=M6 e
    obtain ⟨xs,b,j,rfl,hl,hd,hi,hj,rfl⟩:=V8 e3
    refine ⟨st,ps,S,as,R,_,s1,e1,fun v H1 S1 as1 R1=>?_⟩
    have top:=R1.top
    cases top with
    | @lst a vs _ g1 g2 =>
      refine ⟨.inl ⟨rfl,_,mq R1.sub g1⟩,s1,_,S1,as1,R1,t2,st',e2,fun u H2 S2 as2 R2=>?_⟩
      exact ⟨S2,as2,a,xs,u,t2,j,b,rfl,rfl,R2.sub,R2.top2,R2.top,hd,hi,hj,hl,q _ H2 S2 as2 (R2.drop.drop.push (.int _))⟩
end
end C
end
noncomputable section
set_option linter.all false
set_option maxRecDepth 100000
set_option maxHeartbeats 4000002
set_option autoImplicit false
namespace C
open PySem PySem.Spec PyProof.Rows L2
theorem S9 (n d:Nat) (o:Option Int):sIx n d o=HT.sIx n d o:=by cases o <;> rfl
inductive oOf (K:PySem.W.Frag) (B:Bas) (m:M (Option Int)) (σ:L2.St) (H:Hp) (Q:Option Int→Hp→Prop):Prop
  | mk (st:Sta) (ps:List (V × T)) (S:Hp) (as:List Addr) (R:Rel K B st σ H ps S as) (o:Option Int) (st':Sta) (e:m st=some (o,st')) (q:∀ H' S' as',Rel K B st' σ H' ps S' as'→Q o H')
noncomputable section
variable {X:Cx} {B:Bas} {a e:Expr} {m:M T} {ml mh:M (Option Int)} {lo hi:Option Expr} {pos p2:Pos}
theorem a6f:PO X none (oOf X.K B a4d):=fun pins s σ H Q I ⟨st,ps,S,as,R,o,st',e,q⟩=>a5e pins s σ H Q I (by cases e; exact q H S as R)
theorem Pq (h:PE X e (tOf X.K B m)):PO X (some e) (oOf X.K B (Ov m)):=fun pins s σ H Q I z9=>a68 h pins s σ H Q I (by
  obtain ⟨st,ps,S,as,R,o,st',eo,q⟩:=z9
  unfold Ov at eo
  split at eo
  · rename_i i s1 e1
    cases eo
    refine ⟨st,ps,S,as,R,.int i,_,e1,fun v H1 S1 as1 R1=>?_⟩
    cases R1.top
    exact ⟨i,rfl,q H1 S1 as1 R1.drop⟩
  · cases eo)
theorem Vt {s s':Sta} {v:T} (h:Gu m ml mh s=some (v,s')):∃ t s1 l s2 u,m s=some (t,s1)∧ml s1=some (l,s2)∧mh s2=some (u,s')∧a9j l u t=some v:=by
  unfold Gu at h
  split at h
  · rename_i t s1 e1
    split at h
    · rename_i l s2 e2
      split at h
      · rename_i u s3 e3
        split at h
        · rename_i w e4; cases h; exact ⟨t,s1,l,s2,u,e1,e2,e3,e4⟩
        · cases h
      · cases h
    · cases h
  · cases h
theorem ux.takes {K:PySem.W.Frag} {S:Hp} {as:List Addr}:∀ (n:Nat) {vs:List V} {ts:List T},ux K S as vs ts→ux K S as (vs.take n) (ts.take n)
  | 0,_,_,_=>.nil
  | _+1,_,_,.nil=>.nil
  | n+1,_,_,.cons h r=>.cons h (ux.takes n r)
theorem Td {K:PySem.W.Frag} {S:Hp} {as:List Addr} {vs:List V} {ts:List T} (r:ux K S as vs ts) (lo hi:Option Int):ux K S as (Zv vs lo hi) (a77 ts lo hi):=by
  unfold Zv a77
  rw [S9,S9,r.length]
  exact ux.takes _ (r.drop _)
theorem T5 (ha:PE X a (tOf X.K B m)) (hl:PO X lo (oOf X.K B ml)) (hh:PO X hi (oOf X.K B mh)):PE X (.Subscript a (.Slice lo hi none p2) pos) (tOf X.K B (Gu m ml mh)) :=
  (a1g (a4l.or a82) ha hl hh).imp fun σ H Q z9=>by
    obtain ⟨st,ps,S,as,R,t,st',e,q⟩:=z9
    obtain ⟨t1,s1,l,s2,u,e1,e2,e3,e4⟩:=Vt e
    refine ⟨st,ps,S,as,R,t1,s1,e1,fun v H1 S1 as1 R1=>⟨s1,_,S1,as1,R1,l,s2,e2,fun H2 S2 as2 R2=>⟨s2,_,S2,as2,R2,u,st',e3,fun H3 S3 as3 R3=>?_⟩⟩⟩
    have top:=R3.top
    cases top with
    | @lst b vs ts g1 g2 =>
      simp only [a9j] at e4; cases e4
      refine .inl ⟨b,vs,rfl,mq R3.sub g1,fun p hp=>?_⟩
      have x:=Ext.laid R3.sub hp (.lst (Zv vs l u))
      exact q _ _ _ _ ((R3.drop.ext x).push (.lst (SqL.of jl) ((Td g2 l u).mono x.s nol)))
    | @tup b vs ts g1 g2 =>
      simp only [a9j] at e4
      split at e4
      · cases e4
      · rename_i hw
        cases e4
        refine .inr ⟨b,vs,rfl,qt R3.sub g1,?_,fun p hp=>?_⟩
        · rw [S9,S9,← g2.length] at hw; exact hw
        · have x:=Ext.laid R3.sub hp (.tup (Zv vs l u))
          exact q _ _ _ _ ((R3.drop.ext x).push (.tup (SqT.of jl) ((Td g2 l u).mono x.s nol)))
    | _=>exact nu e4
end
noncomputable section
variable {prog:Program} {w:World} {A:Around} {E:Value→Shared→Prop} {s:Shared}
theorem Oi {sl:Addr} {t:Tok} {n:Nat} {Q:Int × Int × Nat→Shared→Prop} (hs:s.heap.IsSliceOf sl .none .none (.int (-1) t)) (h:Q ((n:Int) - 1,-1,n) s):wpAny (model prog w) A (Builtin.Slice.sliceApplied (.ref sl) (pure (n:Int))) Q E s:=by
  obtain ⟨os,g1,g2,g3⟩:=id hs
  have ea:Builtin.Slice.sliceAdjust none none (-1) (n:Int)=((n:Int) - 1,-1):=by
    unfold Builtin.Slice.sliceAdjust
    simp
  have en:Builtin.Slice.slicePlaces ((n:Int) - 1) (-1) (-1)=n:=by
    unfold Builtin.Slice.slicePlaces
    have h1:¬ ((-1:Int) > 0):=by decide -- here
    rw [if_neg h1]
    split
    · first
      | (simp; done)
      | (simp; omega)
    · (clear h1 ea g3 g2 g1 h hs; omega)
  unfold Builtin.Slice.sliceApplied Builtin.Slice.sliceFields
  refine wpAny_bind (wpAny_bind (wpAny_field g1 g3 (x:=.none) rfl (wpAny_bind (wpAny_field g1 g3 (x:=.none) rfl (wpAny_bind (wpAny_field g1 g3 (x:=.int (-1) t) rfl (wpAny_pure ?_)))))))
  refine wpAny_bind (HT.Ce (.int (-1) t) ?_)
  refine (show wpAny _ _ (if ((-1:Int)==0)=true then _ else _) _ _ s from ?_)
  rw [if_neg (by decide)]
  refine wpAny_bind (HT.Ce .none (wpAny_bind (HT.Ce .none (wpAny_bind (wpAny_pure ?_)))))
  refine (show wpAny _ _ (match Builtin.Slice.sliceAdjust none none (-1) (n:Int) with | (lo,hi)=>pure (lo,(-1:Int),Builtin.Slice.slicePlaces lo hi (-1))) _ _ s from ?_)
  rw [ea]
  refine (show wpAny _ _ (pure ((n:Int) - 1,(-1:Int),Builtin.Slice.slicePlaces ((n:Int) - 1) (-1) (-1))) _ _ s from ?_)
  rw [en]
  exact wpAny_pure h
theorem a8r {α β:Type} {f g:α→Option β}:∀ {l:List α},(∀ a∈l,f a=g a)→l.filterMap f=l.filterMap g
  | [],_=>rfl
  | a::l,h=>by rw [List.filterMap_cons,List.filterMap_cons,h a List.mem_cons_self,a8r fun b hb=>h b (List.mem_cons_of_mem _ hb)]
theorem Y9 (xs:Array Value):((List.range xs.size).filterMap fun (m:Nat)=>xs[(((xs.size:Nat):Int) - 1+(m:Int) * (-1)).toNat]?)=xs.toList.reverse:=by
  have e:∀ m∈List.range xs.size,xs[(((xs.size:Nat):Int) - 1+(m:Int) * (-1)).toNat]? = some (xs.toList.reverse.getD m .none):=fun m hm=>by
    have hm:=List.mem_range.mp hm
    have e1:(((xs.size:Nat):Int) - 1+(m:Int) * (-1)).toNat=xs.size - 1 - m:=by omega
    rw [e1,List.getD_eq_getElem?_getD,List.getElem?_reverse (by rw [Array.length_toList]; exact hm),Array.getElem?_toList,Array.length_toList,Array.getElem?_eq_getElem (by omega)]
    rfl
  rw [a8r e]
  rw [show (fun (x:Nat)=>some (xs.toList.reverse.getD x Value.none))=some ∘ fun x=>xs.toList.reverse.getD x .none from rfl,List.filterMap_eq_map]
  apply List.ext_getElem
  · simp
  · intro i h1 h2
    simp [List.getD_eq_getElem?_getD,List.getElem?_eq_getElem h2]
theorem Us {t sl:Addr} {k:Tok} {items:Array Value} {Q:Value→Shared→Prop} (ht:IsTup s.heap t items) (hs:s.heap.IsSliceOf sl .none .none (.int (-1) k))
    (h:Q (.ref s.heap.objs.size) { s with heap:=s.heap.push { cls:=.type "tuple",data:=.seq items.toList.reverse.toArray } }) (hsz:items.size≤sizeLine):wpAny (model prog w) A (getItem (.ref t) (.ref sl)) Q E s:=by
  have hz:sizeOk (.seq items.toList.reverse.toArray):=by
    show items.toList.reverse.toArray.size≤sizeLine
    rw [List.size_toArray,List.length_reverse,Array.length_toList]; exact hsz
  obtain ⟨os,g1,g2,g3⟩:=id hs
  have ty:s.TypeIs (.ref sl) "slice" := ⟨os,g1,g2⟩
  unfold getItem
  try with_reducible refine wpAny_holding ?_
  first | refine wpAny_bind (wpAny_pure ?_) | skip
  refine wpAny_bind (wpAny_sequenceKey ht.typeIs (by decide) (wpAny_bind (wpAny_callSpecial?_slot (name:=Str.ofString "__getitem__") ht.typeIs PyProof.Rows.slot_tuple_getitem
    (wpAny_call_entry PyProof.Rows.slot_tuple_getitem ht.typeIs entry_tuple_getitem ?_ (args_tuple_getitem _ _)))))
  refine (show wpAny _ _ (Builtin.Tuple.tupleItemsOf (.ref t) >>= _) _ _ s from wpAny_bind (tupleItemsOf_ ht (wpAny_bind (wpAny_typeOf ty ?_))))
  rw [if_pos (by decide)]
  refine wpAny_bind (Oi hs ?_)
  refine (show wpAny _ _ (if ((((items.size:Nat):Int) - 1)==0&&(-1:Int)==1&&items.size==items.size)=true then _ else _) _ _ s from ?_)
  rw [if_neg (by rw [show ((-1:Int)==1)=false from rfl,Bool.and_false,Bool.false_and]; exact Bool.false_ne_true),Y9]
  first
    | exact wpAny_bind (m:=Builtin.Tuple.tupleExact _) (wpAny_newObj_type (wpAny_pure ⟨_,rfl,wpAny_pure h⟩) hz)
    | exact wpAny_bind (m:=Builtin.Tuple.tupleExact _) (wpAny_newObj_type (wpAny_bind (wpAny_pure (wpAny_pure ⟨_,rfl,wpAny_pure h⟩))) hz)
    | exact wpAny_bind (wpAny_bind (m:=Builtin.Tuple.tupleExact _) (wpAny_newObj_type (wpAny_pure (wpAny_pure ⟨_,rfl,wpAny_pure h⟩)) hz))
    | exact wpAny_bind (wpAny_bind (m:=Builtin.Tuple.tupleExact _) (wpAny_newObj_type (wpAny_pure ⟨_,rfl,wpAny_pure h⟩) hz))
end
noncomputable section
variable {X:Cx} {B:Bas} {e:Expr} {te:TE} {m m1 m2:M T} {pos p p2 p3 p4:Pos} {j:Nat}
noncomputable def aau (K:PySem.W.Frag):V→Hp→VK→Prop:=fun x H Q=>∃ a xs,x=.ref a∧((SqL K H a xs∧∀ p,H p=none→Q (.ref p) (upd H p (.lst xs.reverse)))∨(SqT K H a xs∧∀ p,H p=none→Q (.ref p) (upd H p (.tup xs.reverse))))
theorem a6p:PE X (.UnaryOp .USub (.Constant (.int 1) j p4) p3) (tC (.int (-1))):=(a8y a3c a3v).imp fun σ H Q q=>⟨1,rfl,q⟩
theorem Zi (he:PE X e te):PE X (.Subscript e (.Slice none none (some (.UnaryOp .USub (.Constant (.int 1) j p4) p3)) p2) pos) (fun σ H Q=>te σ H fun x H1=>aau X.K x H1 Q):=by
  intro pins s σ H Q I h
  refine Subscript_ (thn (he pins s σ H _ I h) fun v s1 z0=>?_)
  obtain ⟨x,H1,I1,r1,q1⟩:=z0
  refine wpAny_Slice ?_
  rw [evalPart_none]
  refine wpAny_pure (wpAny_pure ?_) -- here
  rw [evalPart_some]
  refine thn (a6p pins s1 σ H1 (fun v H2=>v=.int (-1)∧H2=H1) I1 ⟨rfl,rfl⟩) fun vk s2 z0=>?_
  obtain ⟨y,H2,I2,r2,ey,eH⟩:=z0
  subst ey eH
  obtain ⟨t,rfl⟩:=r2
  obtain ⟨a,xs,rfl,hx⟩:=q1
  cases r1
  have I4:L2.Inv X pins σ H2 { s2 with heap:=s2.heap.push { cls:=.type "slice",data:=.fields #[.none,.none,.int (-1) t] } }:=I2.kept (t':=s2.toks) fun b ob q=>Heap.get?_push_of_some _ q
  rcases hx with ⟨hx,q⟩ | ⟨hx,q⟩
  · obtain ⟨its,r,ht,hz⟩:=I4.list hx
    have hlen:=r.length
    refine tail_any (ops:=[.ref a,.ref s2.heap.objs.size]) (T := "list") ht.isList.typeIs slot_list_getitem.lookup ?_ (by with_unfolding_all rfl)
    refine wpAny_getItem_list_slice ht.isList (Heap.IsSliceOf.new ..) .none .none (.int (-1) t) (by decide) ?_ (by rw [List.size_toArray] <;> (clear ht r q hx I4 I1 I2 h I he; omega))
    rw [PySem.W.krv_pick]
    refine ⟨.ref _,_,I4.laid (t':=s2.toks) (o:=.lst xs.reverse) (fun b ob q=>Heap.get?_push_of_some _ q) (Nat.le_refl _) ?_,rfl,q _ (I4.hok.fresh (Nat.le_refl _))⟩
    exact ⟨by rw [List.length_reverse]; exact hz,_,0,by simpa using r.reverse,Heap.get?_push_size _ rfl⟩
  · obtain ⟨its,r,ht,hz⟩:=I4.tuple hx
    have hlen:=r.length
    refine tail_any (ops:=[.ref a,.ref s2.heap.objs.size]) (T := "tuple") ht.typeIs PyProof.Rows.slot_tuple_getitem.lookup ?_ (by with_unfolding_all rfl)
    refine Us ht (Heap.IsSliceOf.new ..) ?_ (by rw [List.size_toArray] <;> (clear ht r q hx I4 I1 I2 h I he; omega))
    refine ⟨.ref _,_,I4.laid (t':=s2.toks) (o:=.tup xs.reverse) (fun b ob q=>Heap.get?_push_of_some _ q) (Nat.le_refl _) ?_,rfl,q _ (I4.hok.fresh (Nat.le_refl _))⟩
    exact ⟨by rw [List.length_reverse]; exact hz,its.reverse,r.reverse,a07.new _ its.reverse.toArray⟩
theorem a5q (ha:PE X e (tOf X.K B m)):PE X (.Subscript e (.Slice none none (some (.UnaryOp .USub (.Constant (.int 1) j p4) p3)) p2) pos) (tOf X.K B (mUn a2i m)) :=
  (Zi ha).imp fun σ H Q z9=>by
    obtain ⟨st,ps,S,as,R,t,st',e,q⟩:=z9
    obtain ⟨t1,e1,e3⟩:=Qn e
    refine ⟨st,ps,S,as,R,t1,st',e1,fun v H1 S1 as1 R1=>?_⟩
    have top:=R1.top
    cases top with
    | @lst a vs ts g1 g2 =>
      simp only [a2i] at e3; cases e3
      refine ⟨a,vs,rfl,.inl ⟨mq R1.sub g1,fun p hp=>?_⟩⟩
      have x:=Ext.laid R1.sub hp (.lst vs.reverse)
      exact q _ _ _ _ ((R1.drop.ext x).push (.lst (SqL.of jl) (g2.reverse.mono x.s nol)))
    | @tup a vs ts g1 g2 =>
      simp only [a2i] at e3; cases e3
      refine ⟨a,vs,rfl,.inr ⟨qt R1.sub g1,fun p hp=>?_⟩⟩
      have x:=Ext.laid R1.sub hp (.tup vs.reverse)
      exact q _ _ _ _ ((R1.drop.ext x).push (.tup (SqT.of jl) (g2.reverse.mono x.s nol)))
    | _=>exact nu e3
theorem a5v (ha:PE X e (tOf X.K B m)):PE X (.Subscript e (.Slice none none (some (.UnaryOp .USub (.Constant (.int 1) j p4) p3)) p2) pos) (fOf X.K B (mUn a9l m)) :=
  (Zi ha).imp fun σ H Q z9=>by
    obtain ⟨st,ps,S,as,R,t,st',e,q⟩:=z9
    obtain ⟨t1,e1,e3⟩:=Qn e
    refine ⟨st,ps,S,as,R,t1,st',e1,fun v H1 S1 as1 R1=>?_⟩
    have top:=R1.top
    cases top with
    | @lst a vs ts g1 g2 =>
      simp only [a9l] at e3; cases e3
      refine ⟨a,vs,rfl,.inl ⟨mq R1.sub g1,fun p hp=>?_⟩⟩
      obtain ⟨bD,sD,nD,no⟩:=R1.fresh hp
      exact q p _ S1 as1 (R1.drop.a6s bD sD nD (fun j w e1 e2=>no j w e1 e2)) ⟨⟨vs.reverse,jl,g2.reverse⟩,sD,nD,bD⟩ (fun j w e1 e2=>no j w e1 e2)
    | _=>exact nu e3
theorem Bu:OpT X (compareOp .IsNot) En:=by
  intro pins s σ H x y v u Q I rx ry z8
  obtain ⟨S,as,t,t2,w,sub,ht,hu2,hf,q⟩:=z8
  cases hu2 <;> simp only [En,isC,reduceCtorEq] at hf
  · cases hf
    have e:decide (x=V.non)=Mv t:=by cases ht <;> rfl
    exact a5a pins s σ H x _ v u Q I rx ry ⟨rfl,by rw [e]; exact q _ H S (Ext.refl sub) (.bl _)⟩
  · rename_i b
    cases hf
    cases ry
    have fin:∀ k:Bool,(!ac0 b t)=k→EP X pins σ Q (.bool k) s:=fun k hk=>⟨.bl k,H,I,rfl,by rw [← hk]; exact q _ H S (Ext.refl sub) (.bl _)⟩
    cases ht with
    | bl k=>cases rx; exact wpAny_isNot_plain rfl (fin _ (by cases k <;> cases b <;> rfl))
    | non=>cases rx; exact wpAny_isNot_plain rfl (fin _ rfl)
    | int i=>obtain ⟨tk,rfl⟩:=rx; exact wpAny_isNot_plain rfl (fin _ rfl)
    | str z=>obtain ⟨tk,rfl⟩:=rx; exact wpAny_isNot_plain rfl (fin _ rfl)
    | tup=>cases rx; exact wpAny_isNot_plain rfl (fin _ rfl)
    | lst=>cases rx; exact wpAny_isNot_plain rfl (fin _ rfl)
    | dic=>cases rx; exact wpAny_isNot_plain rfl (fin _ rfl)
    | obj=>cases rx; exact wpAny_isNot_plain rfl (fin _ rfl)
theorem a0b {x:Str} {i:Int} (hg:Gl X x) (h:∃ tk,X.mg x=some (.int i tk)) (hd:(x==("__debug__" : Str))=false:=by decide):PE X (.Name x pos) (tOf X.K B (ao (.int i))):=by
  obtain ⟨tk,h⟩:=h
  exact Ft (v:=.int i) (a6c hg h (show RelV (.int i) _ from ⟨tk,rfl⟩) hd) fun _ _=>.int i
theorem Kr {a:Expr} {pc:Pos} (hg:Gl X "isinstance") (hm:X.mg "isinstance" = none) (hg2:Gl X "str") (hm2:X.mg "str" = none) (ha:PE X a (tOf X.K B m)) (he:starEach [a,.Name "str" pc] X.env=(false,eval a X.env)::starEach [.Name "str" pc] X.env:=by rfl) :
    PE X (.Call (.Name "isinstance" p) [a,.Name "str" pc] [] pos) (tOf X.K B (iu isStr (ak m fj))):=by
  rw [show isStr=_ from funext a0e]
  exact Sx (cn := "str") hg hm hg2 hm2 Z1 (fun t ty h=>by cases t <;> cases h <;> rfl) ha (by decide) (by decide) he
end
end C
end
noncomputable section
end
noncomputable section
set_option linter.all false
set_option autoImplicit false
namespace C
open PySem PySem.Spec L2
noncomputable def Held (K:PySem.W.Frag) (u:Value) (t:T):Prop:=∃ v,RelV v u∧∀ S as,Rep K S as v t
noncomputable def Q0 (K:PySem.W.Frag) (us:List Value) (ts:List T):Prop:=∃ vs,Vals vs us∧∀ S as,ux K S as vs ts
noncomputable section
variable {K:PySem.W.Frag}
theorem Held.int {i:Int} {tk:Tok}:Held K (.int i tk) (.int i):=⟨.int i,⟨tk,rfl⟩,fun _ _=>.int i⟩
theorem Held.str {x:Str} {tk:Tok}:Held K (.str x tk) (.str x):=⟨.str x,⟨tk,rfl⟩,fun _ _=>.str x⟩
theorem Held.bl {b:Bool}:Held K (.bool b) (.bl b):=⟨.bl b,rfl,fun _ _=>.bl b⟩
theorem Held.non:Held K .none .non:=⟨.non,rfl,fun _ _=>.non⟩
theorem Q0.nil:Q0 K [] []:=⟨[],.nil,fun _ _=>.nil⟩
theorem Q0.cons {u:Value} {t:T} {us:List Value} {ts:List T} (h:Held K u t) (hs:Q0 K us ts):Q0 K (u::us) (t::ts):=by
  obtain ⟨v,r,e⟩:=h
  obtain ⟨vs,rs,es⟩:=hs
  exact ⟨v::vs,.cons r rs,fun S as=>.cons (e S as) (es S as)⟩
theorem Held.tup {a:Addr} {us:List Value} {n:Nat} {sl:Array (Option Value)} {ts:List T} (h:K.lookup a=some ⟨.type "tuple",none,.seq us.toArray n,sl⟩) (hz:us.length≤1000) (hs:Q0 K us ts):Held K (.ref a) (.tup ts):=by
  obtain ⟨vs,rs,es⟩:=hs
  refine ⟨.ref a,rfl,fun S as=>.tup (.inr ⟨_,us.toArray,n,h,rfl,rfl,rfl,?_,?_⟩) (es S as)⟩
  · rw [List.size_toArray,sizeLine_eq]; omega
  · exact rs
theorem Held.lst {a:Addr} {us:List Value} {n:Nat} {sl:Array (Option Value)} {ts:List T} (h:K.lookup a=some ⟨.type "list",none,.seq us.toArray n,sl⟩) (hz:us.length≤1000) (hs:Q0 K us ts):Held K (.ref a) (.lst ts):=by
  obtain ⟨vs,rs,es⟩:=hs
  refine ⟨.ref a,rfl,fun S as=>.lst (.inr ⟨_,us.toArray,n,h,rfl,rfl,rfl,?_,?_⟩) (es S as)⟩
  · rw [List.size_toArray,sizeLine_eq]; omega
  · exact rs
end
noncomputable section
variable {X:Cx} {B:Bas} {pos:Pos}
end
end C
end
noncomputable section
set_option linter.all false
set_option maxRecDepth 100000
set_option autoImplicit false
namespace C
open PySem PySem.Spec PyProof.Rows
noncomputable section
variable {prog:Program} {w:World} {A:Around} {E:Value→Shared→Prop} {s:Shared}
end
end C
end
noncomputable section
set_option linter.all false
set_option maxRecDepth 100000
set_option maxHeartbeats 4000002
set_option autoImplicit false
namespace C
open PySem PySem.Spec PyProof.Rows
noncomputable section
variable {prog:Program} {w:World} {A:Around} {R:Result→Shared→Prop} {I:Addr} {fp wr:List Addr} {G:Array GenState→Array GenState→Prop} {n:Nat} {P:Nat→Value→Prop} {St:Nat→Shared→Prop} -- here
end
noncomputable section
variable {prog:Program} {w:World} {A:Around} {E:Value→Shared→Prop} {s:Shared}
end
end C
end
noncomputable section
set_option linter.all false
set_option maxRecDepth 100000
set_option maxHeartbeats 4000002
set_option autoImplicit false
namespace C
open PySem PySem.Spec PyProof.Rows
noncomputable section
variable {prog:Program} {w:World} {A:Around} {E:Value→Shared→Prop} {s:Shared}
end
end C
end
noncomputable section
set_option linter.all false
set_option maxRecDepth 100000
set_option maxHeartbeats 4000002
set_option autoImplicit false
namespace C
open PySem PySem.Spec PyProof.Rows
noncomputable section
variable {prog:Program} {w:World} {A:Around} {E:Value→Shared→Prop} {s:Shared}
end
end C
end
noncomputable section
set_option linter.all false
set_option maxRecDepth 100000
set_option maxHeartbeats 4000002
set_option autoImplicit false
namespace C
open PySem PySem.Spec PyProof.Rows
noncomputable section
variable {prog:Program} {w:World} {A:Around} {E:Value→Shared→Prop} {s:Shared} {I a:Addr} {i n ep:Nat} {o:Obj} {es:Array (Int × Value)} {t:SetTable} {Q:Option Value→Shared→Prop}
end
end C
end
noncomputable section
set_option linter.all false
set_option maxRecDepth 100000
set_option maxHeartbeats 4000002
set_option autoImplicit false
namespace C
open PySem PySem.Spec PyProof.Rows
noncomputable section
variable {prog:Program} {w:World} {A:Around} {E:Value→Shared→Prop} {s:Shared} {I a q:Addr} {i n ep:Nat} {o:Obj} {es:Array (Int × Value)} {t:SetTable} {Q:Option Value→Shared→Prop} {ps:List Nat}
end
end C
end
noncomputable section
set_option linter.all false
set_option maxRecDepth 100000
set_option maxHeartbeats 4000002
set_option autoImplicit false
namespace C
open PySem PySem.Spec PyProof.Rows
noncomputable section
variable {prog:Program} {w:World} {A:Around} {E:Value→Shared→Prop} {s:Shared} {I a q:Addr} {n ep:Nat} {o:Obj} {es:Array (Int × Value)} {t:SetTable} {ps:List Nat}
end
end C
end
noncomputable section
set_option linter.all false
set_option maxRecDepth 100000
set_option maxHeartbeats 4000002
set_option autoImplicit false
namespace C
open PySem PySem.Spec PyProof.Rows
noncomputable section
variable {prog:Program} {w:World} {A:Around} {E:Value→Shared→Prop} {s:Shared} {a:Addr} {o:Obj} {l:List Str}
end
end C
end
noncomputable section
set_option linter.all false
set_option maxRecDepth 100000
set_option maxHeartbeats 4000002
set_option autoImplicit false
namespace C
open PySem PySem.Spec PyProof.Rows
noncomputable section
variable {prog:Program} {w:World} {A:Around} {E:Value→Shared→Prop} {s:Shared} {a:Addr} {o:Obj} {l:List Str}
end
end C
end
noncomputable section
set_option linter.all false
set_option maxRecDepth 100000
set_option maxHeartbeats 4000002
set_option autoImplicit false
namespace C
open PySem PySem.Spec PyProof.Rows L2
noncomputable section
variable {X:Cx} {B:Bas} {e:Expr} {m1:M T} {p1 p2 p3 p4:Pos}
end
end C
end
noncomputable section
set_option linter.all false
set_option maxRecDepth 100000
set_option maxHeartbeats 4000002
set_option autoImplicit false
namespace C
open PySem PySem.Spec PyProof.Rows L2
open AutoSeq1 (wpAny_loadPart') -- here
open MeetsSeq MeetsSeq2 MeetsSeq3 -- here
noncomputable section
variable {prog:Program} {w:World} -- here
end
noncomputable section
variable {X:Cx} {pins:List (Addr × Obj)} {σ:L2.St} {H S:Hp} {s:Shared} {as:List Addr}
end
end C
end
noncomputable section
set_option linter.all false
set_option maxRecDepth 100000
set_option maxHeartbeats 4000002
set_option autoImplicit false
namespace C
open PySem PySem.Spec PyProof.Rows L2
theorem a6q {K:PySem.W.Frag} {F:Fn} {H:Hp} {a:Addr} {ns:List Int} (hS:SqL K H a (ns.map V.int)) (hE:∃ st,F [.lst (ns.map T.int)] []=some (.bl true,st)):spF K 1 F [.ref a] H (fun v _=>v=.bl true) fun _ _ _=>False:=by
  obtain ⟨st,hF⟩:=hE
  have reps:∀ (S:Hp) (l:List Int),ux K S [] (l.map V.int) (l.map T.int):=fun S l=>by
    induction l with
    | nil=>exact .nil
    | cons x l ih=>exact .cons (.int x) ih
  let S:Hp:=fun p=>if p=a then H p else none
  have sa:S a=H a:=if_pos rfl
  have sub:Same S H:=fun p u h=>by
    by_cases e:p=a
    · subst e; rw [← sa]; exact h
    · have:S p=none:=if_neg e
      rw [this] at h; cases h
  have sq:SqL K S a (ns.map V.int):=by
    rcases hS with h | h
    · refine .inl ?_
      unfold Rd at h ⊢
      rw [sa]; exact h
    · exact .inr h
  refine ⟨S,[],[],[.lst (ns.map T.int)],.bl true,st,sub,⟨rfl,.nil,fun n so e=>by simp at e⟩,.cons (.lst sq (reps S ns)) .nil,rfl,hF,fun v H' S' as' _ _ _ r=>?_⟩
  cases r
  rfl
end C
end
noncomputable section
set_option linter.all false
set_option autoImplicit false
namespace C
open PySem
end C
end
noncomputable section
set_option linter.all false
set_option autoImplicit false
namespace C
open PySem
end C
end
noncomputable section
set_option linter.all false
set_option autoImplicit false
namespace C
open PySem
end C
end
noncomputable section
set_option linter.all false
set_option autoImplicit false
namespace C
open PySem
end C
end
noncomputable section
set_option linter.all false
set_option autoImplicit false
namespace C
open PySem PySem.W PyProof.Rows
noncomputable def J2 {α:Type} (lt:Nat→Nat→Bool):KasT α→α
  | .ret a=>a
  | .ask i j k=>J2 lt (k (lt i j))
noncomputable def Bk {α:Type} (n:Nat):KasT α→Bool
  | .ret _=>true
  | .ask i j k=>decide (i<n)&&decide (j<n)&&decide (i≠j)&&Bk n (k true)&&Bk n (k false)
noncomputable def firsts:List T→Option (List Str)
  | []=>some []
  | .tup (.str x::_)::r=>(firsts r).map (x :: ·)
  | _=>none
noncomputable def ltS (l:List Str) (i j:Nat):Bool:=decide ((l.getD i "").cps.toList<(l.getD j "").cps.toList)
noncomputable def order (l:List Str):List Nat:=if l.length<2 then List.range l.length else (J2 (ltS l) (kas_sort l.length)).toList
noncomputable def Et:List T→Option T
  | [.lst ts]=>match firsts ts with
    | some l=>if l.length≤4∧l.Nodup then some (.lst ((order l).map fun i=>ts.getD i .non)) else none
    | none=>none
  | _=>none
end C
end
noncomputable section
set_option linter.all false
set_option maxRecDepth 100000
set_option maxHeartbeats 4000002
set_option autoImplicit false
namespace C
open PySem PySem.W PySem.Spec PyProof.Rows L2
theorem Wz {α:Type} {cmp:Nat→Nat→(Bool→Shared→Prop)→Shared→Prop} {lt:Nat→Nat→Bool} {n:Nat} {s:Shared} (h:∀ i j C,i<n→j<n→i≠j→C (lt i j) s→cmp i j C s) :
    ∀ (t:KasT α) {Q:α→Shared→Prop},Bk n t=true→Q (J2 lt t) s→t.kasWp cmp Q s
  | .ret a,Q,_,q=>q
  | .ask i j k,Q,hb,q=>by
    simp only [Bk,Bool.and_eq_true,decide_eq_true_eq] at hb
    obtain ⟨⟨⟨⟨h1,h2⟩,h3⟩,h4⟩,h5⟩:=hb
    refine h i j _ h1 h2 h3 (Wz h (k (lt i j)) ?_ q)
    cases lt i j
    · exact h5
    · exact h4
inductive N6 (h:Heap):List Value→List Str→Prop where
  | nil:N6 h [] []
  | cons {a:Addr} {o:Obj} {xs:List Value} {n:Nat} {x:Str} {t:Tok} {vs:List Value} {l:List Str}:h.get? a=some o→o.cls=.type "tuple" → o.data=.seq (Value.str x t::xs).toArray n→N6 h vs l→N6 h (.ref a::vs) (x::l)
theorem N6.mono {h h':Heap} (k:∀ b o,h.get? b=some o→h'.get? b=some o):∀ {vs:List Value} {l:List Str},N6 h vs l→N6 h' vs l:=by
  intro vs l z
  induction z with
  | nil=>exact .nil
  | cons a b c _ ih=>exact .cons (k _ _ a) b c ih
theorem N6.length {h:Heap}:∀ {vs:List Value} {l:List Str},N6 h vs l→vs.length=l.length
  | _,_,.nil=>rfl
  | _,_,.cons _ _ _ r=>congrArg (· + 1) r.length
theorem N6.get {h:Heap}:∀ {vs:List Value} {l:List Str} (i:Nat),N6 h vs l→i<l.length→∃ a o xs n t,vs.getD i Value.none=.ref a∧h.get? a=some o∧o.data=.seq (Value.str (l.getD i "") t::xs).toArray n
  | _,_,_,.nil,hi=>absurd hi (Nat.not_lt_zero _)
  | _,_,0,.cons a b c r,_=>⟨_,_,_,_,_,rfl,a,c⟩
  | _,_,i+1,.cons a b c r,hi=>by
    obtain ⟨a,o,xs,n,t,e1,e2,e3⟩:=r.get i (Nat.lt_of_succ_lt_succ hi)
    exact ⟨a,o,xs,n,t,by simpa using e1,e2,by simpa using e3⟩
theorem N6.kat {M:Model} {h:Heap}:∀ {vs:List Value} {l:List Str},N6 h vs l→∃ fs:List Value,KatTups h vs fs∧fs.length=l.length∧∀ v∈fs,Looks M h (typeOf v) (Value.type "str")
  | _,_,.nil=>⟨[],.nil,rfl,fun v hv=>nomatch hv⟩
  | _,_,.cons a b c r=>by
    obtain ⟨fs,h1,h2,h3⟩:=r.kat (M:=M)
    refine ⟨_::fs,.cons a b c (by simp; rfl) h1,congrArg (· + 1) h2,fun v hv=>?_⟩
    rcases List.mem_cons.mp hv with rfl | hv -- here
    · exact Looks.now
    · exact h3 v hv
noncomputable section
variable {prog:Program} {w:World} {A:Around} {E:Value→Shared→Prop} {s:Shared}
theorem a0o {vs:List Value} {l:List Str} (T:N6 s.heap vs l) (nd:l.Nodup) (i j:Nat) (C:Bool→Shared→Prop) (hi:i<l.length) (hj:j<l.length) (ne:i≠j) (h:C (ltS l i j) s):kas_ask prog w A (tuples' true) vs i j C s:=by
  obtain ⟨a,o,xs,n,t,e1,e2,e3⟩:=T.get i hi
  obtain ⟨b,p,ys,m,u,f1,f2,f3⟩:=T.get j hj
  unfold kas_ask
  rw [e1,f1]
  refine kat_lt e2 e3 f2 f3 ?_
  simp only [List.zip_cons_cons]
  refine kat_cons (eqBool_str ?_)
  have d:(l.getD i "" == l.getD j "")=false:=by
    refine beq_eq_false_iff_ne.mpr fun z=>ne ?_
    have z1:l.getD i "" = l[i]:=by simp [hi]
    have z2:l.getD j "" = l[j]:=by simp [hj]
    rw [z1,z2] at z
    exact (List.getElem_inj nd).mp z
  rw [d]
  exact kat_no (oneLt_str h)
theorem Qw:Bk 2 (kas_sort 2)=true∧Bk 3 (kas_sort 3)=true∧Bk 4 (kas_sort 4)=true:=by decide +kernel
noncomputable def outV (vs:List Value) (l:List Str):List Value:=(order l).map fun i=>vs.getD i Value.none
theorem a5m {vs:List Value} (h:vs.length<2):(vs.toArray.zip vs.toArray).map (·.2)=((List.range vs.length).map fun i=>vs.getD i Value.none).toArray:=by
  cases vs with
  | nil=>simp
  | cons v t =>
    cases t with
    | nil=>simp [List.range_succ]
    | cons _ _=>simp at h; omega
theorem Iu {h0:Heap} {a:Addr} {vs:List Value} {l:List Str} {n:Nat} {P:PySem.Fin→Shared→Prop} (ho:s.heap.get? a=some (seqObj "list" vs.toArray n)) (hk:∀ b o,h0.get? b=some o→s.heap.get? b=some o∧b≠a)
    (T:N6 h0 vs l) (nd:l.Nodup) (h3:l.length≤4) (h:P (.done (.ret .none)) { s with heap:=sortedHeap s.heap a vs (outV vs l).toArray }) :
    wpAny (model prog w) A (Builtin.«list.sort» ⟨[.ref a],[]⟩) P E s:=by -- here
  have hlen:=T.length
  rw [list_sort_plain]
  have ha:a<s.heap.objs.size:=Heap.lt_size ho -- here
  refine wpAny_bind (listItems_at ho rfl ?_) -- here
  refine wpAny_bind (listUpdate_at ho rfl ?_ (by rw [List.size_toArray,sizeLine_eq]; omega) (Nat.zero_le _)) -- here
  obtain ⟨e1,ho1⟩:∃ e1,(s.heap.update a (Obj.mapSeq fun _=>(#[]:Array Value))).get? a=some (seqObj "list" #[] e1):=⟨_,get?_update_seq ho (fun _=>#[])⟩
  refine wpAny_bind (seqEpoch_at ho1 rfl ?_) -- here
  refine wpAny_bind (wpAny_newTuple ?_ (by show vs.length≤_; rw [sizeLine_eq]; omega)) -- here
  refine wpAny_bind (wpAny_newList ?_ (Nat.zero_le _)) -- here
  refine wpAny_holding ?_
  have ho6:(((s.heap.update a (Obj.mapSeq fun _=>(#[]:Array Value))).push (seqObj "tuple" vs.toArray 0)).push (seqObj "list" #[] 0)).get? a=some (seqObj "list" #[] e1):=by
    rw [Heap.get?_push_ne _ _ _ (by rw [size_push',Heap.size_update]; exact Nat.ne_of_lt (Nat.lt_succ_of_lt ha)),Heap.get?_push_ne _ _ _ (by rw [Heap.size_update]; exact Nat.ne_of_lt ha)] -- here
    exact ho1
  have T6:N6 (((s.heap.update a (Obj.mapSeq fun _=>(#[]:Array Value))).push (seqObj "tuple" vs.toArray 0)).push (seqObj "list" #[] 0)) vs l:=T.mono fun b o e=>by
    obtain ⟨k1,k2⟩:=hk b o e
    refine Heap.get?_push_of_some _ (Heap.get?_push_of_some _ ?_)
    rw [Heap.get?_update_ne _ _ _ _ k2]
    exact k1
  show wpAny (model prog w) A _ P E { s with heap:=((s.heap.update a (Obj.mapSeq fun _=>(#[]:Array Value))).push (seqObj "tuple" vs.toArray 0)).push (seqObj "list" #[] 0) } -- here
  dsimp only
  by_cases h2:vs.toArray.size<2 -- here
  · rw [if_pos h2,if_pos h2]
    refine wpAny_bind (wpAny_pure ?_)
    rw [StateT.run_pure]
    refine wpAny_bind (wpAny_pure ?_)
    dsimp only
    refine wpAny_bind (seqEpoch_at ho6 rfl ?_) -- here
    have eo:(arrOf (SortSt.mk' general' (vs.toArray.zip vs.toArray) #[] 7 none)).map (·.2)=(outV vs l).toArray:=by
      rw [List.size_toArray] at h2
      have h2':l.length<2:=by omega
      unfold outV order
      rw [if_pos h2',← hlen]
      show (vs.toArray.zip vs.toArray).map (·.2)=_
      exact a5m h2
    refine wpAny_bind (listUpdate_at ho6 rfl ?_ (Nat.zero_le _) (by
      show ((arrOf (SortSt.mk' general' (vs.toArray.zip vs.toArray) #[] 7 none)).map (·.2)).size≤_
      rw [List.size_toArray] at h2
      show ((vs.toArray.zip vs.toArray).map (·.2)).size≤_
      rw [Array.size_map,Array.size_zip,List.size_toArray,sizeLine_eq]; omega))
    simp only [bne_self_eq_false,Bool.false_eq_true,if_false] -- here
    refine wpAny_pure ?_
    unfold sortedHeap at h
    rw [← eo] at h
    exact h
  · rw [if_neg h2,if_neg h2]
    rw [List.size_toArray] at h2
    obtain ⟨fs,k1,k2,k3⟩:=T6.kat (M:=model prog w)
    refine wpAny_bind (kat_kind (T:=Value.type "str") (s:={ s with heap:=((s.heap.update a (Obj.mapSeq fun _=>(#[]:Array Value))).push (seqObj "tuple" vs.toArray 0)).push (seqObj "list" #[] 0) }) k1 (by omega) k3 (by decide) ?_)
    rw [show (Value.type "str" != Value.type "tuple")=true by decide]
    have hb:Bk l.length (kas_sort vs.length)=true:=by
      have:l.length=2∨l.length=3∨l.length=4:=by omega
      rcases this with z | z | z
      · rw [hlen,z]; exact Qw.1
      · rw [hlen,z]; exact Qw.2.1
      · rw [hlen,z]; exact Qw.2.2
    refine wpAny_bind (wpAny_mono (kat_run (Q:=fun st' s'=>∃ p:Array Nat,arrOf st'=p.map (kas_item (vs.toArray.zip vs.toArray))∧failedOf st'=none∧p=J2 (ltS l) (kas_sort vs.length)∧p.size=vs.length∧s' = { s with heap:=((s.heap.update a (Obj.mapSeq fun _=>(#[]:Array Value))).push (seqObj "tuple" vs.toArray 0)).push (seqObj "list" #[] 0) })
      (G:=fun p s'=>p=J2 (ltS l) (kas_sort vs.length)∧s' = { s with heap:=((s.heap.update a (Obj.mapSeq fun _=>(#[]:Array Value))).push (seqObj "tuple" vs.toArray 0)).push (seqObj "list" #[] 0) })
      rfl (by omega) (by omega) (fun p' st' s' a1 a2 a3 a4=>⟨p',a2,a3,a4.1,a1,a4.2⟩) (Wz (n:=l.length) (lt:=ltS l) (fun i j C hi hj ne hC=>a0o T6 nd i j C hi hj ne hC) _ hb ⟨rfl,rfl⟩)) ?_ fun _ _ e=>e)
    rintro ⟨⟨⟩,st'⟩ s' ⟨p,har,hf,hp,hz,rfl⟩
    dsimp only
    have hout:=kat_snds rfl har
    have eo:(arrOf st').map (·.2)=(outV vs l).toArray:=by
      rw [hout,hp]
      unfold outV order
      rw [if_neg (by omega),hlen]
    refine wpAny_bind (seqEpoch_at ho6 rfl ?_) -- here
    refine wpAny_bind (listUpdate_at ho6 rfl ?_ (Nat.zero_le _) (by rw [hout,List.size_toArray,List.length_map,Array.length_toList,hz,sizeLine_eq]; omega))
    rw [hf]
    simp only [bne_self_eq_false,Bool.false_eq_true,if_false] -- here
    refine wpAny_pure ?_
    unfold sortedHeap at h
    rw [← eo] at h
    exact h
theorem Og {l:Addr} {vs:List Value} {ss:List Str} {Q:Value→Shared→Prop} (hl:s.heap.IsList l vs.toArray) (T:N6 s.heap vs ss) (nd:ss.Nodup) (h3:ss.length≤4)
    (h:Q (.ref (s.heap.objs.size+1)) { s with heap:=sortedAll s.heap vs (outV vs ss).toArray }) :
    wpAny (model prog w) A (call (.builtin "sorted") [.ref l]) Q E s:=by -- here
  have hlen:=T.length
  refine Calls.call_function_entry kind_sorted plain_sorted entry_sorted (args_sorted1 _) ?_ -- here
  unfold Builtin.«sorted»
  refine wpAny_bind (m:=checkCount "sorted" 1 1 _) (wpAny_pure ?_) -- here
  refine wpAny_bind (collect_list hl ?_ (by rw [sizeLine_eq]; omega)) -- here
  refine wpAny_bind (wpAny_newList ?_ (by rw [sizeLine_eq]; omega)) -- here
  have hsz:((s.heap.push (seqObj "list" #[] 0)).update s.heap.objs.size (Obj.mapSeq (· ++ vs.toArray))).objs.size=s.heap.objs.size+1:=by -- here
    rw [Heap.size_update,size_push'] -- here
  have hoL:(((s.heap.push (seqObj "list" #[] 0)).update s.heap.objs.size (Obj.mapSeq (· ++ vs.toArray))).push (seqObj "list" vs.toArray 0)).get? (s.heap.objs.size+1)=some (seqObj "list" vs.toArray 0):=by -- here
    rw [← hsz]; exact Heap.get?_push_size _ rfl -- here
  have keep:∀ b o,s.heap.get? b=some o→(((s.heap.push (seqObj "list" #[] 0)).update s.heap.objs.size (Obj.mapSeq (· ++ vs.toArray))).push (seqObj "list" vs.toArray 0)).get? b=some o∧b≠s.heap.objs.size+1:=fun b o q=>by
    have hlt:b<s.heap.objs.size:=Heap.lt_size q -- here
    refine ⟨?_,Nat.ne_of_lt (Nat.lt_succ_of_lt hlt)⟩
    rw [Heap.get?_push_ne _ _ _ (by rw [hsz]; exact Nat.ne_of_lt (Nat.lt_succ_of_lt hlt)),Heap.get?_update_ne _ _ _ _ (Nat.ne_of_lt hlt),Heap.get?_push_ne _ _ _ (Nat.ne_of_lt hlt)] -- here
    exact q
  show wpAny _ _ _ _ _ { s with heap:=((s.heap.push (seqObj "list" #[] 0)).update s.heap.objs.size (Obj.mapSeq (· ++ vs.toArray))).push (seqObj "list" vs.toArray 0) } -- here
  rw [hsz]
  refine wpAny_bind (wpAny_holding (wpAny_call_entry slot_list_sort ⟨_,hoL,rfl⟩ entry_list_sort (Iu (s:={ s with heap:=((s.heap.push (seqObj "list" #[] 0)).update s.heap.objs.size (Obj.mapSeq (· ++ vs.toArray))).push (seqObj "list" vs.toArray 0) }) (h0:=s.heap) hoL keep T nd h3 ⟨_,rfl,?_⟩) (args_list_sort _)))
  exact wpAny_pure ⟨_,rfl,h⟩
end
noncomputable section
variable {X:Cx} {pins:List (Addr × Obj)} {σ:L2.St} {H S:Hp} {s:Shared} {as:List Addr}
theorem Yr (I:L2.Inv X pins σ H s) (sub:Same S H):∀ {ts:List T} {vs:List V} {us:List Value} {l:List Str},ux X.K S as vs ts→Vals vs us→firsts ts=some l→N6 s.heap us l
  | [],_,_,_,h1,h2,h=>by cases h1; cases h2; cases h; exact .nil
  | t::r,_,_,l,h1,h2,h=>by
    cases h1 with | cons a b=>?_
    cases h2 with | cons c d=>?_
    cases a with
    | @tup p ws ts' g1 g2 =>
      cases g2 with
      | nil=>simp only [firsts,reduceCtorEq] at h
      | cons y1 y2 =>
        cases y1 <;> simp only [firsts,reduceCtorEq] at h
        rename_i x
        obtain ⟨l',e1,e2⟩:=Option.map_eq_some_iff.mp h
        subst e2
        cases c
        obtain ⟨its,r',⟨o,h1,h2,n,h3⟩,_⟩:=I.tuple (qt sub g1)
        cases r' with
        | cons q1 q2 =>
          obtain ⟨t,rfl⟩:=q1
          exact .cons h1 h2 h3 (Yr I sub b d e1)
    | _=>simp only [firsts,reduceCtorEq] at h
theorem a2c {ts:List T} {vs:List V} (r:ux X.K S as vs ts) (i:Nat):Rep X.K S as (vs.getD i .non) (ts.getD i .non):=by
  by_cases h:i<ts.length
  · have e:ts[i]? = some ts[i]:=List.getElem?_eq_getElem h
    obtain ⟨v,h1,h2⟩:=r.get e
    rw [List.getD_eq_getElem?_getD,List.getD_eq_getElem?_getD,e,h1]
    exact h2
  · have h':¬ i<vs.length:=by rw [r.length]; exact h
    rw [List.getD_eq_getElem?_getD,List.getD_eq_getElem?_getD,List.getElem?_eq_none (Nat.le_of_not_lt h),List.getElem?_eq_none (Nat.le_of_not_lt h')]
    exact .non
theorem Uc:∀ {vs:List V} {us:List Value} (_:Vals vs us) (i:Nat),RelV (vs.getD i .non) (us.getD i Value.none)
  | _,_,.nil,i=>by simp; rfl
  | _,_,.cons a b,0=>a
  | _,_,.cons a b,i+1=>by simpa using Uc b i
theorem Sd {ts:List T} {vs:List V} (r:ux X.K S as vs ts):∀ l:List Nat,ux X.K S as (l.map fun i=>vs.getD i .non) (l.map fun i=>ts.getD i .non)
  | []=>.nil
  | i::l=>.cons (a2c r i) (Sd r l)
theorem Uj {vs:List V} {us:List Value} (r:Vals vs us):∀ l:List Nat,Vals (l.map fun i=>vs.getD i .non) (l.map fun i=>us.getD i Value.none)
  | []=>.nil
  | i::l=>.cons (Uc r i) (Uj r l)
noncomputable def J9 {α:Type} (P:α→Bool):KasT α→Bool
  | .ret a=>P a
  | .ask i j k=>J9 P (k true)&&J9 P (k false)
theorem Lw {α:Type} {P:α→Bool} {lt:Nat→Nat→Bool}:∀ t:KasT α,J9 P t=true→P (J2 lt t)=true
  | .ret a,h=>h
  | .ask i j k,h=>by
    simp only [J9,Bool.and_eq_true] at h
    refine Lw (k (lt i j)) ?_
    cases lt i j
    · exact h.2
    · exact h.1
theorem X5:J9 (fun p:Array Nat=>decide (p.size≤4)) (kas_sort 2)=true∧J9 (fun p:Array Nat=>decide (p.size≤4)) (kas_sort 3)=true∧J9 (fun p:Array Nat=>decide (p.size≤4)) (kas_sort 4)=true:=by decide +kernel
theorem Yo (l:List Str) (h:l.length≤4):(order l).length≤sizeLine:=by
  have z:(4:Nat)≤sizeLine:=by rw [sizeLine_eq]; decide
  unfold order
  split
  · rw [List.length_range]; omega
  · rename_i h2
    rw [Array.length_toList]
    have:l.length=2∨l.length=3∨l.length=4:=by omega
    rcases this with e | e | e
    · rw [e]
      have:=Lw (lt:=ltS l) _ X5.1
      rw [decide_eq_true_eq] at this
      omega
    · rw [e]
      have:=Lw (lt:=ltS l) _ X5.2.1
      rw [decide_eq_true_eq] at this
      omega
    · rw [e]
      have:=Lw (lt:=ltS l) _ X5.2.2
      rw [decide_eq_true_eq] at this
      omega
theorem Lx:M7 X (.builtin "sorted") Et:=by
  intro pins s σ H xs us Q I rs z8
  obtain ⟨S,as,ts,w,sub,hr,hf,q⟩:=z8
  cases hr with
  | nil=>simp only [Et,reduceCtorEq] at hf
  | @cons x t xs' ts' h1 h2 =>
    cases h2 with
    | cons h3 h4=>cases h1 <;> simp only [Et,reduceCtorEq] at hf
    | nil =>
      cases h1 with
      | @lst a vs ts g1 g2 =>
        simp only [Et] at hf
        split at hf
        · rename_i l e1
          split at hf
          · rename_i hc
            cases hf
            obtain ⟨u,rfl,ru⟩:=rs.one
            cases ru
            obtain ⟨its,r,p,hz⟩:=I.list (mq sub g1)
            have T:=Yr I sub g2 r e1
            refine Og p.isList T hc.2 hc.1 ?_
            obtain ⟨e,he⟩:=sortedAll_at s.heap its (outV its l).toArray
            have hn:H (s.heap.objs.size+1)=none:=I.hok.fresh (Nat.le_succ _)
            have x:=Ext.laid sub hn (.lst ((order l).map fun i=>vs.getD i .non))
            refine ⟨.ref (s.heap.objs.size+1),_,I.laid (a:=s.heap.objs.size+1) (o:=.lst ((order l).map fun i=>vs.getD i .non)) (h':=sortedAll s.heap its (outV its l).toArray) (t':=s.toks) (fun _ _=>sortedAll_old) (Nat.le_succ _) ⟨by rw [List.length_map]; exact Yo l hc.1,_,e,Uj r (order l),he⟩,rfl,q _ _ _ x (.lst (SqL.of jl) ((Sd g2 _).mono x.s nol))⟩
          · cases hf
        · cases hf
      | _=>simp only [Et,reduceCtorEq] at hf
end
end C
end
noncomputable section
set_option linter.all false
set_option autoImplicit false
namespace C
open PySem
noncomputable def Gk (i j:Nat):S:=fun s=>match s.env[i]? with
  | some (some (.obj n,false))=>match s.sto[n]? with
    | some (.lst xs)=>match xs[xs.length - 1]? with
      | some t=>some (.next,bh j t false { s with sto:=s.sto.set n (.lst xs.dropLast) })
      | none=>none
    | _=>none
  | _=>none
noncomputable def Im (a:M T):M T:=fun s=>match a s with
  | some (.lst xs,s1)=>some (.obj s1.sto.length,{ s1 with sto:=s1.sto++[.lst xs.reverse] })
  | _=>none
end C
end
noncomputable section
set_option linter.all false
set_option maxRecDepth 100000
set_option maxHeartbeats 4000002
set_option autoImplicit false
namespace C
open PySem PySem.Spec
theorem a7b:typeLookup (.type "list_reverseiterator") "__len__" = pure none:=by rw [typeLookup_type,builtinLookup_eq_fast]; kernel_rfl
theorem a4v:typeLookup (.type "list_reverseiterator") "__length_hint__" = pure (some (.builtin "list_reverseiterator.__length_hint__")):=by rw [typeLookup_type,builtinLookup_eq_fast]; kernel_rfl
noncomputable section
variable {prog:Program} {w:World} {A:Around} {E:Value→Shared→Prop} {s:Shared} {it l:Addr} {xs:Array Value}
theorem a0u {Q:Bool→Shared→Prop} (hT:s.TypeIs (.ref it) "list_reverseiterator") (q:Q false s):wpAny (model prog w) A (Builtin.List.listLengthHint (.ref it)) Q E s:=by
  unfold Builtin.List.listLengthHint -- here
  refine wpAny_bind (wpAny_specialOf hT a7b ?_)
  change wpAny _ A (specialOf (Value.ref it) (Str.ofString "__length_hint__") >>= _) _ _ _
  refine wpAny_bind (wpAny_specialOf hT a4v ?_)
  generalize hw:("list_reverseiterator.__length_hint__" : String)=nm
  wp_delta
  rw [show splitId nm=some ("list_reverseiterator","__length_hint__") from by subst hw; decide +kernel]
  subst hw
  refine wpAny_bind (wpAny_isInstance (b:=true) hT (by rw [isSubtype_type]; kernel_rfl) ?_)
  exact wpAny_pure q
end
end C
end
noncomputable section
set_option linter.all false
set_option maxRecDepth 100000
set_option maxHeartbeats 4000002
set_option autoImplicit false
namespace C
open PySem PySem.Spec PyProof.Rows L2
noncomputable section
variable {K:PySem.W.Frag} {S:Hp} {as:List Addr}
end
noncomputable section
variable {X:Cx} {B:Bas} {a b e:Expr} {m m2:M T} {pos p1:Pos} {es:List Expr} {ms:M (List T)}
theorem Rel.base {K:PySem.W.Frag} {B:Bas} {st:Sta} {σ:L2.St} {H S:Hp} {ps:List (V × T)} {as:List Addr} (r:Rel K B st σ H ps S as):Rel K ⟨S,as,B.H⟩ st σ H ps S as :=
  ⟨r.sub,⟨Same.refl _,nol,fun p o h1 h2 h3=>by
    change S p=none at h2
    have b2:B.S p=none:=by
      cases q:B.S p with
      | none=>rfl
      | some u=>have:=r.grow.same _ _ q; rw [h2] at this; cases this
    have b3:p∉B.as:=fun q=>by obtain ⟨l,e⟩:=r.grow.more; exact h3 (by show p∈as; rw [e]; exact List.mem_append_left _ q)
    exact ⟨(r.grow.keep p o h1 b2 b3).1,h2,h3⟩⟩,fun i t f e=>by
      obtain ⟨v,h1,h2,h3⟩:=r.slots i t f e
      exact ⟨v,h1,h2,fun q=>by obtain ⟨p,ep,o⟩:=h3 q; exact ⟨p,ep,o.own,o.out,o.nas,o.new⟩⟩,r.apart,r.sto,r.pend,r.len⟩
end
end C
end
noncomputable section
set_option linter.all false
set_option maxRecDepth 100000
set_option maxHeartbeats 4000002
set_option autoImplicit false
namespace C
open PySem PySem.Spec PyProof.Rows L2
noncomputable section
variable {X:Cx} {B:Bas} {a b e e1 e2:Expr} {m m1 m2:M T} {pos p1 p2 p3 p4:Pos} {lo hi:Option Expr} {ml mh:M (Option Int)}
end
end C
end
noncomputable section
set_option linter.all false
set_option maxRecDepth 100000
set_option maxHeartbeats 4000002
set_option autoImplicit false
namespace C
open PySem PySem.Spec PyProof.Rows L2
theorem Q6 {i j:Nat} {s s':Sta} {fl:Flow} (h:Gk i j s=some (fl,s')):∃ n xs t,s.env[i]? = some (some (.obj n,false))∧s.sto[n]? = some (.lst xs)∧xs[xs.length - 1]? = some t∧fl=.next∧s'=bh j t false { s with sto:=s.sto.set n (.lst xs.dropLast) }:=by
  unfold Gk at h
  split at h
  · rename_i n e0
    split at h
    · rename_i xs e1
      split at h
      · rename_i t e2; cases h; exact ⟨n,xs,t,e0,e1,e2,rfl,rfl⟩
      · cases h
    · cases h
  · cases h
theorem Rq {a:M T} {s s':Sta} {t:T} (h:Im a s=some (t,s')):∃ xs s1,a s=some (.lst xs,s1)∧t=.obj s1.sto.length∧s' = { s1 with sto:=s1.sto++[.lst xs.reverse] }:=by
  unfold Im at h
  split at h
  · rename_i xs s1 e1; cases h; exact ⟨xs,s1,e1,rfl,rfl⟩
  · cases h
noncomputable section
variable {prog:Program} {w:World} {A:Around} {E:Value→Shared→Prop} {s:Shared} {it l:Addr} {xs:Array Value}
theorem a1f {Q:Value→Shared→Prop} (nh:A.handled=none) (hne:l≠it) (hi:s.heap.IsRevIter it l ((xs.size:Int) - 1)) (hl:s.heap.IsList l xs) (hz:xs.size≤sizeLine)
    (q:∀ (h':Heap) (tk c:Nat),(∀ b o,b≠it→s.heap.get? b=some o→h'.get? b=some o)→h'.get? s.heap.objs.size=some { cls:=.type "list",data:=.seq xs.toList.reverse.toArray c }→Q (.ref s.heap.objs.size) { s with heap:=h',toks:=tk }) :
    wpAny (model prog w) A (call (.type "list") [.ref it]) Q E s:=by -- here
  have W:=(Walks.listRev (prog:=prog) (w:=w) (A:=A.in1.in1) nh it l hne xs).toS
  have ltI:it<s.heap.objs.size:=by obtain ⟨o,ho,_⟩:=id hi; exact Heap.lt_size ho
  have ltL:l<s.heap.objs.size:=by obtain ⟨o,ho,_⟩:=id hl; exact Heap.lt_size ho
  have out:s.heap.objs.size∉[it,l]:=fun hm=>by
    rcases List.mem_cons.mp hm with e | hm -- here
    · exact Nat.lt_irrefl _ (e ▸ ltI)
    · exact Nat.lt_irrefl _ ((List.mem_singleton.mp hm) ▸ ltL)
  have dif:s.heap.objs.size≠it:=fun e=>out (e ▸ List.mem_cons_self ..)
  refine callType_codes (Q₁:=fun obj s₁=>obj=.ref s.heap.objs.size∧s₁ = { s with heap:=s.heap.push { cls:=.type "list",data:=.seq #[] } }) F.called_list (F.typeCall_list_1 _) F.entry_list_init (code_list_new _ ⟨rfl,rfl⟩) fun obj s₁ h₁=>?_
  obtain ⟨rfl,rfl⟩:=h₁
  generalize hn:({ cls:=.type "list",data:=.seq #[] }:Obj)=new
  have hS:(s.heap.push new).get? s.heap.objs.size=some new:=by subst hn; exact Heap.get?_push_size _ rfl
  refine ⟨⟨_,hS,by subst hn; rfl⟩,F.args_list_init_2 _ _,?_⟩
  have up:∀ b o,s.heap.get? b=some o→(s.heap.push new).get? b=some o:=fun b o e=>Heap.get?_push_of_some _ e
  change wpAny _ A.in1.in1 (Builtin.List.listItems (.ref s.heap.objs.size) >>= fun old=>Builtin.List.listUpdate (.ref s.heap.objs.size) (fun _=>#[]) >>= fun _=>letGo old.toList.reverse >>= fun _=>Builtin.List.listExtendWith (.ref s.heap.objs.size) (.ref it) .none) _ _ _
  subst hn
  refine wpAny_bind ?_
  unfold Builtin.List.listItems
  refine wpAny_bind (wpAny_seqItems hS rfl (wpAny_pure ?_)) -- here
  refine wpAny_bind ?_
  unfold Builtin.List.listUpdate
  refine wpAny_updateSeq hS rfl ?_
  have hS2:=Heap.get?_update_self (Obj.mapSeq (fun _=>(#[]:Array Value))) hS rfl
  have oth:∀ b o,s.heap.get? b=some o→((s.heap.push { cls:=.type "list",data:=.seq #[] }).update s.heap.objs.size (Obj.mapSeq (fun _=>(#[]:Array Value)))).get? b=some o:=fun b o e=>(Heap.get?_update_other _ _ (Nat.ne_of_gt (Heap.lt_size e))).trans (up b o e)
  refine wpAny_bind (wpAny_letGo ?_)
  generalize hh:((s.heap.push { cls:=.type "list",data:=.seq #[] }).update s.heap.objs.size (Obj.mapSeq (fun _=>(#[]:Array Value))))=h2 at *
  have hi2:h2.IsRevIter it l ((xs.size:Int) - 1):=hi.at fun o e=>oth _ o e
  have hl2:h2.IsList l xs:=hl.at fun o e=>oth _ o e
  have same:Builtin.List.listSameRef (.ref s.heap.objs.size) (.ref it)=false:=by simp [Builtin.List.listSameRef,dif]
  have hT:({ s with heap:=h2 }:Shared).TypeIs (.ref it) "list_reverseiterator" := Heap.IsRevIter.typeIs (s:={ s with heap:=h2 }) hi2
  unfold Builtin.List.listExtendWith -- here
  refine wpAny_bind (wpAny_typeOf hT ?_) -- here
  rw [if_neg (by rw [same]; decide)]
  refine wpAny_bind (wpAny_pyIter_revIter (s:={ s with heap:=h2 }) hi2 ?_)
  refine wpAny_bind (wpAny_holding (a0u hT ?_))
  rw [if_neg (by decide)]
  have e0:((xs.size:Int) - 1 - ((0:Nat):Int))=(xs.size:Int) - 1:=by omega
  refine wpAny_pure ⟨plainId_quiet F.plain_extend_loop _,codeAny_extend_loopS W hz _ out _ xs.size 0 _ _ _ rfl (Nat.zero_le _) ⟨Nat.zero_le _,by rw [e0]; exact hi2,hl2⟩ hS2 (ItemsOf.nil _) fun s' acc c hm hS' ha=>?_⟩
  refine ⟨rfl,?_⟩
  have ea:acc.toList=xs.toList.reverse:=by
    apply List.ext_getElem?
    intro i
    by_cases hi':i<xs.size
    · have h1:acc[i]? = some (acc[i]'(by rw [ha.1]; exact hi')):=Array.getElem?_eq_getElem _
      have h2:=ha.2 i _ h1
      rw [List.getElem?_reverse (by simpa using hi'),Array.getElem?_toList,Array.getElem?_toList,h1]
      simpa using h2.symm
    · rw [List.getElem?_eq_none (by simpa [ha.1] using hi'),List.getElem?_eq_none (by simpa using hi')]
  have ea':acc=xs.toList.reverse.toArray:=by rw [← ea]
  obtain ⟨h',gs,dr,tk,os⟩:=s'
  obtain ⟨m1,m2,m3,m4,m5⟩:=hm
  simp only at m1 m2 m3 m4 m5 hS'
  subst m2 m3 m4
  refine q h' tk c (fun b o hb e=>m1 b o (fun hm=>?_) (oth b o e)) (by rw [← ea']; exact hS')
  rcases List.mem_cons.mp hm with z | z
  · exact Nat.lt_irrefl _ (z ▸ Heap.lt_size e)
  · exact hb (List.mem_singleton.mp z)
end
noncomputable section
variable {X:Cx} {B:Bas} {a:Expr} {m:M T} {p1 p2 p3 p4:Pos}
theorem Zd (i j:Nat) {st:Stmt} (h:PS X st (a2v (ab5 X.K "list" aax (Zz i)) (Jq j))):PS X st (sOf X.K B (Gk i j)):=h.imp fun D σ H z9=>by
  obtain ⟨st,ps,S,as,R,fl,st',e,q⟩:=z9
  obtain ⟨n,xs,t,e0,e1,e2,rfl,rfl⟩:=Q6 e
  obtain ⟨w,h1,h2,_⟩:=R.slots i _ false e0
  have r0:=h2 rfl
  cases r0 with
  | @obj _ a ha =>
    obtain ⟨a0,l0,_,vs,l1,l2⟩:=R.sto.at' n _ e1
    rw [ha] at l0; cases l0
    obtain ⟨y,hy,ry⟩:=l2.get e2
    have hy':vs[vs.length - 1]? = some y:=by rw [l2.length]; exact hy
    have R2:=R.a7g (so':=.lst xs.dropLast) (ob:=.lst vs.dropLast) e1 ha ⟨_,jl,l2.dropLast⟩
    exact ⟨_,h1,.inl ⟨rfl,_,SqL.of l1⟩,a,vs,y,rfl,rfl,l1,hy',q _ _ S as (R2.put (i:=j) ry)⟩
theorem Xc (hc:X.calm=true) (hg:Gl X "list") (hm:X.mg "list" = none) (hg2:Gl X "reversed") (hm2:X.mg "reversed" = none) (ha:PE X a (tOf X.K B m))
    (hs:starEach [a] X.env=(false,eval a X.env)::starEach [] X.env:=by rfl) (hp2:(backTo p3 (starEach [] X.env)).any (·.1)=false:=by rfl)
    (he:starEach [.Call (.Name "reversed" p2) [a] [] p3] X.env=(false,eval (.Call (.Name "reversed" p2) [a] [] p3) X.env)::starEach [] X.env:=by rfl) (hpl:(backTo p4 (starEach [] X.env)).any (·.1)=false:=by rfl) :
    PE X (.Call (.Name "list" p1) [.Call (.Name "reversed" p2) [a] [] p3] [] p4) (tOf X.K B (Im m)):=by
  intro pins s σ H Q I z8
  obtain ⟨st,ps,S,as,R,t,st',ev,q⟩:=z8
  obtain ⟨xs,st1,e1,rfl,rfl⟩:=Rq ev
  refine wpAny_Call_Name_kw (Jc I hg hm PyProof.Rows.boot_list ?_ (by decide) (by decide))
  refine PyProof.Rows.callWith_type1 ?_ he hpl
  rw [he]
  change wpAny _ _ (spliced ((false,eval (.Call (.Name "reversed" p2) [a] [] p3) X.env)::backTo p4 (starEach [] X.env))) _ _ s
  refine Calls.spliced_cons ?_
  have pa:=sy ha vq hs
  refine Call_ (Jc I hg2 hm2 (by rfl) (PyProof.Rows.callWith_type1 (thn (pa p3 pins s σ H (fun vs H2=>∃ c ws S2 as2,vs=[.ref c]∧Rel X.K B st1 σ H2 ps S2 as2∧SqL X.K S2 c ws∧ux X.K S2 as2 ws xs) I ?_) fun us s2 ⟨vs,H1,I1,r1,q1⟩=>?_) hs hp2))
  · refine ⟨st,ps,S,as,R,_,st1,e1,fun v H1 S1 as1 R1=>?_⟩
    have tp:=R1.top
    cases tp with
    | @lst c ws xs g1 g2=>exact ⟨c,ws,S1,as1,rfl,R1.drop,g1,g2⟩
  obtain ⟨c,ws,S2,as2,rfl,R2,w1,g1⟩:=q1
  cases r1 with
  | cons r rr =>
    cases rr
    cases r
    obtain ⟨its,vv,hl,hz⟩:=I1.list (mq R2.sub w1)
    have hlen:=vv.length
    have lt:c<s2.heap.objs.size:=by obtain ⟨o,ho,_⟩:=hl.isList; exact Heap.lt_size ho
    refine call_reversed_list hl.isList (Calls.spliced_nil ?_)
    have up:∀ b o,s2.heap.get? b=some o→(s2.heap.push (revObj c ((its.toArray.size:Int) - 1))).get? b=some o:=fun b o e=>Heap.get?_push_of_some _ e
    have lt2:s2.heap.objs.size<(s2.heap.push (revObj c ((its.toArray.size:Int) - 1))).objs.size:=Heap.lt_size (Heap.get?_push_size s2.heap (o:=revObj c ((its.toArray.size:Int) - 1)) rfl)
    refine a1f (s:={ s2 with heap:=s2.heap.push (revObj c ((its.toArray.size:Int) - 1)) }) (l:=c) (it:=s2.heap.objs.size) (xs:=its.toArray) (I1.ok.hd hc) (Nat.ne_of_lt lt) ⟨_,Heap.get?_push_size _ rfl,rfl,rfl⟩ (hl.isList.at fun o e=>up _ o e) (by rw [List.size_toArray]; omega) fun h' tk c0 kp at'=>?_
    have sz':s2.heap.objs.size≤(s2.heap.push (revObj c ((its.toArray.size:Int) - 1))).objs.size:=Nat.le_of_lt lt2
    have hf:H1 (s2.heap.push (revObj c ((its.toArray.size:Int) - 1))).objs.size=none:=I1.hok.fresh sz'
    refine ⟨.ref _,_,I1.laid (a:=(s2.heap.push (revObj c ((its.toArray.size:Int) - 1))).objs.size) (o:=.lst ws.reverse) (h':=h') (t':=tk) (fun b o e=>kp b o (Nat.ne_of_lt (Heap.lt_size e)) (up b o e)) sz' ?_,rfl,q _ _ _ _ (R2.newObj hf ⟨_,jl,g1.reverse.mono (Same.refl _) ⟨[_],rfl⟩⟩)⟩
    exact ⟨by rw [List.length_reverse]; exact hz,its.reverse,c0,by simpa using vv.reverse,by simpa using at'⟩
end
end C
end
noncomputable section
set_option linter.all false
namespace K
open C PySem
noncomputable def zx:Fn:=gk 6
  (j9 (sNew 2 (ao (.dic [])))
  (j9 (lu (jz [3,4]) (jo (bw 1))
  (Bo 2 (bw 3) (mOp jk (Gd 2 (bw 3) (ao (.int 0))) (bw 4))))
  (j9 (jg 5 (qp 1 [2] (hName 0) (jo (iu Lp (ak (bw 2) fj))) (dj (mOp neO (mOp gq (bw 1) (bw 0)) (ao (.int 0)))) (iu (fun l=>some (.tup l)) (ak (bw 0) (ak (mOp gq (bw 1) (bw 0)) fj)))))
  (jh (iu (fun l=>some (.tup l)) (ak (bw 0) (ak (iu Ag (ak (bw 5) fj)) fj)))))))
noncomputable def Jh:Fn:=gk 2
  (jh (dw zx (ak (mOp jk (mOp gq (bw 0) (ao (.int 0))) (mOp gq (bw 1) (ao (.int 0)))) (ak (mOp jk (mOp gq (bw 0) (ao (.int 1))) (mOp gq (bw 1) (ao (.int 1)))) fj))))
noncomputable def uh:Fn:=gk 6
  (j9 (sNew 2 (iu Ed (ak (mOp gq (bw 0) (ao (.int 0))) fj)))
  (j9 (sNew 3 (iu Ed (ak (mOp gq (bw 0) (ao (.int 1))) fj)))
  (j9 (sNew 4 (mUn a9l (iu Ed (ak (bw 1) fj))))
  (j9 (wk 1000 (dj (mOp gtT (yh 4) (ao (.int 0))))
  (j9 (Xp 4 5)
  (sIf (dj (mOp eqO (mOp gq (bw 5) (ao (.int 0))) (ao (.str "and"))))
  (cu 4 (mUn a2i (mOp gq (bw 5) (ao (.int 1)))))
  (sIf (dj (mOp eqO (mOp gq (bw 5) (ao (.int 0))) (ao (.str "or"))))
  (c7 3 (mOp gq (bw 5) (ao (.int 1))))
  (c7 2 (bw 5))))))
  (jh (iu (fun l=>some (.tup l)) (ak (bw 2) (ak (bw 3) fj))))))))
noncomputable def jq:Fn:=gk 1
  (jh (mIf (dj (iu isTup (ak (bw 0) fj))) (iu Ag (ak (bw 0) fj)) (iu (fun l=>some (.tup l)) fj)))
noncomputable def lg:Fn:=gk 3
  (jh (iw (jw (dj (mOp eqO (iu jx (ak (bw 0) fj)) (bw 2))) (dj (iw (jw (dj (iu isStr (ak (mOp gq (bw 0) (ao (.int 0))) fj))) (dj (mOp eqO (mOp gq (bw 0) (ao (.int 0))) (bw 1)))))))))
noncomputable def su:Fn:=gk 1
  (jh (iw (jw (dj (iu isInt (ak (bw 0) fj))) (dj (iw (m7 (dj (iu a95 (ak (bw 0) fj)))))))))
noncomputable def vd:Fn:=gk 2
  (jh (iw (jw (dj (mOp leT (ao (.int 0)) (bw 0))) (dj (mOp ltT (bw 0) (iu jx (ak (bw 1) fj)))))))
noncomputable def oh:Fn:=gk 5
  (j9 (sIf (mOr (m7 (dj (dw vd (ak (bw 1) (ak (mOp gq (bw 0) (ao (.int 1))) fj))))) (m7 (dj (iu isTup (ak (bw 2) fj)))))
  (jh (ao .non))
  jt)
  (j9 (jg 3 (mOp gq (mOp gq (bw 0) (ao (.int 1))) (bw 1)))
  (j9 (jg 4 (dw jq (ak (bw 2) fj)))
  (j9 (sIf (dj (mOp neO (iu jx (ak (bw 4) fj)) (iu jx (ak (bw 3) fj))))
  (jh (ao .non))
  jt)
  (jh (qp 2 [0] (jz [0,1]) (a4c (bw 3) (bw 4)) gw (iu (fun l=>some (.tup l)) (ak (dw uh (ak (bw 2) (ak (iu (fun l=>some (.lst l)) (ak (bw 0) fj)) fj))) (ak (bw 1) fj)))))))))
noncomputable def wu:Fn:=gk 2
  (jh (iu (fun l=>some (.tup l)) (ak (ao (.str "most")) (ak (iu (fun l=>some (.tup l)) (ak (mUn mj (bw 1)) (ak (iu (fun l=>some (.tup l)) (ak (iu (fun l=>some (.tup l)) (ak (bw 0) (ak (ao (.int 1)) fj))) fj)) fj))) fj))))
noncomputable def vf:Fn:=gk 2
  (jh (iu (fun l=>some (.tup l)) (ak (ao (.str "most")) (ak (iu (fun l=>some (.tup l)) (ak (bw 1) (ak (iu (fun l=>some (.tup l)) (ak (iu (fun l=>some (.tup l)) (ak (bw 0) (ak (mUn mj (ao (.int 1))) fj))) fj)) fj))) fj))))
noncomputable def qz:Fn:=gk 8
  (j9 (jg 5 (qp 1 [2] (hName 0) (jo (bw 0)) (jw (dj (iu isStr (ak (bw 1) fj))) (dj (mOp eqO (bw 0) (bw 1)))) (bw 0)))
  (j9 (sIf (dj (mOp neO (iu jx (ak (bw 5) fj)) (ao (.int 1))))
  (jh (ao .non))
  jt)
  (j9 (jg 6 (dw uh (ak (bw 1) (ak (iu (fun l=>some (.lst l)) (ak (dw wu (ak (mOp gq (bw 5) (ao (.int 0))) (ak (bw 3) fj))) fj)) fj))))
  (j9 (jg 7 (dw uh (ak (bw 1) (ak (iu (fun l=>some (.lst l)) (ak (dw vf (ak (mOp gq (bw 5) (ao (.int 0))) (ak (mOp jk (bw 3) (ao (.int 1))) fj))) fj)) fj))))
  (jh (iu (fun l=>some (.lst l)) (ak (iu (fun l=>some (.tup l)) (ak (bw 6) (ak (mOp gq (bw 4) (ao (.int 0))) fj))) (ak (iu (fun l=>some (.tup l)) (ak (bw 7) (ak (mOp gq (bw 4) (ao (.int 1))) fj))) fj))))))))
noncomputable def um:Fn:=gk 6
  (j9 (jg 2 (ao (.int 0)))
  (j9 (sNew 3 (iu (fun l=>some (.lst l)) fj))
  (j9 (lu (hName 4) (jo (bw 1))
  (j9 (jg 5 (mOp gq (mOp gq (bw 0) (mOp gq (bw 4) (ao (.int 0)))) (ao (.int 1))))
  (j9 (jg 2 (mOp jk (bw 2) (mOp Ej (mOp gq (bw 4) (mUn mj (ao (.int 1)))) (mOp gq (bw 5) (ao (.int 0))))))
  (cu 3 (qp 2 [4] (jz [0,1]) (jo (mOp gq (bw 5) (ao (.int 1)))) gw (iu (fun l=>some (.tup l)) (ak (bw 0) (ak (mOp Ej (mOp gq (bw 2) (mUn mj (ao (.int 1)))) (bw 1)) fj))))))))
  (jh (dw zx (ak (bw 2) (ak (bw 3) fj)))))))
noncomputable def ud:Fn:=gk 3
  (jh (iw (jw (dj (dw vd (ak (bw 1) (ak (bw 0) fj)))) (dj (mOp eqO (mOp gq (mOp gq (bw 0) (bw 1)) (ao (.int 0))) (bw 2))))))
noncomputable def nj:Fn:=gk 2
  (jh (iw (jw (dj (mOp eqO (iu jx (ak (bw 1) fj)) (ao (.int 2)))) (dj (iw (jw (dj (dw ud (ak (bw 0) (ak (mOp gq (bw 1) (ao (.int 0))) (ak (ao (.str "most")) fj))))) (dj (mOp gtT (mOp gq (bw 1) (ao (.int 1))) (ao (.int 0))))))))))
noncomputable def Cj:Fn:=gk 3
  (j9 (sIf (m7 (dj (iu a1e (ak (qp 1 [0] (hName 0) (jo (bw 1)) gw (dw nj (ak (bw 1) (ak (bw 0) fj)))) fj))))
  (jh (ao (.bl false)))
  jt)
  (j9 (jg 2 (dw um (ak (bw 0) (ak (bw 1) fj))))
  (jh (iw (jw (dj (mOp eqO (mOp gq (bw 2) (ao (.int 1))) (iu (fun l=>some (.tup l)) fj))) (dj (mOp gtT (mOp gq (bw 2) (ao (.int 0))) (ao (.int 0)))))))))
noncomputable def qx:Fn:=gk 3
  (j9 (sIf (mOr (m7 (dj (dw ud (ak (bw 0) (ak (bw 1) (ak (ao (.str "most")) fj)))))) (m7 (dj (dw ud (ak (bw 0) (ak (bw 2) (ak (ao (.str "most")) fj)))))))
  (jh (ao (.bl false)))
  jt)
  (jh (mOp eqO (dw Jh (ak (mOp gq (mOp gq (bw 0) (bw 1)) (ao (.int 1))) (ak (mOp gq (mOp gq (bw 0) (bw 2)) (ao (.int 1))) fj))) (iu (fun l=>some (.tup l)) (ak (ao (.int 0)) (ak (iu (fun l=>some (.tup l)) fj) fj))))))
noncomputable def m6:Fn:=gk 3
  (j9 (sIf (dj (mOp eqO (iu jx (ak (bw 2) fj)) (ao (.int 3))))
  (jh (iw (jw (dj (dw qx (ak (bw 0) (ak (mOp gq (bw 2) (ao (.int 0))) (ak (mOp gq (bw 2) (ao (.int 1))) fj))))) (dj (mOp neO (mOp gq (bw 2) (ao (.int 2))) (ao (.int 0)))))))
  jt)
  (j9 (sIf (dj (mOp eqO (iu jx (ak (bw 2) fj)) (ao (.int 2))))
  (jh (iw (jw (dj (dw ud (ak (bw 0) (ak (mOp gq (bw 2) (ao (.int 0))) (ak (ao (.str "rest")) fj))))) (dj (iw (jw (dj (mOp neO (mOp gq (bw 2) (ao (.int 1))) (ao (.int 0)))) (dj (mOp eqO (mOp jj (mOp Ej (mOp gq (bw 2) (ao (.int 1))) (mOp gq (mOp gq (bw 0) (mOp gq (bw 2) (ao (.int 0)))) (ao (.int 2)))) (bw 1)) (ao (.int 0))))))))))
  jt)
  (jh (ao (.bl false)))))
noncomputable def Ab:Fn:=gk 4
  (j9 (sIf (mOr (dj (mOp ltT (bw 1) (ao (.int 2)))) (m7 (dj (iu a1e (ak (qp 1 [0,1] (hName 0) (jo (bw 2)) gw (dw m6 (ak (bw 1) (ak (bw 2) (ak (bw 0) fj))))) fj)))))
  (jh (ao (.bl false)))
  jt)
  (j9 (jg 3 (dw um (ak (bw 0) (ak (bw 2) fj))))
  (jh (iw (jw (dj (mOp neO (mOp jj (mOp gq (bw 3) (ao (.int 0))) (bw 1)) (ao (.int 0)))) (dj (iu a1e (ak (qp 2 [1] (jz [0,1]) (jo (mOp gq (bw 3) (ao (.int 1)))) gw (mOp eqO (mOp jj (bw 1) (bw 2)) (ao (.int 0)))) fj))))))))
noncomputable def vm:Fn:=gk 2
  (j9 (jg 1 (dw jq (ak (bw 0) fj)))
  (jh (mIf (dj (iu a1e (ak (qp 1 [] (hName 0) (jo (bw 1)) gw (dw su (ak (bw 0) fj))) fj))) (iu Ag (ak (qp 1 [] (hName 0) (jo (bw 1)) gw (iu W2 (ak (bw 0) fj))) fj)) (iu (fun l=>some (.tup l)) fj))))
noncomputable def qm:Fn:=gk 1
  (jh (qp 1 [] (hName 0) (jo (dw jq (ak (bw 0) fj))) gw (dw vm (ak (bw 0) fj))))
noncomputable def j5:Fn:=gk 4
  (j9 (jg 3 (dw jq (ak (bw 2) fj)))
  (j9 (sIf (jw (dj (dw lg (ak (bw 3) (ak (ao (.str "or")) (ak (ao (.int 3)) fj))))) (dj (dw su (ak (mOp gq (bw 3) (ao (.int 1))) fj))))
  (jh (dw oh (ak (bw 1) (ak (iu W2 (ak (mOp gq (bw 3) (ao (.int 1))) fj)) (ak (mOp gq (bw 3) (ao (.int 2))) fj)))))
  jt)
  (j9 (sIf (jw (dj (dw lg (ak (bw 3) (ak (ao (.str "cut")) (ak (ao (.int 5)) fj))))) (dj (dw su (ak (mOp gq (bw 3) (ao (.int 2))) fj))))
  (jh (dw qz (ak (bw 0) (ak (bw 1) (ak (mOp gq (bw 3) (ao (.int 1))) (ak (iu W2 (ak (mOp gq (bw 3) (ao (.int 2))) fj)) (ak (Gu (bw 3) (Ov (ao (.int 3))) a4d) fj)))))))
  jt)
  (j9 (sIf (jw (dj (dw lg (ak (bw 3) (ak (ao (.str "sum")) (ak (ao (.int 2)) fj))))) (dj (dw Cj (ak (mOp gq (bw 1) (ao (.int 0))) (ak (dw qm (ak (mOp gq (bw 3) (ao (.int 1))) fj)) fj)))))
  (jh (iu (fun l=>some (.lst l)) fj))
  jt)
  (j9 (sIf (jw (dj (dw lg (ak (bw 3) (ak (ao (.str "rest")) (ak (ao (.int 3)) fj))))) (jw (dj (dw su (ak (mOp gq (bw 3) (ao (.int 1))) fj))) (dj (dw Ab (ak (mOp gq (bw 1) (ao (.int 0))) (ak (iu W2 (ak (mOp gq (bw 3) (ao (.int 1))) fj)) (ak (dw qm (ak (mOp gq (bw 3) (ao (.int 2))) fj)) fj)))))))
  (jh (iu (fun l=>some (.lst l)) fj))
  jt)
  (jh (ao .non)))))))
noncomputable def v7:Fn:=gk 5
  (j9 (sNew 1 (iu (fun l=>some (.lst l)) fj))
  (j9 (lu (jz [2,3,4]) (jo (bw 0))
  (j9 (c7 1 (dw vf (ak (bw 2) (ak (bw 3) fj))))
  (c7 1 (dw wu (ak (bw 2) (ak (bw 4) fj))))))
  (jh (iu (fun l=>some (.tup l)) (ak (bw 1) (ak (iu (fun l=>some (.lst l)) fj) fj))))))
noncomputable def qu:Fn:=gk 7
  (j9 (jg 3 (qp 3 [] (jz [0,1,2]) (jo (bw 0)) gw (bw 0)))
  (j9 (sNew 4 (iu (fun l=>some (.lst l)) (ak (iu (fun l=>some (.tup l)) (ak (dw uh (ak (dw v7 (ak (bw 0) fj)) (ak (bw 1) fj))) (ak (bw 2) (ak (ao (.int 1)) fj)))) fj)))
  (j9 (wk 1000 (dj (mOp gtT (yh 4) (ao (.int 0))))
  (j9 (Xp 4 5)
  (j9 (jg 6 (ao .non))
  (j9 (sIf (dj (mOp leT (mOp gq (bw 5) (ao (.int 2))) (ao (.int 90))))
  (jg 6 (dw j5 (ak (bw 3) (ak (mOp gq (bw 5) (ao (.int 0))) (ak (mOp gq (bw 5) (ao (.int 1))) fj)))))
  jt)
  (j9 (sIf (dj (mOp a3q (bw 6) (ao .non)))
  (jh (ao (.bl false)))
  jt)
  (cu 4 (qp 2 [5] (jz [0,1]) (jo (bw 6)) gw (iu (fun l=>some (.tup l)) (ak (bw 0) (ak (bw 1) (ak (mOp jk (mOp gq (bw 2) (ao (.int 2))) (ao (.int 1))) fj)))))))))))
  (jh (ao (.bl true))))))
noncomputable def jf:Fn:=gk 2
  (j9 (sIf (dj (mOp ltT (bw 1) (iu jx (ak (bw 0) fj))))
  (jh (mOp gq (bw 0) (bw 1)))
  jt)
  (jh (ao (.int 0))))
noncomputable def uf:Fn:=gk 2
  (j9 (sIf (dj (mOp ltT (bw 0) (ao (.int 0))))
  (jh (mUn mj (mOp jj (mUn mj (bw 0)) (bw 1))))
  jt)
  (jh (mOp jj (bw 0) (bw 1))))
noncomputable def Bs:Fn:=gk 8
  (j9 (sNew 1 (iu (fun l=>some (.lst l)) fj))
  (j9 (sNew 2 (ao (.dic [])))
  (j9 (lu (hName 3) (dz (mOp jk (ao (.int 1)) (mOp jj (dw jf (ak (bw 0) (ak (ao (.int 0)) fj))) (ao (.int 4)))))
  (j9 (jg 4 (dw jf (ak (bw 0) (ak (mOp jk (ao (.int 1)) (bw 3)) fj))))
  (j9 (jg 5 (mOp gq (iu (fun l=>some (.lst l)) (ak (dw uf (ak (bw 4) (ak (ao (.int 9)) fj))) (ak (dw uf (ak (bw 4) (ak (mOp Ej (ao (.int 9)) (mOp a3h (ao (.int 10)) (ao (.int 29)))) fj))) fj))) (mOp jj (mOp gb (dw jf (ak (bw 0) (ak (ao (.int 0)) fj))) (ao (.int 4))) (ao (.int 2)))))
  (j9 (jg 6 (mOp jj (mOp gb (bw 4) (ao (.int 9))) (mOp gq (iu (fun l=>some (.lst l)) (ak (ao (.int 5)) (ak (mOp a3h (ao (.int 10)) (ao (.int 29))) fj))) (mOp jj (mOp gb (dw jf (ak (bw 0) (ak (ao (.int 0)) fj))) (ao (.int 8))) (ao (.int 2))))))
  (j9 (jg 7 (mOp gq (iu (fun l=>some (.lst l)) (j6 ["x","y","@p","z1"])) (bw 3)))
  (j9 (c7 1 (iu (fun l=>some (.tup l)) (ak (bw 7) (ak (bw 5) (ak (mOp jk (bw 5) (bw 6)) fj)))))
  (Bo 2 (bw 7) (mOp jk (bw 5) (mOp jj (mOp gb (bw 4) (ao (.int 7))) (mOp jk (bw 6) (ao (.int 1))))))))))))
  (jh (iu (fun l=>some (.tup l)) (ak (bw 1) (ak (bw 2) fj)))))))
noncomputable def uc:Fn:=gk 5
  (j9 (sNew 2 (iu (fun l=>some (.lst l)) fj))
  (j9 (lu (hName 3) (dz (iu jx (ak (bw 1) fj)))
  (j9 (jg 4 (mOp lq (mOp jj (mOp gb (bw 0) (mOp gq (iu (fun l=>some (.lst l)) (ak (ao (.int 1)) (ak (ao (.int 5)) (ak (ao (.int 25)) (ak (ao (.int 125)) fj))))) (bw 3))) (ao (.int 5))) (ao (.int 2))))
  (sIf (dj (mOp neO (bw 4) (ao (.int 0))))
  (c7 2 (iu (fun l=>some (.tup l)) (ak (mOp gq (mOp gq (bw 1) (bw 3)) (ao (.int 0))) (ak (bw 4) fj))))
  jt)))
  (jh (iu Ag (ak (iu Et (ak (bw 2) fj)) fj)))))
noncomputable def wz:Fn:=gk 2
  (jh (iu aa3 (ak (qp 2 [1] (jz [0,1]) (jo (bw 0)) gw (mOp Ej (bw 1) (mOp gq (bw 2) (bw 0)))) fj)))
noncomputable def vg:Fn:=gk 6
  (j9 (jg 3 (dw uc (ak (mOp gb (bw 0) (ao (.int 4))) (ak (bw 1) fj))))
  (j9 (jg 4 (dw wz (ak (bw 3) (ak (bw 2) fj))))
  (j9 (sIf (dj (mOp ltT (mOp jj (bw 0) (ao (.int 4))) (ao (.int 2))))
  (jh (iu (fun l=>some (.tup l)) (ak (ao (.str "most")) (ak (iu (fun l=>some (.tup l)) (ak (mOp lq (mUn mj (bw 4)) (mOp Ej (mOp jj (bw 0) (ao (.int 2))) (mOp jj (mOp gb (bw 0) (ao (.int 2500))) (ao (.int 4))))) (ak (bw 3) fj))) fj))))
  jt)
  (j9 (jg 5 (mOp jk (ao (.int 2)) (mOp jj (mOp gb (bw 0) (ao (.int 2500))) (ao (.int 11)))))
  (jh (iu (fun l=>some (.tup l)) (ak (ao (.str "rest")) (ak (iu (fun l=>some (.tup l)) (ak (mOp jk (mUn mj (bw 4)) (mOp Ej (bw 5) (mOp lq (mOp jj (mOp gb (bw 0) (ao (.int 27500))) (ao (.int 3))) (ao (.int 1))))) (ak (bw 3) fj))) (ak (bw 5) fj)))))))))
noncomputable def yx:Fn:=gk 7
  (j9 (jg 3 (mOp jj (bw 0) (ao (.int 5))))
  (j9 (jg 4 (dw vg (ak (mOp gb (bw 0) (ao (.int 5))) (ak (bw 1) (ak (bw 2) fj)))))
  (j9 (jg 5 (dw vg (ak (mOp gb (bw 0) (ao (.int 500000))) (ak (bw 1) (ak (bw 2) fj)))))
  (j9 (jg 6 (iu (fun l=>some (.tup l)) (ak (ao (.str "most")) (ak (iu (fun l=>some (.tup l)) (ak (mOp lq (mOp jj (mOp gb (bw 0) (ao (.int 7))) (ao (.int 9))) (ao (.int 4))) (ak (dw uc (ak (mOp gb (bw 0) (ao (.int 63))) (ak (bw 1) fj))) fj))) fj))))
  (jh (mOp gq (iu (fun l=>some (.lst l)) (ak (bw 4) (ak (bw 4) (ak (iu (fun l=>some (.tup l)) (ak (ao (.str "and")) (ak (iu (fun l=>some (.tup l)) (ak (bw 4) (ak (bw 5) fj))) fj))) (ak (iu (fun l=>some (.tup l)) (ak (ao (.str "or")) (ak (iu (fun l=>some (.tup l)) (ak (bw 6) (ak (bw 4) fj))) fj))) (ak (iu (fun l=>some (.tup l)) (ak (ao (.str "or")) (ak (iu (fun l=>some (.tup l)) (ak (bw 4) (ak (bw 6) (ak (iu (fun l=>some (.tup l)) (ak (ao (.str "or")) (ak (iu (fun l=>some (.tup l)) fj) fj))) fj)))) fj))) fj)))))) (bw 3)))))))
noncomputable def uq:Fn:=gk 6
  (j9 (sNew 3 (iu (fun l=>some (.lst l)) fj))
  (j9 (lu (hName 4) (dz (mOp jk (ao (.int 1)) (mOp jj (bw 0) (ao (.int 4)))))
  (j9 (jg 5 (mOp gb (bw 0) (mOp gq (iu (fun l=>some (.lst l)) (ak (ao (.int 4)) (ak (ao (.int 44)) (ak (ao (.int 484)) (ak (ao (.int 5324)) fj))))) (bw 4))))
  (sIf (jw (dj (bw 2)) (dj (mOp eqO (mOp jj (bw 5) (ao (.int 2))) (ao (.int 1)))))
  (c7 3 (iu (fun l=>some (.tup l)) (ak (mOp jj (mOp gb (bw 5) (ao (.int 2))) (bw 1)) (ak (mOp jj (mOp gb (bw 5) (ao (.int 4))) (bw 1)) (ak (mOp jk (ao (.int 1)) (mOp jj (mOp gb (bw 5) (ao (.int 8))) (ao (.int 3)))) fj)))))
  (c7 3 (iu (fun l=>some (.tup l)) (ak (mOp jj (mOp gb (bw 5) (ao (.int 2))) (bw 1)) (ak (mOp lq (mOp jj (mOp gb (bw 5) (ao (.int 4))) (ao (.int 8))) (ao (.int 2))) fj)))))))
  (jh (iu Ag (ak (bw 3) fj)))))
mutual
noncomputable def qg:Nat→Fn
  | 0=>fun _ _=>none
  | n+1=>gk 11
      (j9 (jg 5 (ao (.int 0)))
      (j9 (sIf (dj (mOp gtT (Bp (bw 0)) (ao (.int 0))))
      (Gk 0 5)
      jt)
      (j9 (jg 6 (mOp jj (bw 5) (ao (.int 7))))
      (j9 (sIf (mOr (dj (mOp eqO (bw 4) (ao (.int 0)))) (mOr (dj (mOp eqO (Bp (bw 0)) (ao (.int 0)))) (dj (mOp ltT (bw 6) (ao (.int 2))))))
      (j9 (sIf (dj (mOp eqO (mOp jj (mOp gb (bw 5) (ao (.int 7))) (ao (.int 2))) (ao (.int 0))))
      (jh (iu (fun l=>some (.tup l)) (ak (ao (.str "sum")) (ak (dw uq (ak (mOp gb (bw 5) (ao (.int 14))) (ak (bw 3) (ak (ao (.bl false)) fj)))) fj))))
      jt)
      (jh (iu (fun l=>some (.tup l)) (ak (ao (.str "rest")) (ak (mOp jk (ao (.int 2)) (mOp jj (mOp gb (bw 5) (ao (.int 14))) (ao (.int 11)))) (ak (dw uq (ak (mOp gb (bw 5) (ao (.int 154))) (ak (bw 3) (ak (ao (.bl true)) fj)))) fj))))))
      jt)
      (j9 (sIf (dj (mOp ltT (bw 6) (ao (.int 5))))
      (j9 (jg 7 (mOp gq (mOp gq (bw 1) (mOp jj (mOp gb (bw 5) (ao (.int 7))) (iu jx (ak (bw 1) fj)))) (ao (.int 0))))
      (j9 (jg 8 (mOp lq (mOp jk (mOp gq (bw 2) (bw 7)) (mOp jj (mOp gb (bw 5) (ao (.int 28))) (ao (.int 5)))) (ao (.int 2))))
      (j9 (jg 9 (dw (qg n) (ak (bw 0) (ak (bw 1) (ak (bw 2) (ak (mOp jk (bw 3) (ao (.int 1))) (ak (mOp lq (bw 4) (ao (.int 1))) fj)))))))
      (jh (iu (fun l=>some (.tup l)) (ak (ao (.str "cut")) (ak (bw 7) (ak (bw 8) (ak (bw 9) (ak (dw (qg n) (ak (bw 0) (ak (bw 1) (ak (bw 2) (ak (mOp jk (bw 3) (ao (.int 1))) (ak (mOp lq (bw 4) (ao (.int 1))) fj)))))) fj))))))))))
      jt)
      (j9 (sNew 10 (iu (fun l=>some (.lst l)) fj))
      (j9 (lu (hName 8) (dz (mOp jj (mOp gb (bw 5) (ao (.int 7))) (ao (.int 4))))
      (c7 10 (dw (qg n) (ak (bw 0) (ak (bw 1) (ak (bw 2) (ak (mOp jk (bw 3) (ao (.int 1))) (ak (mOp lq (bw 4) (ao (.int 1))) fj))))))))
      (jh (iu (fun l=>some (.tup l)) (ak (ao (.str "or")) (ak (mOp jj (mOp gb (bw 5) (ao (.int 28))) (ao (.int 4))) (ak (iu Ag (ak (bw 10) fj)) fj))))))))))))
end
noncomputable def xg:Fn:=gk 16
  (j9 (jg 4 (qp 3 [2] (jz [0,1,2]) (jo (bw 0)) gw (iu (fun l=>some (.tup l)) (ak (bw 0) (ak (mOp gq (bw 3) (bw 0)) (ak (mOp gq (bw 3) (bw 0)) fj))))))
  (j9 (jg 5 (dw uc (ak (bw 3) (ak (bw 0) fj))))
  (j9 (jg 6 (iu (fun l=>some (.tup l)) (ak (ao (.str "most")) (ak (iu (fun l=>some (.tup l)) (ak (mOp lq (mOp jk (ao (.int 1)) (mOp jj (mOp gb (bw 3) (ao (.int 625))) (ao (.int 9)))) (dw wz (ak (bw 5) (ak (bw 2) fj)))) (ak (bw 5) fj))) fj))))
  (j9 (sNew 7 (iu (fun l=>some (.lst l)) (ak (iu (fun l=>some (.tup l)) (ak (mOp Ej (ao (.int 2)) (iu jx (ak (bw 0) fj))) (ak (ao (.int 1)) fj))) fj)))
  (j9 (lu (jz [8,9]) (jo (bw 5))
  (j9 (jg 10 (mOp J6 (qp 1 [] (hName 0) (jo (bw 0)) gw (mOp gq (bw 0) (ao (.int 0)))) (bw 8)))
  (c7 7 (iu (fun l=>some (.tup l)) (ak (mOp jk (mOp Ej (ao (.int 2)) (bw 10)) (iu W2 (ak (mOp ltT (bw 9) (ao (.int 0))) fj))) (ak (iu ni (ak (bw 9) fj)) fj))))))
  (j9 (jg 11 (iu (fun l=>some (.tup l)) (ak (ao (.str "sum")) (ak (iu Ag (ak (bw 7) fj)) fj))))
  (j9 (sIf (mOr (dj (mOp En (dw qu (ak (bw 4) (ak (mOp jk (iu (fun l=>some (.lst l)) (ak (bw 6) fj)) (bw 1)) (ak (bw 11) fj)))) (ao (.bl true)))) (dj (mOp En (dw qu (ak (bw 4) (ak (bw 1) (ak (bw 11) fj)))) (ao (.bl false)))))
  (jh (ao (.bl false)))
  jt)
  (j9 (jg 12 (iu (fun l=>some (.tup l)) (ak (ao (.str "or")) (ak (ao (.int 0)) (ak (iu (fun l=>some (.tup l)) (ak (bw 11) (ak (iu (fun l=>some (.tup l)) (ak (ao (.str "sum")) (ak (iu (fun l=>some (.tup l)) fj) fj))) fj))) fj)))))
  (j9 (sIf (dj (mOp En (dw qu (ak (bw 4) (ak (iu (fun l=>some (.lst l)) (ak (iu (fun l=>some (.tup l)) (ak (ao (.str "or")) (ak (iu (fun l=>some (.tup l)) (ak (bw 6) (ak (iu (fun l=>some (.tup l)) (ak (ao (.str "and")) (ak (iu (fun l=>some (.tup l)) fj) fj))) fj))) fj))) fj)) (ak (bw 12) fj)))) (ao (.bl false))))
  (jh (ao (.bl false)))
  jt)
  (j9 (jg 10 (mOp jj (bw 3) (iu jx (ak (bw 0) fj))))
  (j9 (jg 8 (mOp gq (mOp gq (bw 0) (bw 10)) (ao (.int 0))))
  (j9 (lu (hName 13) (jo (iu (fun l=>some (.lst l)) (ak (mOp lq (mOp gq (bw 2) (bw 8)) (ao (.int 1))) (ak (mOp gq (bw 2) (bw 8)) (ak (mOp jk (mOp gq (bw 2) (bw 8)) (ao (.int 1))) fj)))))
  (j9 (jg 14 (iu (fun l=>some (.tup l)) (ak (ao (.str "sum")) (ak (iu (fun l=>some (.tup l)) (ak (iu (fun l=>some (.tup l)) (ak (mOp Ej (ao (.int 2)) (bw 10)) (ak (ao (.int 1)) fj))) (ak (iu (fun l=>some (.tup l)) (ak (mOp Ej (ao (.int 2)) (iu jx (ak (bw 0) fj))) (ak (ao (.int 1)) fj))) fj))) fj))))
  (j9 (jg 15 (iu (fun l=>some (.tup l)) (ak (ao (.str "sum")) (ak (iu (fun l=>some (.tup l)) (ak (iu (fun l=>some (.tup l)) (ak (mOp jk (mOp Ej (ao (.int 2)) (bw 10)) (ao (.int 1))) (ak (ao (.int 1)) fj))) (ak (iu (fun l=>some (.tup l)) (ak (mOp Ej (ao (.int 2)) (iu jx (ak (bw 0) fj))) (ak (ao (.int 1)) fj))) fj))) fj))))
  (sIf (dj (mOp En (dw qu (ak (bw 4) (ak (iu (fun l=>some (.lst l)) fj) (ak (iu (fun l=>some (.tup l)) (ak (ao (.str "cut")) (ak (bw 8) (ak (bw 13) (ak (bw 14) (ak (bw 15) fj)))))) fj)))) (ao (.bl false))))
  (jh (ao (.bl false)))
  jt))))
  (jh (ao (.bl true)))))))))))))))
noncomputable def Z9:Fn:=gk 8
  (j9 (sGo (jz [1,2]) (dw Bs (ak (bw 0) fj)))
  (j9 (sNew 3 (iu (fun l=>some (.lst l)) fj))
  (j9 (lu (hName 4) (dz (mOp jk (ao (.int 1)) (mOp jj (mOp gb (dw jf (ak (bw 0) (ak (ao (.int 0)) fj))) (ao (.int 16))) (ao (.int 6)))))
  (c7 3 (dw yx (ak (dw jf (ak (bw 0) (ak (mOp jk (ao (.int 5)) (bw 4)) fj))) (ak (bw 1) (ak (bw 2) fj))))))
  (j9 (jg 5 (Im (Gu (bw 0) (Ov (ao (.int 11))) (Ov (ao (.int 63))))))
  (j9 (lu (hName 6) (dz (ao (.int 12)))
  (j9 (jg 7 (dw (qg 40) (ak (bw 5) (ak (bw 1) (ak (bw 2) (ak (mOp jk (mOp Ej (ao (.int 2)) (iu jx (ak (bw 1) fj))) (ao (.int 4))) (ak (ao (.int 8)) fj)))))))
  (sIf (dj (mOp En (dw qu (ak (bw 1) (ak (bw 3) (ak (bw 7) fj)))) (ao (.bl false))))
  (jh (ao (.bl false)))
  jt)))
  (j9 (lu (hName 4) (dz (ao (.int 4)))
  (sIf (m7 (dj (dw xg (ak (bw 1) (ak (bw 3) (ak (bw 2) (ak (dw jf (ak (bw 0) (ak (mOp jk (ao (.int 11)) (bw 4)) fj))) fj)))))))
  (jh (ao (.bl false)))
  jt))
  (jh (ao (.bl true)))))))))
end K
end
noncomputable section
set_option linter.all false
set_option maxRecDepth 100000
set_option maxHeartbeats 8000000
namespace D
open PySem L2 C
noncomputable def top (i:Nat):Stmt:=PySem.Challenge.pw_calm_k48_whole_any_paper_is_sound.main.body.getD i (.Pass ⟨0,0,0,0⟩)
noncomputable abbrev ll1:List Str:=["_law_rows_here","_law_forms","_law_book","_law_digits","_law_held","_law_parts","_law_atom_here","_law_paper_rows","_law_box","_law_times","_law_at_here","_law_paper_here","_law_both","_law_k","_law_low","_law_high"]
noncomputable abbrev ll2:List Str:=["_law_cells","_law_rows_here","_law_book","_law_many","_law_deep","_law_cell","_law_kind","_law_box","_law_k","_law_low","_law_papers"]
noncomputable abbrev ll3:List Str:=["_law_script","_law_rows_here","_law_book","_law_forms","_law_k","_law_cells","_law_turn","_law_paper_here"]
noncomputable abbrev ll4:List Str:=["_law_script","_law_rows_here","_law_book","_law_k","_law_cell","_law_low","_law_many","_law_box"]
noncomputable abbrev ll5:List Str:=["_law_digits","_law_rows_here","_law_book","_law_kind","_law_one","_law_other","_law_any_one"]
noncomputable abbrev ll6:List Str:=["_law_digits","_law_many","_law_triples","_law_rows_here","_law_k","_law_more"]
noncomputable abbrev ll7:List Str:=["_law_digits","_law_rows_here","_law_book","_law_parts","_law_here","_law_m"]
noncomputable abbrev ll8:List Str:=["_law_cells","_law_rows_here","_law_book","_law_many","_law_deep"]
noncomputable abbrev ll9:List Str:=["_law_digits","_law_rows_here","_law_parts","_law_k","_law_many"]
noncomputable abbrev abj:List Str:=["names","lists","box","number","papers","boxes","low","high"]
noncomputable abbrev abk:List Str:=["rows","forms","paper","names","waiting","reading","inner"]
noncomputable abbrev a71:List Str:=["_law_rows_here","_law_forms","_law_book","_law_digits"]
noncomputable abbrev ab3:List Str:=["lists","forms","atoms","ors","waiting","form"]
noncomputable abbrev aaw:List Str:=["number","pairs","times","box","many","parts"]
noncomputable abbrev a9w:List Str:=["atoms","rows","number","pairs","row","one"]
noncomputable abbrev a9r:List Str:=["_law_box","_law_low","_law_high","_law_book"]
noncomputable abbrev abd:List Str:=["lists","number","papers","members","inner"]
noncomputable abbrev Vx:List Str:=["_law_digits","_law_rows_here","_law_book"]
noncomputable abbrev a4w:List Str:=["names","lists","box","number","papers"]
noncomputable abbrev a3j:List Str:=["_law_digits","_law_many","_law_triples"]
noncomputable abbrev ab4:List Str:=["rows","atoms","box","low","high"]
noncomputable abbrev aav:List Str:=["_law_box","_law_times","_law_book"]
noncomputable abbrev abn:List Str:=["atoms","divisor","rows","whole"]
noncomputable abbrev aai:List Str:=["names","lists","paper","parts"]
noncomputable abbrev Xg:List Str:=["_law_digits","_law_rows_here"]
noncomputable abbrev a4b:List Str:=["lists","number","papers"]
noncomputable abbrev a6i:List Str:=["atoms","divisor","rows"]
noncomputable abbrev Zy:List Str:=["parts","kind","length"]
noncomputable abbrev Ug:List Str:=["atoms","number","kind"]
noncomputable abbrev Zx:List Str:=["atoms","divisor","row"]
noncomputable abbrev abg:List Str:=["box","times","divisor"]
noncomputable abbrev a6k:List Str:=["names","lists","paper"]
noncomputable abbrev aat:List Str:=["lists","one","reading"]
noncomputable abbrev Vy:List Str:=["_law_parts","_law_book"]
noncomputable abbrev abh:List Str:=["member","one","lists"]
noncomputable abbrev aay:List Str:=["atoms","rows","whole"]
noncomputable abbrev a2y:List Str:=["rows","forms","paper"]
noncomputable abbrev a01:List Str:=["_law_cell","_law_most"]
noncomputable abbrev Zw:List Str:=["atoms","one","other"]
noncomputable abbrev Wm:List Str:=["_law_script","_law_k"]
noncomputable abbrev ab1:List Str:=["box","times","row"]
noncomputable abbrev a9o:List Str:=["box","low","high"]
noncomputable abbrev W0:List Str:=["number","places"]
noncomputable abbrev a0d:List Str:=["number","pairs"]
noncomputable abbrev X3:List Str:=["lists","forms"]
noncomputable abbrev Hu:List Str:=["box","number"]
noncomputable abbrev Pn:List Str:=["atoms","rows"]
noncomputable abbrev a02:List Str:=["one","other"]
noncomputable abbrev a00:List Str:=["atoms","row"]
noncomputable abbrev a0a:List Str:=["_law_script"]
noncomputable abbrev Az:List Str:=["thing"]
noncomputable section
variable {P:Program} {w:World} {K:PySem.W.Frag} {mg:Str→Option Value} {base:Heap} {f:Addr} {fd:FuncData}
noncomputable abbrev Hw:Stmt:=top 1
theorem Mz:m9 aaw a0d (jd Hw):=⟨rfl,rfl,rfl,by decide +kernel,rfl,by decide +kernel,by decide +kernel⟩
theorem Wf (F:Fun K "sum_of" "sum_of" Hw f fd) (b_sorted:mg "sorted" = none) (b_tuple:mg "tuple" = none):Ad P w K mg base CX0 1 f fd a0d (spF K a0d.length _root_.K.zx):=by
  refine p7 (N:=aaw) F Mz (by decide)  fun cdv A outer s H E B hr=>?_
  have hu:=wj hr
  have hq:=hr.units
  have nd:aaw.Nodup:=Mz.nd
  refine fu ?_ ?_
  · exact Bj 2 (kh nd rfl (Or.inr rfl) Wj) (fun _ _ _ h=>h)
  · refine fu ?_ ?_
    · refine Cw ?_ ?_ ?_ ?_ ?_ ?_
      · exact PassesOwn.never
      · exact rfl
      · exact yr (aq 1 (pv 1))
      · exact Dd (is:=[3,4]) (Dl rfl (qe (jm nd rfl (Or.inl rfl)) (qe (jm nd rfl (Or.inl rfl)) Aw)))
      · exact jc (Ob 2 hu (pv 2) (aq 3 (pv 3)) (je qj (Y7 2 hu (pv 2) (aq 3 (pv 3)) cj ⟨rfl,rfl,rfl,rfl⟩) (aq 4 (pv 4))) rfl)
      · exact yd
    · refine fu ?_ ?_
      · exact ou 5 (Le (N:=["box","times"]) ⟨rfl,rfl,by decide +kernel,by decide +kernel⟩ rfl (yr (jr (pq (Ny (by rfl)) (by rfl) b_sorted PyProof.Rows.boot_sorted (aj (aq 2 (pv 2)) dg)))) (fun C s₀ H₀ ex pn=>pgE fun B=>(vo 0 (jm (show (["box","times"]:List Str).Nodup by decide +kernel) rfl (Or.inl rfl)))) (fun C s₀ H₀ ex pn=>(Te fun B=>(uo (Hy hq) (jy hu (aq 1 (pv 1)) (aq 0 (pv 0)) (fun _ _=>rfl)) cj (qb _)))) (fun C s₀ H₀ ex pn=>peE fun B=>(ji (aj (aq 0 (pv 0)) (aj (jy hu (aq 1 (pv 1)) (aq 0 (pv 0)) (fun _ _=>rfl)) dg)) (j7 (au (au gj)) (by decide)))) (jm nd rfl (Or.inl rfl)) rfl) (fun σ H Q h=>Mu ⟨rfl,fun j k h=>match j,h with | 0,h=>(by cases h; exact ⟨_,rfl,rfl,⟨.inl rfl,.inr (.inl rfl),.inl rfl⟩⟩) | _+1,h=>(by cases h)⟩ yd (Nr h))
      · exact jc (ju (ji (aj (aq 0 (pv 0)) (aj (jr (ur xq (by rfl) b_tuple PyProof.Rows.boot_tuple (aj (aq 5 (pv 5)) dg))) dg)) (j7 (au (au gj)) (by decide))))
theorem Xq (F:Fun K "sum_of" "sum_of" Hw f fd) (hmg:mg "sum_of" = some (.ref f)) (b_sorted:mg "sorted" = none) (b_tuple:mg "tuple" = none):j8 P w K mg base "sum_of" 1 a0d _root_.K.zx :=
  ⟨f,fd,Wf F b_sorted b_tuple,F.binds (ps:=a0d) fun _ _ _ _ _ _ us hl=>bd2 (fun _ _=>rfl) us hl,F.kp,hmg⟩
noncomputable abbrev T3:Stmt:=top 2
theorem Z4:m9 a02 a02 (jd T3):=⟨rfl,rfl,rfl,by decide +kernel,rfl,by decide +kernel,by decide +kernel⟩
theorem a4k (F:Fun K "plus" "plus" T3 f fd) (d_sum_of:j8 P w K mg base "sum_of" 1 a0d (_root_.K.zx)):Ad P w K mg base CX0 2 f fd a02 (spF K a02.length _root_.K.Jh):=by
  have d_sum_of:=d_sum_of.mono (by decide:1≤1)
  refine p7 (N:=a02) F Z4 (by decide)  fun cdv A outer s H E B hr=>?_
  have hu:=wj hr
  have hq:=hr.units
  have nd:a02.Nodup:=Z4.nd
  refine jc ?_
  · refine ju ?_
    · refine gn d_sum_of ?_ ?_ ?_ ?_
      · exact hr
      · exact by rfl
      · exact aj (je qj (jy hu (aq 0 (pv 0)) cj (fun _ _=>rfl)) (jy hu (aq 1 (pv 1)) cj (fun _ _=>rfl))) (aj (je qj (jy hu (aq 0 (pv 0)) cj (fun _ _=>rfl)) (jy hu (aq 1 (pv 1)) cj (fun _ _=>rfl))) dg)
      · exact cg (cg eq_nil)
theorem a3y (F:Fun K "plus" "plus" T3 f fd) (hmg:mg "plus" = some (.ref f)) (d_sum_of:j8 P w K mg base "sum_of" 1 a0d (_root_.K.zx)):j8 P w K mg base "plus" 2 a02 _root_.K.Jh :=
  ⟨f,fd,a4k F d_sum_of,F.binds (ps:=a02) fun _ _ _ _ _ _ us hl=>bd2 (fun _ _=>rfl) us hl,F.kp,hmg⟩
noncomputable abbrev Fe:Stmt:=top 9
theorem Kg:m9 ab3 X3 (jd Fe):=⟨rfl,rfl,rfl,by decide +kernel,rfl,by decide +kernel,by decide +kernel⟩
theorem Vb (F:Fun K "laid_in" "laid_in" Fe f fd) (b_len:mg "len" = none) (b_list:mg "list" = none):Ad P w K mg base CX0 1 f fd X3 (spF K X3.length _root_.K.uh):=by
  refine p7 (N:=ab3) F Kg (by decide)  fun cdv A outer s H E B hr=>?_
  have hu:=wj hr
  have hq:=hr.units
  have nd:ab3.Nodup:=Kg.nd
  refine fu ?_ ?_
  · exact Bj 2 (kh nd rfl (Or.inl rfl) (Zt (by rfl) b_list (jy hu (aq 0 (pv 0)) cj (fun _ _=>rfl)))) (fun _ _ _ h=>h)
  · refine fu ?_ ?_
    · exact Bj 3 (kh nd rfl (Or.inl rfl) (Zt (by rfl) b_list (jy hu (aq 0 (pv 0)) cj (fun _ _=>rfl)))) (fun _ _ _ h=>h)
    · refine fu ?_ ?_
      · exact Bj 4 (kh nd rfl (Or.inl rfl) (a5v (jr (ur Va (by rfl) b_list PyProof.Rows.boot_list (aj (aq 1 (pv 1)) dg))))) (fun _ _ _ h=>h)
      · refine fu ?_ ?_
        · refine U9 _ ?_ ?_ ?_
          · exact PassesOwn.never
          · exact uo Ox (Nu 4 b_len rfl (pv 4)) cj (qb _)
          · refine fu ?_ ?_
            · exact a3o 4 5 (Tq (Wx PySem.F.plainAttrs_list PySem.F.slot_list_pop PySem.F.type_list_pop Xn (pv 4)) (jm nd rfl (Or.inl rfl)))
            · refine jc ?_
              · refine yc ?_ ?_ ?_
                · exact uo (zy hq) (jy hu (aq 5 (pv 5)) cj (fun _ _=>rfl)) u9 (qb _)
                · exact jc (J3 4 (yq (Ew PySem.F.plainAttrs_list PySem.F.slot_list_extend PySem.F.type_list_extend Gi (pv 4) (sy (a5q (jy hu (aq 5 (pv 5)) cj (fun _ _=>rfl))) vq))))
                · refine jc ?_
                  · refine yc ?_ ?_ ?_
                    · exact uo (zy hq) (jy hu (aq 5 (pv 5)) cj (fun _ _=>rfl)) u9 (qb _)
                    · exact jc (vp 3 (yq (Ew PySem.F.plainAttrs_list PySem.F.slot_list_append PySem.F.type_list_append v9 (pv 3) (sy (jy hu (aq 5 (pv 5)) cj (fun _ _=>rfl)) vq))))
                    · exact jc (vp 2 (yq (Ew PySem.F.plainAttrs_list PySem.F.slot_list_append PySem.F.type_list_append v9 (pv 2) (sy (aq 5 (pv 5)) vq))))
        · exact jc (ju (ji (aj (aq 2 (pv 2)) (aj (aq 3 (pv 3)) dg)) (j7 (au (au gj)) (by decide))))
theorem V6 (F:Fun K "laid_in" "laid_in" Fe f fd) (hmg:mg "laid_in" = some (.ref f)) (b_len:mg "len" = none) (b_list:mg "list" = none):j8 P w K mg base "laid_in" 1 X3 _root_.K.uh :=
  ⟨f,fd,Vb F b_len b_list,F.binds (ps:=X3) fun _ _ _ _ _ _ us hl=>bd2 (fun _ _=>rfl) us hl,F.kp,hmg⟩
noncomputable abbrev Am:Stmt:=top 11
theorem El:m9 Az Az (jd Am):=⟨rfl,rfl,rfl,by decide +kernel,rfl,by decide +kernel,by decide +kernel⟩
theorem Jt (F:Fun K "plain_tuple" "plain_tuple" Am f fd) (b_isinstance:mg "isinstance" = none) (b_tuple:mg "tuple" = none):Ad P w K mg base CX0 1 f fd Az (spF K Az.length _root_.K.jq):=by
  refine p7 (N:=Az) F El (by decide)  fun cdv A outer s H E B hr=>?_
  have hu:=wj hr
  have hq:=hr.units
  have nd:Az.Nodup:=El.nd
  exact jc (ju (Tr (xu (Gv (by rfl) b_isinstance (by rfl) b_tuple (aq 0 (pv 0)))) (jr (ur xq (by rfl) b_tuple PyProof.Rows.boot_tuple (aj (aq 0 (pv 0)) dg))) (ji dg (j7 gj (by decide)))))
theorem Jr (F:Fun K "plain_tuple" "plain_tuple" Am f fd) (hmg:mg "plain_tuple" = some (.ref f)) (b_isinstance:mg "isinstance" = none) (b_tuple:mg "tuple" = none):j8 P w K mg base "plain_tuple" 1 Az _root_.K.jq :=
  ⟨f,fd,Jt F b_isinstance b_tuple,F.binds (ps:=Az) fun _ _ _ _ _ _ us hl=>bd1 (fun _=>rfl) us hl,F.kp,hmg⟩
noncomputable abbrev Fy:Stmt:=top 15
theorem K9:m9 Zy Zy (jd Fy):=⟨rfl,rfl,rfl,by decide +kernel,rfl,by decide +kernel,by decide +kernel⟩
theorem Uy (F:Fun K "is_kind" "is_kind" Fy f fd) (b_isinstance:mg "isinstance" = none) (b_len:mg "len" = none) (b_str:mg "str" = none):Ad P w K mg base CX0 1 f fd Zy (spF K Zy.length _root_.K.lg):=by
  refine p7 (N:=Zy) F K9 (by decide)  fun cdv A outer s H E B hr=>?_
  have hu:=wj hr
  have hq:=hr.units
  have nd:Zy.Nodup:=K9.nd
  refine jc ?_
  · refine ju ?_
    · refine Cv ?_ ?_
      · exact Ah (zy hq) (jr (pq u6 (by rfl) b_len PySem.boot_len (aj (aq 0 (pv 0)) dg))) (aq 2 (pv 2)) (qb _)
      · exact Cv (Kr (by rfl) b_isinstance (by rfl) b_str (jy hu (aq 0 (pv 0)) cj (fun _ _=>rfl))) (G8 (Ah (zy hq) (jy hu (aq 0 (pv 0)) cj (fun _ _=>rfl)) (aq 1 (pv 1)) (qb _)))
theorem Uv (F:Fun K "is_kind" "is_kind" Fy f fd) (hmg:mg "is_kind" = some (.ref f)) (b_isinstance:mg "isinstance" = none) (b_len:mg "len" = none) (b_str:mg "str" = none):j8 P w K mg base "is_kind" 1 Zy _root_.K.lg :=
  ⟨f,fd,Uy F b_isinstance b_len b_str,F.binds (ps:=Zy) fun _ _ _ _ _ _ us hl=>bd3 (fun _ _ _=>rfl) us hl,F.kp,hmg⟩
noncomputable abbrev Dv:Stmt:=top 14
theorem J4:m9 Az Az (jd Dv):=⟨rfl,rfl,rfl,by decide +kernel,rfl,by decide +kernel,by decide +kernel⟩
theorem Rf (F:Fun K "is_whole" "is_whole" Dv f fd) (b_bool:mg "bool" = none) (b_int:mg "int" = none) (b_isinstance:mg "isinstance" = none):Ad P w K mg base CX0 1 f fd Az (spF K Az.length _root_.K.su):=by
  refine p7 (N:=Az) F J4 (by decide)  fun cdv A outer s H E B hr=>?_
  have hu:=wj hr
  have hq:=hr.units
  have nd:Az.Nodup:=J4.nd
  exact jc (ju (Cv (Ur (by rfl) b_isinstance (by rfl) b_int (aq 0 (pv 0))) (G8 (a7j (Rc (by rfl) b_isinstance (by rfl) b_bool (aq 0 (pv 0)))))))
theorem Ru (F:Fun K "is_whole" "is_whole" Dv f fd) (hmg:mg "is_whole" = some (.ref f)) (b_bool:mg "bool" = none) (b_int:mg "int" = none) (b_isinstance:mg "isinstance" = none):j8 P w K mg base "is_whole" 1 Az _root_.K.su :=
  ⟨f,fd,Rf F b_bool b_int b_isinstance,F.binds (ps:=Az) fun _ _ _ _ _ _ us hl=>bd1 (fun _=>rfl) us hl,F.kp,hmg⟩
noncomputable abbrev Dp:Stmt:=top 16
theorem Ii:m9 W0 W0 (jd Dp):=⟨rfl,rfl,rfl,by decide +kernel,rfl,by decide +kernel,by decide +kernel⟩
theorem Q5 (F:Fun K "is_place" "is_place" Dp f fd) (b_len:mg "len" = none):Ad P w K mg base CX0 1 f fd W0 (spF K W0.length _root_.K.vd):=by
  refine p7 (N:=W0) F Ii (by decide)  fun cdv A outer s H E B hr=>?_
  have hu:=wj hr
  have hq:=hr.units
  have nd:W0.Nodup:=Ii.nd
  exact jc (ju (Cv (Ah a2r cj (aq 0 (pv 0)) (qb _)) (G8 (Ah Gy (aq 0 (pv 0)) (jr (pq u6 (by rfl) b_len PySem.boot_len (aj (aq 1 (pv 1)) dg))) (qb _)))))
theorem Rr (F:Fun K "is_place" "is_place" Dp f fd) (hmg:mg "is_place" = some (.ref f)) (b_len:mg "len" = none):j8 P w K mg base "is_place" 1 W0 _root_.K.vd :=
  ⟨f,fd,Q5 F b_len,F.binds (ps:=W0) fun _ _ _ _ _ _ us hl=>bd2 (fun _ _=>rfl) us hl,F.kp,hmg⟩
noncomputable abbrev zu:Stmt:=top 17
theorem Di:m9 abd a4b (jd zu):=⟨rfl,rfl,rfl,by decide +kernel,rfl,by decide +kernel,by decide +kernel⟩
theorem Jp (F:Fun K "papers_of_or" "papers_of_or" zu f fd) (d_is_place:j8 P w K mg base "is_place" 1 W0 (_root_.K.vd)) (d_laid_in:j8 P w K mg base "laid_in" 1 X3 (_root_.K.uh)) (d_plain_tuple:j8 P w K mg base "plain_tuple" 1 Az (_root_.K.jq)) (b_isinstance:mg "isinstance" = none) (b_len:mg "len" = none) (b_tuple:mg "tuple" = none) (b_zip:mg "zip" = none):Ad P w K mg base CX0 2 f fd a4b (spF K a4b.length _root_.K.oh):=by
  have d_is_place:=d_is_place.mono (by decide:1≤1)
  have d_laid_in:=d_laid_in.mono (by decide:1≤1)
  have d_plain_tuple:=d_plain_tuple.mono (by decide:1≤1)
  refine p7 (N:=abd) F Di (by decide)  fun cdv A outer s H E B hr=>?_
  have hu:=wj hr
  have hq:=hr.units
  have nd:abd.Nodup:=Di.nd
  refine fu ?_ ?_
  · refine yc ?_ ?_ ?_
    · exact PW.pt (Vr (Jb (xu (gn d_is_place hr (by rfl) (aj (aq 1 (pv 1)) (aj (jy hu (aq 0 (pv 0)) cj (fun _ _=>rfl)) dg)) (cg (cg eq_nil))))) (Nj (Jb (xu (Gv (by rfl) b_isinstance (by rfl) b_tuple (aq 2 (pv 2)))))))
    · exact jc (ju K8)
    · exact uz
  · refine fu ?_ ?_
    · exact ou 3 (kh nd rfl (Or.inl rfl) (jy hu (jy hu (aq 0 (pv 0)) cj (fun _ _=>rfl)) (aq 1 (pv 1)) (fun _ _=>rfl))) (fun _ _ _ h=>h)
    · refine fu ?_ ?_
      · exact ou 4 (kh nd rfl (Or.inl rfl) (gn d_plain_tuple hr (by rfl) (aj (aq 2 (pv 2)) dg) (cg eq_nil))) (fun _ _ _ h=>h)
      · refine fu ?_ ?_
        · exact yc (uo (Hy hq) (jr (pq u6 (by rfl) b_len PySem.boot_len (aj (aq 4 (pv 4)) dg))) (jr (pq u6 (by rfl) b_len PySem.boot_len (aj (aq 3 (pv 3)) dg))) (qb _))   (jc (ju K8))   uz
        · refine jc ?_
          · refine ju ?_
            · refine yp ?_
              · refine Aq (N:=abh) ?_ ?_ ?_ ?_ ?_ ?_ ?_ ?_
                · exact ⟨rfl,fun j k h=>match j,h with | 0,h=>(by cases h; exact ⟨_,rfl,rfl,⟨.inl rfl,.inr (.inl rfl),.inl rfl⟩⟩) | _+1,h=>(by cases h)⟩
                · exact ⟨rfl,rfl,by decide +kernel,by decide +kernel⟩
                · exact rfl
                · exact a9g (by rfl) b_zip (aq 3 (pv 3)) (aq 4 (pv 4))
                · exact a7c
                · exact fun C s₀ H₀ ex pn=>pgE fun B=>(Dd (is:=[0,1]) (Dl rfl (qe (jm (show abh.Nodup by decide +kernel) rfl (Or.inl rfl)) (qe (jm (show abh.Nodup by decide +kernel) rfl (Or.inl rfl)) Aw))))
                · exact fun C s₀ H₀ ex pn=>wg
                · intro C s₀ H₀ ex pn
                  refine peE ?_
                  intro B
                  exact ji (aj (gn d_laid_in hr (by rfl) (aj (aq 2 (pv 2)) (aj (Aa (aj (aq 0 (pv 0)) dg) (j7 (au gj) (by decide))) dg)) (cg (cg eq_nil))) (aj (aq 1 (pv 1)) dg)) (j7 (au (au gj)) (by decide))
theorem Ig (F:Fun K "papers_of_or" "papers_of_or" zu f fd) (hmg:mg "papers_of_or" = some (.ref f)) (d_is_place:j8 P w K mg base "is_place" 1 W0 (_root_.K.vd)) (d_laid_in:j8 P w K mg base "laid_in" 1 X3 (_root_.K.uh)) (d_plain_tuple:j8 P w K mg base "plain_tuple" 1 Az (_root_.K.jq)) (b_isinstance:mg "isinstance" = none) (b_len:mg "len" = none) (b_tuple:mg "tuple" = none) (b_zip:mg "zip" = none):j8 P w K mg base "papers_of_or" 2 a4b _root_.K.oh :=
  ⟨f,fd,Jp F d_is_place d_laid_in d_plain_tuple b_isinstance b_len b_tuple b_zip,F.binds (ps:=a4b) fun _ _ _ _ _ _ us hl=>bd3 (fun _ _ _=>rfl) us hl,F.kp,hmg⟩
noncomputable abbrev G5:Stmt:=top 7
theorem Kp:m9 Hu Hu (jd G5):=⟨rfl,rfl,rfl,by decide +kernel,rfl,by decide +kernel,by decide +kernel⟩
theorem V0 (F:Fun K "at_most" "at_most" G5 f fd):Ad P w K mg base CX0 1 f fd Hu (spF K Hu.length _root_.K.wu):=by
  refine p7 (N:=Hu) F Kp (by decide)  fun cdv A outer s H E B hr=>?_
  have hu:=wj hr
  have hq:=hr.units
  have nd:Hu.Nodup:=Kp.nd
  refine jc ?_
  · refine ju ?_
    · refine ji ?_ ?_
      · refine aj ?_ ?_
        · exact u9
        · refine aj ?_ ?_
          · exact ji (aj (Ow Dm (aq 1 (pv 1))) (aj (ji (aj (ji (aj (aq 0 (pv 0)) (aj cj dg)) (j7 (au (au gj)) (by decide))) dg) (j7 (au gj) (by decide))) dg)) (j7 (au (au gj)) (by decide))
          · exact dg
      · exact j7 (au (au gj)) (by decide)
theorem V5 (F:Fun K "at_most" "at_most" G5 f fd) (hmg:mg "at_most" = some (.ref f)):j8 P w K mg base "at_most" 1 Hu _root_.K.wu :=
  ⟨f,fd,V0 F,F.binds (ps:=Hu) fun _ _ _ _ _ _ us hl=>bd2 (fun _ _=>rfl) us hl,F.kp,hmg⟩
noncomputable abbrev Du:Stmt:=top 8
theorem Iw:m9 Hu Hu (jd Du):=⟨rfl,rfl,rfl,by decide +kernel,rfl,by decide +kernel,by decide +kernel⟩
theorem Qt (F:Fun K "at_least" "at_least" Du f fd):Ad P w K mg base CX0 1 f fd Hu (spF K Hu.length _root_.K.vf):=by
  refine p7 (N:=Hu) F Iw (by decide)  fun cdv A outer s H E B hr=>?_
  have hu:=wj hr
  have hq:=hr.units
  have nd:Hu.Nodup:=Iw.nd
  refine jc ?_
  · refine ju ?_
    · refine ji ?_ ?_
      · refine aj ?_ ?_
        · exact u9
        · refine aj ?_ ?_
          · exact ji (aj (aq 1 (pv 1)) (aj (ji (aj (ji (aj (aq 0 (pv 0)) (aj (Ow Dm cj) dg)) (j7 (au (au gj)) (by decide))) dg) (j7 (au gj) (by decide))) dg)) (j7 (au (au gj)) (by decide))
          · exact dg
      · exact j7 (au (au gj)) (by decide)
theorem Px (F:Fun K "at_least" "at_least" Du f fd) (hmg:mg "at_least" = some (.ref f)):j8 P w K mg base "at_least" 1 Hu _root_.K.vf :=
  ⟨f,fd,Qt F,F.binds (ps:=Hu) fun _ _ _ _ _ _ us hl=>bd2 (fun _ _=>rfl) us hl,F.kp,hmg⟩
noncomputable abbrev yt:Stmt:=top 18
theorem Cy:m9 abj a4w (jd yt):=⟨rfl,rfl,rfl,by decide +kernel,rfl,by decide +kernel,by decide +kernel⟩
theorem Hj (F:Fun K "papers_of_cut" "papers_of_cut" yt f fd) (d_at_least:j8 P w K mg base "at_least" 1 Hu (_root_.K.vf)) (d_at_most:j8 P w K mg base "at_most" 1 Hu (_root_.K.wu)) (d_laid_in:j8 P w K mg base "laid_in" 1 X3 (_root_.K.uh)) (b_isinstance:mg "isinstance" = none) (b_len:mg "len" = none) (b_str:mg "str" = none):Ad P w K mg base CX0 2 f fd a4w (spF K a4w.length _root_.K.qz):=by
  have d_at_least:=d_at_least.mono (by decide:1≤1)
  have d_at_most:=d_at_most.mono (by decide:1≤1)
  have d_laid_in:=d_laid_in.mono (by decide:1≤1)
  refine p7 (N:=abj) F Cy (by decide)  fun cdv A outer s H E B hr=>?_
  have hu:=wj hr
  have hq:=hr.units
  have nd:abj.Nodup:=Cy.nd
  refine fu ?_ ?_
  · exact ou 5 (Le (N:=["name","box"]) ⟨rfl,rfl,by decide +kernel,by decide +kernel⟩ rfl (yr (aq 0 (pv 0))) (fun C s₀ H₀ ex pn=>pgE fun B=>(vo 0 (jm (show (["name","box"]:List Str).Nodup by decide +kernel) rfl (Or.inl rfl)))) (fun C s₀ H₀ ex pn=>(Te fun B=>(PW.pt (Jo (xu (Kr (by rfl) b_isinstance (by rfl) b_str (aq 1 (pv 1)))) (Ge (uo (zy hq) (aq 0 (pv 0)) (aq 1 (pv 1)) (qb _))))))) (fun C s₀ H₀ ex pn=>peE fun B=>(aq 0 (pv 0))) (jm nd rfl (Or.inl rfl)) rfl) (fun σ H Q h=>Mu ⟨rfl,fun j k h=>match j,h with | 0,h=>(by cases h; exact ⟨_,rfl,rfl,⟨.inl rfl,.inr (.inl rfl),.inl rfl⟩⟩) | _+1,h=>(by cases h)⟩ yd (Nr h))
  · refine fu ?_ ?_
    · exact yc (uo (Hy hq) (jr (pq u6 (by rfl) b_len PySem.boot_len (aj (aq 5 (pv 5)) dg))) cj (qb _))   (jc (ju K8))   uz
    · refine fu ?_ ?_
      · refine @ou _ _ _ _ (tOf _ _ _) _ ?_ (fun _ _ _ h=>h)
        · refine kh ?_ ?_ ?_ ?_
          · exact nd
          · exact rfl
          · exact Or.inl rfl
          · refine gn d_laid_in ?_ ?_ ?_ ?_
            · exact hr
            · exact by rfl
            · exact aj (aq 1 (pv 1)) (aj (Aa (aj (gn d_at_most hr (by rfl) (aj (jy hu (aq 5 (pv 5)) cj (fun _ _=>rfl)) (aj (aq 3 (pv 3)) dg)) (cg (cg eq_nil))) dg) (j7 (au gj) (by decide))) dg)
            · exact cg (cg eq_nil)
      · refine fu ?_ ?_
        · refine @ou _ _ _ _ (tOf _ _ _) _ ?_ (fun _ _ _ h=>h)
          · refine kh ?_ ?_ ?_ ?_
            · exact nd
            · exact rfl
            · exact Or.inl rfl
            · refine gn d_laid_in ?_ ?_ ?_ ?_
              · exact hr
              · exact by rfl
              · exact aj (aq 1 (pv 1)) (aj (Aa (aj (gn d_at_least hr (by rfl) (aj (jy hu (aq 5 (pv 5)) cj (fun _ _=>rfl)) (aj (je qj (aq 3 (pv 3)) cj) dg)) (cg (cg eq_nil))) dg) (j7 (au gj) (by decide))) dg)
              · exact cg (cg eq_nil)
        · refine jc ?_
          · refine ju ?_
            · refine Aa ?_ ?_
              · refine aj ?_ ?_
                · exact ji (aj (aq 6 (pv 6)) (aj (jy hu (aq 4 (pv 4)) cj (fun _ _=>rfl)) dg)) (j7 (au (au gj)) (by decide))
                · exact aj (ji (aj (aq 7 (pv 7)) (aj (jy hu (aq 4 (pv 4)) cj (fun _ _=>rfl)) dg)) (j7 (au (au gj)) (by decide))) dg
              · exact j7 (au (au gj)) (by decide)
theorem Hg (F:Fun K "papers_of_cut" "papers_of_cut" yt f fd) (hmg:mg "papers_of_cut" = some (.ref f)) (d_at_least:j8 P w K mg base "at_least" 1 Hu (_root_.K.vf)) (d_at_most:j8 P w K mg base "at_most" 1 Hu (_root_.K.wu)) (d_laid_in:j8 P w K mg base "laid_in" 1 X3 (_root_.K.uh)) (b_isinstance:mg "isinstance" = none) (b_len:mg "len" = none) (b_str:mg "str" = none):j8 P w K mg base "papers_of_cut" 2 a4w _root_.K.qz :=
  ⟨f,fd,Hj F d_at_least d_at_most d_laid_in b_isinstance b_len b_str,F.binds (ps:=a4w) fun _ _ _ _ _ _ us hl=>bd5 (fun _ _ _ _ _=>rfl) us hl,F.kp,hmg⟩
noncomputable abbrev Dt:Stmt:=top 22
theorem Ij:m9 a9w Pn (jd Dt):=⟨rfl,rfl,rfl,by decide +kernel,rfl,by decide +kernel,by decide +kernel⟩
theorem Qm (F:Fun K "added_up" "added_up" Dt f fd) (d_sum_of:j8 P w K mg base "sum_of" 1 a0d (_root_.K.zx)):Ad P w K mg base CX0 2 f fd Pn (spF K Pn.length _root_.K.um):=by
  have d_sum_of:=d_sum_of.mono (by decide:1≤1)
  refine p7 (N:=a9w) F Ij (by decide)  fun cdv A outer s H E B hr=>?_
  have hu:=wj hr
  have hq:=hr.units
  have nd:a9w.Nodup:=Ij.nd
  refine fu ?_ ?_
  · exact ou 2 (kh nd rfl (Or.inl rfl) cj) (fun _ _ _ h=>h)
  · refine fu ?_ ?_
    · exact Bj 3 (kh nd rfl (Or.inl rfl) (G6 dg (j7 gj (by decide)))) (fun _ _ _ h=>h)
    · refine fu ?_ ?_
      · refine Cw ?_ ?_ ?_ ?_ ?_ ?_
        · exact PassesOwn.never
        · exact rfl
        · exact yr (aq 1 (pv 1))
        · exact vo 4 (jm nd rfl (Or.inr rfl))
        · refine fu ?_ ?_
          · exact ou 5 (kh nd rfl (Or.inl rfl) (jy hu (jy hu (aq 0 (pv 0)) (jy hu (aq 4 (pv 4)) cj (fun _ _=>rfl)) (fun _ _=>rfl)) cj (fun _ _=>rfl))) (fun _ _ _ h=>h)
          · refine fu ?_ ?_
            · exact ou 2 (kh nd rfl (Or.inl rfl) (je qj (aq 2 (pv 2)) (je yg (jy hu (aq 4 (pv 4)) (Ow Dm cj) (fun _ _=>rfl)) (jy hu (aq 5 (pv 5)) cj (fun _ _=>rfl))))) (fun _ _ _ h=>h)
            · refine jc ?_
              · refine J3 _ ?_
                · refine yq ?_
                  · refine Ew PySem.F.plainAttrs_list PySem.F.slot_list_extend PySem.F.type_list_extend Gi ?_ ?_
                    · exact pv 3
                    · refine sy ?_ ?_
                      · refine yp ?_
                        · refine Aq (N:=ab1) ?_ ?_ ?_ ?_ ?_ ?_ ?_ ?_
                          · exact ⟨rfl,fun j k h=>match j,h with | 0,h=>(by cases h; exact ⟨_,rfl,rfl,⟨.inl rfl,.inr (.inl rfl),.inl rfl⟩⟩) | _+1,h=>(by cases h)⟩
                          · exact ⟨rfl,rfl,by decide +kernel,by decide +kernel⟩
                          · exact rfl
                          · exact yr (jy hu (aq 5 (pv 5)) cj (fun _ _=>rfl))
                          · exact yd
                          · exact fun C s₀ H₀ ex pn=>pgE fun B=>(Dd (is:=[0,1]) (Dl rfl (qe (jm (show ab1.Nodup by decide +kernel) rfl (Or.inl rfl)) (qe (jm (show ab1.Nodup by decide +kernel) rfl (Or.inl rfl)) Aw))))
                          · exact fun C s₀ H₀ ex pn=>wg
                          · exact fun C s₀ H₀ ex pn=>peE fun B=>(ji (aj (aq 0 (pv 0)) (aj (je yg (jy hu (aq 2 (pv 2)) (Ow Dm cj) (fun _ _=>rfl)) (aq 1 (pv 1))) dg)) (j7 (au (au gj)) (by decide)))
                      · exact vq
        · exact yd
      · exact jc (ju (gn d_sum_of hr (by rfl) (aj (aq 2 (pv 2)) (aj (aq 3 (pv 3)) dg)) (cg (cg eq_nil))))
theorem S7 (F:Fun K "added_up" "added_up" Dt f fd) (hmg:mg "added_up" = some (.ref f)) (d_sum_of:j8 P w K mg base "sum_of" 1 a0d (_root_.K.zx)):j8 P w K mg base "added_up" 2 Pn _root_.K.um :=
  ⟨f,fd,Qm F d_sum_of,F.binds (ps:=Pn) fun _ _ _ _ _ _ us hl=>bd2 (fun _ _=>rfl) us hl,F.kp,hmg⟩
noncomputable abbrev Ez:Stmt:=top 21
theorem Kd:m9 Ug Ug (jd Ez):=⟨rfl,rfl,rfl,by decide +kernel,rfl,by decide +kernel,by decide +kernel⟩
theorem V7 (F:Fun K "is_atom" "is_atom" Ez f fd) (d_is_place:j8 P w K mg base "is_place" 1 W0 (_root_.K.vd)):Ad P w K mg base CX0 2 f fd Ug (spF K Ug.length _root_.K.ud):=by
  have d_is_place:=d_is_place.mono (by decide:1≤1)
  refine p7 (N:=Ug) F Kd (by decide)  fun cdv A outer s H E B hr=>?_
  have hu:=wj hr
  have hq:=hr.units
  have nd:Ug.Nodup:=Kd.nd
  refine jc ?_
  · exact ju (Cv (gn d_is_place hr (by rfl) (aj (aq 1 (pv 1)) (aj (aq 0 (pv 0)) dg)) (cg (cg eq_nil))) (G8 (Ah (zy hq) (jy hu (jy hu (aq 0 (pv 0)) (aq 1 (pv 1)) (fun _ _=>rfl)) cj (fun _ _=>rfl)) (aq 2 (pv 2)) (qb _))))
theorem Vw (F:Fun K "is_atom" "is_atom" Ez f fd) (hmg:mg "is_atom" = some (.ref f)) (d_is_place:j8 P w K mg base "is_place" 1 W0 (_root_.K.vd)):j8 P w K mg base "is_atom" 2 Ug _root_.K.ud :=
  ⟨f,fd,V7 F d_is_place,F.binds (ps:=Ug) fun _ _ _ _ _ _ us hl=>bd3 (fun _ _ _=>rfl) us hl,F.kp,hmg⟩
noncomputable abbrev Bh:Stmt:=top 20
theorem G3:m9 a00 a00 (jd Bh):=⟨rfl,rfl,rfl,by decide +kernel,rfl,by decide +kernel,by decide +kernel⟩
theorem M8 (F:Fun K "is_sum_row" "is_sum_row" Bh f fd) (d_is_atom:j8 P w K mg base "is_atom" 2 Ug (_root_.K.ud)) (b_len:mg "len" = none):Ad P w K mg base CX0 3 f fd a00 (spF K a00.length _root_.K.nj):=by
  have d_is_atom:=d_is_atom.mono (by decide:2≤2)
  refine p7 (N:=a00) F G3 (by decide)  fun cdv A outer s H E B hr=>?_
  have hu:=wj hr
  have hq:=hr.units
  have nd:a00.Nodup:=G3.nd
  refine jc ?_
  · refine ju ?_
    · refine Cv ?_ ?_
      · exact Ah (zy hq) (jr (pq u6 (by rfl) b_len PySem.boot_len (aj (aq 1 (pv 1)) dg))) cj (qb _)
      · exact Cv (gn d_is_atom hr (by rfl) (aj (aq 0 (pv 0)) (aj (jy hu (aq 1 (pv 1)) cj (fun _ _=>rfl)) (aj u9 dg))) (cg (cg (cg eq_nil)))) (G8 (Ah Ox (jy hu (aq 1 (pv 1)) cj (fun _ _=>rfl)) cj (qb _)))
theorem Lb (F:Fun K "is_sum_row" "is_sum_row" Bh f fd) (hmg:mg "is_sum_row" = some (.ref f)) (d_is_atom:j8 P w K mg base "is_atom" 2 Ug (_root_.K.ud)) (b_len:mg "len" = none):j8 P w K mg base "is_sum_row" 3 a00 _root_.K.nj :=
  ⟨f,fd,M8 F d_is_atom b_len,F.binds (ps:=a00) fun _ _ _ _ _ _ us hl=>bd2 (fun _ _=>rfl) us hl,F.kp,hmg⟩
noncomputable abbrev Ho:Stmt:=top 19
theorem Nf:m9 aay Pn (jd Ho):=⟨rfl,rfl,rfl,by decide +kernel,rfl,by decide +kernel,by decide +kernel⟩
theorem Xe (F:Fun K "is_sum" "is_sum" Ho f fd) (d_added_up:j8 P w K mg base "added_up" 2 Pn (_root_.K.um)) (d_is_sum_row:j8 P w K mg base "is_sum_row" 3 a00 (_root_.K.nj)) (b_all:mg "all" = none):Ad P w K mg base CX0 4 f fd Pn (spF K Pn.length _root_.K.Cj):=by
  have d_added_up:=d_added_up.mono (by decide:2≤3)
  have d_is_sum_row:=d_is_sum_row.mono (by decide:3≤3)
  refine p7 (N:=aay) F Nf (by decide)  fun cdv A outer s H E B hr=>?_
  have hu:=wj hr
  have hq:=hr.units
  have nd:aay.Nodup:=Nf.nd
  refine fu ?_ ?_
  · refine yc ?_ ?_ ?_
    · refine Jb ?_
      · refine xu ?_
        · refine jr ?_
          · refine pq (Fj (by rfl)) ?_ ?_ PyProof.Rows.boot_all ?_
            · exact by rfl
            · exact b_all
            · refine aj ?_ ?_
              · refine yp ?_
                · refine Aq (N:=["row","atoms"]) ?_ ?_ ?_ ?_ ?_ ?_ ?_ ?_
                  · exact ⟨rfl,fun j k h=>match j,h with | 0,h=>(by cases h; exact ⟨_,rfl,rfl,⟨.inl rfl,.inr (.inl rfl),.inl rfl⟩⟩) | _+1,h=>(by cases h)⟩
                  · exact ⟨rfl,rfl,by decide +kernel,by decide +kernel⟩
                  · exact rfl
                  · exact yr (aq 1 (pv 1))
                  · exact yd
                  · exact fun C s₀ H₀ ex pn=>pgE fun B=>(vo 0 (jm (show (["row","atoms"]:List Str).Nodup by decide +kernel) rfl (Or.inl rfl)))
                  · exact fun C s₀ H₀ ex pn=>wg
                  · exact fun C s₀ H₀ ex pn=>peE fun B=>(gn d_is_sum_row hr (by rfl) (aj (aq 1 (pv 1)) (aj (aq 0 (pv 0)) dg)) (cg (cg eq_nil)))
              · exact dg
    · exact jc (ju Bx)
    · exact uz
  · refine fu ?_ ?_
    · exact ou 2 (kh nd rfl (Or.inl rfl) (gn d_added_up hr (by rfl) (aj (aq 0 (pv 0)) (aj (aq 1 (pv 1)) dg)) (cg (cg eq_nil)))) (fun _ _ _ h=>h)
    · exact jc (ju (Cv (Ah (zy hq) (jy hu (aq 2 (pv 2)) cj (fun _ _=>rfl)) (ji dg (j7 gj (by decide))) (qb _)) (G8 (Ah Ox (jy hu (aq 2 (pv 2)) cj (fun _ _=>rfl)) cj (qb _)))))
theorem Wu (F:Fun K "is_sum" "is_sum" Ho f fd) (hmg:mg "is_sum" = some (.ref f)) (d_added_up:j8 P w K mg base "added_up" 2 Pn (_root_.K.um)) (d_is_sum_row:j8 P w K mg base "is_sum_row" 3 a00 (_root_.K.nj)) (b_all:mg "all" = none):j8 P w K mg base "is_sum" 4 Pn _root_.K.Cj :=
  ⟨f,fd,Xe F d_added_up d_is_sum_row b_all,F.binds (ps:=Pn) fun _ _ _ _ _ _ us hl=>bd2 (fun _ _=>rfl) us hl,F.kp,hmg⟩
noncomputable abbrev zj:Stmt:=top 25
theorem Dh:m9 Zw Zw (jd zj):=⟨rfl,rfl,rfl,by decide +kernel,rfl,by decide +kernel,by decide +kernel⟩
theorem Ja (F:Fun K "is_zero_pair" "is_zero_pair" zj f fd) (d_is_atom:j8 P w K mg base "is_atom" 2 Ug (_root_.K.ud)) (d_plus:j8 P w K mg base "plus" 2 a02 (_root_.K.Jh)):Ad P w K mg base CX0 3 f fd Zw (spF K Zw.length _root_.K.qx):=by
  have d_is_atom:=d_is_atom.mono (by decide:2≤2)
  have d_plus:=d_plus.mono (by decide:2≤2)
  refine p7 (N:=Zw) F Dh (by decide)  fun cdv A outer s H E B hr=>?_
  have hu:=wj hr
  have hq:=hr.units
  have nd:Zw.Nodup:=Dh.nd
  refine fu ?_ ?_
  · refine yc ?_ ?_ ?_
    · refine PW.pt ?_
      · refine Vr ?_ ?_
        · exact Jb (xu (gn d_is_atom hr (by rfl) (aj (aq 0 (pv 0)) (aj (aq 1 (pv 1)) (aj u9 dg))) (cg (cg (cg eq_nil)))))
        · exact Nj (Jb (xu (gn d_is_atom hr (by rfl) (aj (aq 0 (pv 0)) (aj (aq 2 (pv 2)) (aj u9 dg))) (cg (cg (cg eq_nil))))))
    · exact jc (ju Bx)
    · exact uz
  · refine jc ?_
    · refine ju ?_
      · refine Ah (zy hq) ?_ ?_ ?_
        · exact gn d_plus hr (by rfl) (aj (jy hu (jy hu (aq 0 (pv 0)) (aq 1 (pv 1)) (fun _ _=>rfl)) cj (fun _ _=>rfl)) (aj (jy hu (jy hu (aq 0 (pv 0)) (aq 2 (pv 2)) (fun _ _=>rfl)) cj (fun _ _=>rfl)) dg)) (cg (cg eq_nil))
        · exact ji (aj cj (aj (ji dg (j7 gj (by decide))) dg)) (j7 (au (au gj)) (by decide))
        · exact qb _
theorem Hz (F:Fun K "is_zero_pair" "is_zero_pair" zj f fd) (hmg:mg "is_zero_pair" = some (.ref f)) (d_is_atom:j8 P w K mg base "is_atom" 2 Ug (_root_.K.ud)) (d_plus:j8 P w K mg base "plus" 2 a02 (_root_.K.Jh)):j8 P w K mg base "is_zero_pair" 3 Zw _root_.K.qx :=
  ⟨f,fd,Ja F d_is_atom d_plus,F.binds (ps:=Zw) fun _ _ _ _ _ _ us hl=>bd3 (fun _ _ _=>rfl) us hl,F.kp,hmg⟩
noncomputable abbrev Aj:Stmt:=top 24
theorem Eo:m9 Zx Zx (jd Aj):=⟨rfl,rfl,rfl,by decide +kernel,rfl,by decide +kernel,by decide +kernel⟩
theorem Ju (F:Fun K "is_rest_row" "is_rest_row" Aj f fd) (d_is_atom:j8 P w K mg base "is_atom" 2 Ug (_root_.K.ud)) (d_is_zero_pair:j8 P w K mg base "is_zero_pair" 3 Zw (_root_.K.qx)) (b_len:mg "len" = none):Ad P w K mg base CX0 4 f fd Zx (spF K Zx.length _root_.K.m6):=by
  have d_is_atom:=d_is_atom.mono (by decide:2≤3)
  have d_is_zero_pair:=d_is_zero_pair.mono (by decide:3≤3)
  refine p7 (N:=Zx) F Eo (by decide)  fun cdv A outer s H E B hr=>?_
  have hu:=wj hr
  have hq:=hr.units
  have nd:Zx.Nodup:=Eo.nd
  refine fu ?_ ?_
  · refine yc ?_ ?_ ?_
    · exact uo (zy hq) (jr (pq u6 (by rfl) b_len PySem.boot_len (aj (aq 2 (pv 2)) dg))) cj (qb _)
    · refine jc ?_
      · refine ju ?_
        · refine Cv ?_ ?_
          · exact gn d_is_zero_pair hr (by rfl) (aj (aq 0 (pv 0)) (aj (jy hu (aq 2 (pv 2)) cj (fun _ _=>rfl)) (aj (jy hu (aq 2 (pv 2)) cj (fun _ _=>rfl)) dg))) (cg (cg (cg eq_nil)))
          · exact G8 (Ah (Hy hq) (jy hu (aq 2 (pv 2)) cj (fun _ _=>rfl)) cj (qb _))
    · exact uz
  · refine fu ?_ ?_
    · refine yc ?_ ?_ ?_
      · exact uo (zy hq) (jr (pq u6 (by rfl) b_len PySem.boot_len (aj (aq 2 (pv 2)) dg))) cj (qb _)
      · refine jc ?_
        · refine ju ?_
          · refine Cv ?_ ?_
            · exact gn d_is_atom hr (by rfl) (aj (aq 0 (pv 0)) (aj (jy hu (aq 2 (pv 2)) cj (fun _ _=>rfl)) (aj u9 dg))) (cg (cg (cg eq_nil)))
            · refine Cv ?_ ?_
              · exact Ah (Hy hq) (jy hu (aq 2 (pv 2)) cj (fun _ _=>rfl)) cj (qb _)
              · exact G8 (Ah (zy hq) (je nq (je yg (jy hu (aq 2 (pv 2)) cj (fun _ _=>rfl)) (jy hu (jy hu (aq 0 (pv 0)) (jy hu (aq 2 (pv 2)) cj (fun _ _=>rfl)) (fun _ _=>rfl)) cj (fun _ _=>rfl))) (aq 1 (pv 1))) cj (qb _))
      · exact uz
    · exact jc (ju Bx)
theorem Jy (F:Fun K "is_rest_row" "is_rest_row" Aj f fd) (hmg:mg "is_rest_row" = some (.ref f)) (d_is_atom:j8 P w K mg base "is_atom" 2 Ug (_root_.K.ud)) (d_is_zero_pair:j8 P w K mg base "is_zero_pair" 3 Zw (_root_.K.qx)) (b_len:mg "len" = none):j8 P w K mg base "is_rest_row" 4 Zx _root_.K.m6 :=
  ⟨f,fd,Ju F d_is_atom d_is_zero_pair b_len,F.binds (ps:=Zx) fun _ _ _ _ _ _ us hl=>bd3 (fun _ _ _=>rfl) us hl,F.kp,hmg⟩
noncomputable abbrev Fx:Stmt:=top 23
theorem Kl:m9 abn a6i (jd Fx):=⟨rfl,rfl,rfl,by decide +kernel,rfl,by decide +kernel,by decide +kernel⟩
theorem Uu (F:Fun K "is_rest" "is_rest" Fx f fd) (d_added_up:j8 P w K mg base "added_up" 2 Pn (_root_.K.um)) (d_is_rest_row:j8 P w K mg base "is_rest_row" 4 Zx (_root_.K.m6)) (b_all:mg "all" = none):Ad P w K mg base CX0 5 f fd a6i (spF K a6i.length _root_.K.Ab):=by
  have d_added_up:=d_added_up.mono (by decide:2≤4)
  have d_is_rest_row:=d_is_rest_row.mono (by decide:4≤4)
  refine p7 (N:=abn) F Kl (by decide)  fun cdv A outer s H E B hr=>?_
  have hu:=wj hr
  have hq:=hr.units
  have nd:abn.Nodup:=Kl.nd
  refine fu ?_ ?_
  · refine yc ?_ ?_ ?_
    · refine PW.pt ?_
      · refine Vr ?_ ?_
        · exact uo Gy (aq 1 (pv 1)) cj (qb _)
        · refine Nj ?_
          · refine Jb ?_
            · refine xu ?_
              · refine jr ?_
                · refine pq (Fj (by rfl)) ?_ ?_ PyProof.Rows.boot_all ?_
                  · exact by rfl
                  · exact b_all
                  · refine aj ?_ ?_
                    · refine yp ?_
                      · refine Aq (N:=["row","atoms","divisor"]) ?_ ?_ ?_ ?_ ?_ ?_ ?_ ?_
                        · exact ⟨rfl,fun j k h=>match j,h with | 0,h=>(by cases h; exact ⟨_,rfl,rfl,⟨.inl rfl,.inr (.inl rfl),.inl rfl⟩⟩) | 1,h=>(by cases h; exact ⟨_,rfl,rfl,⟨.inl rfl,.inr (.inl rfl),.inl rfl⟩⟩) | _+2,h=>(by cases h)⟩
                        · exact ⟨rfl,rfl,by decide +kernel,by decide +kernel⟩
                        · exact rfl
                        · exact yr (aq 2 (pv 2))
                        · exact yd
                        · exact fun C s₀ H₀ ex pn=>pgE fun B=>(vo 0 (jm (show (["row","atoms","divisor"]:List Str).Nodup by decide +kernel) rfl (Or.inl rfl)))
                        · exact fun C s₀ H₀ ex pn=>wg
                        · exact fun C s₀ H₀ ex pn=>peE fun B=>(gn d_is_rest_row hr (by rfl) (aj (aq 1 (pv 1)) (aj (aq 2 (pv 2)) (aj (aq 0 (pv 0)) dg))) (cg (cg (cg eq_nil))))
                    · exact dg
    · exact jc (ju Bx)
    · exact uz
  · refine fu ?_ ?_
    · exact ou 3 (kh nd rfl (Or.inl rfl) (gn d_added_up hr (by rfl) (aj (aq 0 (pv 0)) (aj (aq 2 (pv 2)) dg)) (cg (cg eq_nil)))) (fun _ _ _ h=>h)
    · refine jc ?_
      · refine ju ?_
        · refine Cv ?_ ?_
          · exact Ah (Hy hq) (je nq (jy hu (aq 3 (pv 3)) cj (fun _ _=>rfl)) (aq 1 (pv 1))) cj (qb _)
          · refine G8 ?_
            · refine jr ?_
              · refine pq (Fj (by rfl)) ?_ ?_ PyProof.Rows.boot_all ?_
                · exact by rfl
                · exact b_all
                · refine aj ?_ ?_
                  · refine yp ?_
                    · refine Aq (N:=abg) ?_ ?_ ?_ ?_ ?_ ?_ ?_ ?_
                      · exact ⟨rfl,fun j k h=>match j,h with | 0,h=>(by cases h; exact ⟨_,rfl,rfl,⟨.inl rfl,.inr (.inl rfl),.inl rfl⟩⟩) | _+1,h=>(by cases h)⟩
                      · exact ⟨rfl,rfl,by decide +kernel,by decide +kernel⟩
                      · exact rfl
                      · exact yr (jy hu (aq 3 (pv 3)) cj (fun _ _=>rfl))
                      · exact yd
                      · exact fun C s₀ H₀ ex pn=>pgE fun B=>(Dd (is:=[0,1]) (Dl rfl (qe (jm (show abg.Nodup by decide +kernel) rfl (Or.inl rfl)) (qe (jm (show abg.Nodup by decide +kernel) rfl (Or.inl rfl)) Aw))))
                      · exact fun C s₀ H₀ ex pn=>wg
                      · exact fun C s₀ H₀ ex pn=>peE fun B=>(Ah (zy hq) (je nq (aq 1 (pv 1)) (aq 2 (pv 2))) cj (qb _))
                  · exact dg
theorem Ut (F:Fun K "is_rest" "is_rest" Fx f fd) (hmg:mg "is_rest" = some (.ref f)) (d_added_up:j8 P w K mg base "added_up" 2 Pn (_root_.K.um)) (d_is_rest_row:j8 P w K mg base "is_rest_row" 4 Zx (_root_.K.m6)) (b_all:mg "all" = none):j8 P w K mg base "is_rest" 5 a6i _root_.K.Ab :=
  ⟨f,fd,Uu F d_added_up d_is_rest_row b_all,F.binds (ps:=a6i) fun _ _ _ _ _ _ us hl=>bd3 (fun _ _ _=>rfl) us hl,F.kp,hmg⟩
noncomputable abbrev Ck:Stmt:=top 13
theorem Gx:m9 ["thing","parts"] Az (jd Ck):=⟨rfl,rfl,rfl,by decide +kernel,rfl,by decide +kernel,by decide +kernel⟩
theorem Ou (F:Fun K "plain_row" "plain_row" Ck f fd) (d_is_whole:j8 P w K mg base "is_whole" 1 Az (_root_.K.su)) (d_plain_tuple:j8 P w K mg base "plain_tuple" 1 Az (_root_.K.jq)) (b_all:mg "all" = none) (b_int:mg "int" = none) (b_tuple:mg "tuple" = none):Ad P w K mg base CX0 2 f fd Az (spF K Az.length _root_.K.vm):=by
  have d_is_whole:=d_is_whole.mono (by decide:1≤1)
  have d_plain_tuple:=d_plain_tuple.mono (by decide:1≤1)
  refine p7 (N:=["thing","parts"]) F Gx (by decide)  fun cdv A outer s H E B hr=>?_
  have hu:=wj hr
  have hq:=hr.units
  have nd:(["thing","parts"]:List Str).Nodup:=Gx.nd
  refine fu ?_ ?_
  · exact ou 1 (kh nd rfl (Or.inl rfl) (gn d_plain_tuple hr (by rfl) (aj (aq 0 (pv 0)) dg) (cg eq_nil))) (fun _ _ _ h=>h)
  · refine jc ?_
    · refine ju ?_
      · refine Tr ?_ ?_ ?_
        · refine xu ?_
          · refine jr ?_
            · refine pq (Fj (by rfl)) ?_ ?_ PyProof.Rows.boot_all ?_
              · exact by rfl
              · exact b_all
              · refine aj ?_ ?_
                · refine yp ?_
                  · refine Aq (N:=["part"]) ?_ ?_ ?_ ?_ ?_ ?_ ?_ ?_
                    · exact ⟨rfl,fun j k h=>match j,h with | _+0,h=>(by cases h)⟩
                    · exact ⟨rfl,rfl,by decide +kernel,by decide +kernel⟩
                    · exact rfl
                    · exact yr (aq 1 (pv 1))
                    · exact yd
                    · exact fun C s₀ H₀ ex pn=>pgE fun B=>(vo 0 (jm (show (["part"]:List Str).Nodup by decide +kernel) rfl (Or.inl rfl)))
                    · exact fun C s₀ H₀ ex pn=>wg
                    · exact fun C s₀ H₀ ex pn=>peE fun B=>(gn d_is_whole hr (by rfl) (aj (aq 0 (pv 0)) dg) (cg eq_nil))
                · exact dg
        · refine jr ?_
          · refine ur xq ?_ ?_ PyProof.Rows.boot_tuple ?_
            · exact by rfl
            · exact b_tuple
            · refine aj ?_ ?_
              · refine yp ?_
                · refine Aq (N:=["part"]) ?_ ?_ ?_ ?_ ?_ ?_ ?_ ?_
                  · exact ⟨rfl,fun j k h=>match j,h with | _+0,h=>(by cases h)⟩
                  · exact ⟨rfl,rfl,by decide +kernel,by decide +kernel⟩
                  · exact rfl
                  · exact yr (aq 1 (pv 1))
                  · exact yd
                  · exact fun C s₀ H₀ ex pn=>pgE fun B=>(vo 0 (jm (show (["part"]:List Str).Nodup by decide +kernel) rfl (Or.inl rfl)))
                  · exact fun C s₀ H₀ ex pn=>wg
                  · exact fun C s₀ H₀ ex pn=>peE fun B=>(jr (ur Dc (by rfl) b_int PyProof.Rows.boot_int (aj (aq 0 (pv 0)) dg)))
              · exact dg
        · exact ji dg (j7 gj (by decide))
theorem Mp (F:Fun K "plain_row" "plain_row" Ck f fd) (hmg:mg "plain_row" = some (.ref f)) (d_is_whole:j8 P w K mg base "is_whole" 1 Az (_root_.K.su)) (d_plain_tuple:j8 P w K mg base "plain_tuple" 1 Az (_root_.K.jq)) (b_all:mg "all" = none) (b_int:mg "int" = none) (b_tuple:mg "tuple" = none):j8 P w K mg base "plain_row" 2 Az _root_.K.vm :=
  ⟨f,fd,Ou F d_is_whole d_plain_tuple b_all b_int b_tuple,F.binds (ps:=Az) fun _ _ _ _ _ _ us hl=>bd1 (fun _=>rfl) us hl,F.kp,hmg⟩
noncomputable abbrev Bg:Stmt:=top 12
theorem Fz:m9 Az Az (jd Bg):=⟨rfl,rfl,rfl,by decide +kernel,rfl,by decide +kernel,by decide +kernel⟩
theorem Lk (F:Fun K "plain_rows" "plain_rows" Bg f fd) (d_plain_row:j8 P w K mg base "plain_row" 2 Az (_root_.K.vm)) (d_plain_tuple:j8 P w K mg base "plain_tuple" 1 Az (_root_.K.jq)):Ad P w K mg base CX0 3 f fd Az (spF K Az.length _root_.K.qm):=by
  have d_plain_row:=d_plain_row.mono (by decide:2≤2)
  have d_plain_tuple:=d_plain_tuple.mono (by decide:1≤2)
  refine p7 (N:=Az) F Fz (by decide)  fun cdv A outer s H E B hr=>?_
  have hu:=wj hr
  have hq:=hr.units
  have nd:Az.Nodup:=Fz.nd
  refine jc ?_
  · refine ju ?_
    · refine yp ?_
      · refine Aq (N:=["row"]) ?_ ?_ ?_ ?_ ?_ ?_ ?_ ?_
        · exact ⟨rfl,fun j k h=>match j,h with | _+0,h=>(by cases h)⟩
        · exact ⟨rfl,rfl,by decide +kernel,by decide +kernel⟩
        · exact rfl
        · exact yr (gn d_plain_tuple hr (by rfl) (aj (aq 0 (pv 0)) dg) (cg eq_nil))
        · exact yd
        · exact fun C s₀ H₀ ex pn=>pgE fun B=>(vo 0 (jm (show (["row"]:List Str).Nodup by decide +kernel) rfl (Or.inl rfl)))
        · exact fun C s₀ H₀ ex pn=>wg
        · exact fun C s₀ H₀ ex pn=>peE fun B=>(gn d_plain_row hr (by rfl) (aj (aq 0 (pv 0)) dg) (cg eq_nil))
theorem Lz (F:Fun K "plain_rows" "plain_rows" Bg f fd) (hmg:mg "plain_rows" = some (.ref f)) (d_plain_row:j8 P w K mg base "plain_row" 2 Az (_root_.K.vm)) (d_plain_tuple:j8 P w K mg base "plain_tuple" 1 Az (_root_.K.jq)):j8 P w K mg base "plain_rows" 3 Az _root_.K.qm :=
  ⟨f,fd,Lk F d_plain_row d_plain_tuple,F.binds (ps:=Az) fun _ _ _ _ _ _ us hl=>bd1 (fun _=>rfl) us hl,F.kp,hmg⟩
noncomputable abbrev yu:Stmt:=top 10
theorem Cu:m9 aai a6k (jd yu):=⟨rfl,rfl,rfl,by decide +kernel,rfl,by decide +kernel,by decide +kernel⟩
theorem Hh (F:Fun K "papers_within" "papers_within" yu f fd) (d_is_kind:j8 P w K mg base "is_kind" 1 Zy (_root_.K.lg)) (d_is_rest:j8 P w K mg base "is_rest" 5 a6i (_root_.K.Ab)) (d_is_sum:j8 P w K mg base "is_sum" 4 Pn (_root_.K.Cj)) (d_is_whole:j8 P w K mg base "is_whole" 1 Az (_root_.K.su)) (d_papers_of_cut:j8 P w K mg base "papers_of_cut" 2 a4w (_root_.K.qz)) (d_papers_of_or:j8 P w K mg base "papers_of_or" 2 a4b (_root_.K.oh)) (d_plain_rows:j8 P w K mg base "plain_rows" 3 Az (_root_.K.qm)) (d_plain_tuple:j8 P w K mg base "plain_tuple" 1 Az (_root_.K.jq)) (b_int:mg "int" = none):Ad P w K mg base CX0 6 f fd a6k (spF K a6k.length _root_.K.j5):=by
  have d_is_kind:=d_is_kind.mono (by decide:1≤5)
  have d_is_rest:=d_is_rest.mono (by decide:5≤5)
  have d_is_sum:=d_is_sum.mono (by decide:4≤5)
  have d_is_whole:=d_is_whole.mono (by decide:1≤5)
  have d_papers_of_cut:=d_papers_of_cut.mono (by decide:2≤5)
  have d_papers_of_or:=d_papers_of_or.mono (by decide:2≤5)
  have d_plain_rows:=d_plain_rows.mono (by decide:3≤5)
  have d_plain_tuple:=d_plain_tuple.mono (by decide:1≤5)
  refine p7 (N:=aai) F Cu (by decide)  fun cdv A outer s H E B hr=>?_
  have hu:=wj hr
  have hq:=hr.units
  have nd:aai.Nodup:=Cu.nd
  refine fu ?_ ?_
  · exact ou 3 (kh nd rfl (Or.inl rfl) (gn d_plain_tuple hr (by rfl) (aj (aq 2 (pv 2)) dg) (cg eq_nil))) (fun _ _ _ h=>h)
  · refine fu ?_ ?_
    · refine yc ?_ ?_ ?_
      · refine PW.pt ?_
        · exact Jo (xu (gn d_is_kind hr (by rfl) (aj (aq 3 (pv 3)) (aj u9 (aj cj dg))) (cg (cg (cg eq_nil))))) (Ge (xu (gn d_is_whole hr (by rfl) (aj (jy hu (aq 3 (pv 3)) cj (fun _ _=>rfl)) dg) (cg eq_nil))))
      · refine jc ?_
        · refine ju ?_
          · refine gn d_papers_of_or ?_ ?_ ?_ ?_
            · exact hr
            · exact by rfl
            · exact aj (aq 1 (pv 1)) (aj (jr (ur Dc (by rfl) b_int PyProof.Rows.boot_int (aj (jy hu (aq 3 (pv 3)) cj (fun _ _=>rfl)) dg))) (aj (jy hu (aq 3 (pv 3)) cj (fun _ _=>rfl)) dg))
            · exact cg (cg (cg eq_nil))
      · exact uz
    · refine fu ?_ ?_
      · refine yc ?_ ?_ ?_
        · refine PW.pt ?_
          · exact Jo (xu (gn d_is_kind hr (by rfl) (aj (aq 3 (pv 3)) (aj u9 (aj cj dg))) (cg (cg (cg eq_nil))))) (Ge (xu (gn d_is_whole hr (by rfl) (aj (jy hu (aq 3 (pv 3)) cj (fun _ _=>rfl)) dg) (cg eq_nil))))
        · refine jc ?_
          · refine ju ?_
            · refine gn d_papers_of_cut ?_ ?_ ?_ ?_
              · exact hr
              · exact by rfl
              · refine aj ?_ ?_
                · exact aq 0 (pv 0)
                · refine aj ?_ ?_
                  · exact aq 1 (pv 1)
                  · exact aj (jy hu (aq 3 (pv 3)) cj (fun _ _=>rfl)) (aj (jr (ur Dc (by rfl) b_int PyProof.Rows.boot_int (aj (jy hu (aq 3 (pv 3)) cj (fun _ _=>rfl)) dg))) (aj (T5 (aq 3 (pv 3)) (Pq cj) a6f) dg))
              · exact cg (cg (cg (cg (cg eq_nil))))
        · exact uz
      · refine fu ?_ ?_
        · refine yc ?_ ?_ ?_
          · refine PW.pt ?_
            · refine Jo ?_ ?_
              · exact xu (gn d_is_kind hr (by rfl) (aj (aq 3 (pv 3)) (aj u9 (aj cj dg))) (cg (cg (cg eq_nil))))
              · exact Ge (xu (gn d_is_sum hr (by rfl) (aj (jy hu (aq 1 (pv 1)) cj (fun _ _=>rfl)) (aj (gn d_plain_rows hr (by rfl) (aj (jy hu (aq 3 (pv 3)) cj (fun _ _=>rfl)) dg) (cg eq_nil)) dg)) (cg (cg eq_nil))))
          · exact jc (ju (Aa dg (j7 gj (by decide))))
          · exact uz
        · refine fu ?_ ?_
          · refine yc ?_ ?_ ?_
            · refine PW.pt ?_
              · refine Jo ?_ ?_
                · exact xu (gn d_is_kind hr (by rfl) (aj (aq 3 (pv 3)) (aj u9 (aj cj dg))) (cg (cg (cg eq_nil))))
                · refine Jo ?_ ?_
                  · exact xu (gn d_is_whole hr (by rfl) (aj (jy hu (aq 3 (pv 3)) cj (fun _ _=>rfl)) dg) (cg eq_nil))
                  · refine Ge ?_
                    · refine xu ?_
                      · refine gn d_is_rest ?_ ?_ ?_ ?_
                        · exact hr
                        · exact by rfl
                        · refine aj ?_ ?_
                          · exact jy hu (aq 1 (pv 1)) cj (fun _ _=>rfl)
                          · exact aj (jr (ur Dc (by rfl) b_int PyProof.Rows.boot_int (aj (jy hu (aq 3 (pv 3)) cj (fun _ _=>rfl)) dg))) (aj (gn d_plain_rows hr (by rfl) (aj (jy hu (aq 3 (pv 3)) cj (fun _ _=>rfl)) dg) (cg eq_nil)) dg)
                        · exact cg (cg (cg eq_nil))
            · exact jc (ju (Aa dg (j7 gj (by decide))))
            · exact uz
          · exact jc (ju K8)
theorem Hl (F:Fun K "papers_within" "papers_within" yu f fd) (hmg:mg "papers_within" = some (.ref f)) (d_is_kind:j8 P w K mg base "is_kind" 1 Zy (_root_.K.lg)) (d_is_rest:j8 P w K mg base "is_rest" 5 a6i (_root_.K.Ab)) (d_is_sum:j8 P w K mg base "is_sum" 4 Pn (_root_.K.Cj)) (d_is_whole:j8 P w K mg base "is_whole" 1 Az (_root_.K.su)) (d_papers_of_cut:j8 P w K mg base "papers_of_cut" 2 a4w (_root_.K.qz)) (d_papers_of_or:j8 P w K mg base "papers_of_or" 2 a4b (_root_.K.oh)) (d_plain_rows:j8 P w K mg base "plain_rows" 3 Az (_root_.K.qm)) (d_plain_tuple:j8 P w K mg base "plain_tuple" 1 Az (_root_.K.jq)) (b_int:mg "int" = none):j8 P w K mg base "papers_within" 6 a6k _root_.K.j5 :=
  ⟨f,fd,Hh F d_is_kind d_is_rest d_is_sum d_is_whole d_papers_of_cut d_papers_of_or d_plain_rows d_plain_tuple b_int,F.binds (ps:=a6k) fun _ _ _ _ _ _ us hl=>bd3 (fun _ _ _=>rfl) us hl,F.kp,hmg⟩
noncomputable abbrev Ak:Stmt:=top 6
theorem Em:m9 ab4 ["rows"] (jd Ak):=⟨rfl,rfl,rfl,by decide +kernel,rfl,by decide +kernel,by decide +kernel⟩
theorem Js (F:Fun K "first_lists" "first_lists" Ak f fd) (d_at_least:j8 P w K mg base "at_least" 1 Hu (_root_.K.vf)) (d_at_most:j8 P w K mg base "at_most" 1 Hu (_root_.K.wu)):Ad P w K mg base CX0 2 f fd ["rows"] (spF K (["rows"]:List Str).length _root_.K.v7):=by
  have d_at_least:=d_at_least.mono (by decide:1≤1)
  have d_at_most:=d_at_most.mono (by decide:1≤1)
  refine p7 (N:=ab4) F Em (by decide)  fun cdv A outer s H E B hr=>?_
  have hu:=wj hr
  have hq:=hr.units
  have nd:ab4.Nodup:=Em.nd
  refine fu ?_ ?_
  · exact Bj 1 (kh nd rfl (Or.inl rfl) (G6 dg (j7 gj (by decide)))) (fun _ _ _ h=>h)
  · refine fu ?_ ?_
    · refine Cw ?_ ?_ ?_ ?_ ?_ ?_
      · exact PassesOwn.never
      · exact rfl
      · exact yr (aq 0 (pv 0))
      · exact Dd (is:=[2,3,4]) (Dl rfl (qe (jm nd rfl (Or.inl rfl)) (qe (jm nd rfl (Or.inl rfl)) (qe (jm nd rfl (Or.inl rfl)) Aw))))
      · refine fu ?_ ?_
        · exact vp 1 (yq (Ew PySem.F.plainAttrs_list PySem.F.slot_list_append PySem.F.type_list_append v9 (pv 1) (sy (gn d_at_least hr (by rfl) (aj (aq 2 (pv 2)) (aj (aq 3 (pv 3)) dg)) (cg (cg eq_nil))) vq)))
        · exact jc (vp 1 (yq (Ew PySem.F.plainAttrs_list PySem.F.slot_list_append PySem.F.type_list_append v9 (pv 1) (sy (gn d_at_most hr (by rfl) (aj (aq 2 (pv 2)) (aj (aq 4 (pv 4)) dg)) (cg (cg eq_nil))) vq))))
      · exact yd
    · exact jc (ju (ji (aj (aq 1 (pv 1)) (aj (Aa dg (j7 gj (by decide))) dg)) (j7 (au (au gj)) (by decide))))
theorem Jw (F:Fun K "first_lists" "first_lists" Ak f fd) (hmg:mg "first_lists" = some (.ref f)) (d_at_least:j8 P w K mg base "at_least" 1 Hu (_root_.K.vf)) (d_at_most:j8 P w K mg base "at_most" 1 Hu (_root_.K.wu)):j8 P w K mg base "first_lists" 2 ["rows"] _root_.K.v7 :=
  ⟨f,fd,Js F d_at_least d_at_most,F.binds (ps:=["rows"]) fun _ _ _ _ _ _ us hl=>bd1 (fun _=>rfl) us hl,F.kp,hmg⟩
noncomputable abbrev Hv:Stmt:=top 5
theorem Nm:m9 abk a2y (jd Hv):=⟨rfl,rfl,rfl,by decide +kernel,rfl,by decide +kernel,by decide +kernel⟩
theorem Wo (F:Fun K "let_by" "let_by" Hv f fd) (d_first_lists:j8 P w K mg base "first_lists" 2 ["rows"] (_root_.K.v7)) (d_laid_in:j8 P w K mg base "laid_in" 1 X3 (_root_.K.uh)) (d_papers_within:j8 P w K mg base "papers_within" 6 a6k (_root_.K.j5)) (b_len:mg "len" = none) (c_MOST_DEEP:∃ tk,mg "MOST_DEEP" = some (.int 90 tk)):Ad P w K mg base CX0 7 f fd a2y (spF K a2y.length _root_.K.qu):=by
  have d_first_lists:=d_first_lists.mono (by decide:2≤6)
  have d_laid_in:=d_laid_in.mono (by decide:1≤6)
  have d_papers_within:=d_papers_within.mono (by decide:6≤6)
  refine p7 (N:=abk) F Nm (by decide)  fun cdv A outer s H E B hr=>?_
  have hu:=wj hr
  have hq:=hr.units
  have nd:abk.Nodup:=Nm.nd
  refine fu ?_ ?_
  · exact ou 3 (Le (N:=a9o) ⟨rfl,rfl,by decide +kernel,by decide +kernel⟩ rfl (yr (aq 0 (pv 0))) (fun C s₀ H₀ ex pn=>pgE fun B=>(Dd (is:=[0,1,2]) (Dl rfl (qe (jm (show a9o.Nodup by decide +kernel) rfl (Or.inl rfl)) (qe (jm (show a9o.Nodup by decide +kernel) rfl (Or.inl rfl)) (qe (jm (show a9o.Nodup by decide +kernel) rfl (Or.inl rfl)) Aw)))))) (fun C s₀ H₀ ex pn=>wg) (fun C s₀ H₀ ex pn=>peE fun B=>(aq 0 (pv 0))) (jm nd rfl (Or.inl rfl)) rfl) (fun σ H Q h=>Mu ⟨rfl,fun j k h=>match j,h with | _+0,h=>(by cases h)⟩ yd (Nr h))
  · refine fu ?_ ?_
    · refine @Bj _ _ _ _ (fOf _ _ _) _ ?_ (fun _ _ _ h=>h)
      · refine kh ?_ ?_ ?_ ?_
        · exact nd
        · exact rfl
        · exact Or.inl rfl
        · refine G6 ?_ ?_
          · refine aj ?_ ?_
            · refine ji ?_ ?_
              · exact aj (gn d_laid_in hr (by rfl) (aj (gn d_first_lists hr (by rfl) (aj (aq 0 (pv 0)) dg) (cg eq_nil)) (aj (aq 1 (pv 1)) dg)) (cg (cg eq_nil))) (aj (aq 2 (pv 2)) (aj cj dg))
              · exact j7 (au (au (au gj))) (by decide)
            · exact dg
          · exact j7 (au gj) (by decide)
    · refine fu ?_ ?_
      · refine U9 _ ?_ ?_ ?_
        · exact PassesOwn.never
        · exact uo Ox (Nu 4 b_len rfl (pv 4)) cj (qb _)
        · refine fu ?_ ?_
          · exact a3o 4 5 (Tq (Wx PySem.F.plainAttrs_list PySem.F.slot_list_pop PySem.F.type_list_pop Xn (pv 4)) (jm nd rfl (Or.inr rfl)))
          · refine fu ?_ ?_
            · exact ou 6 (kh nd rfl (Or.inl rfl) K8) (fun _ _ _ h=>h)
            · refine fu ?_ ?_
              · refine yc ?_ ?_ ?_
                · exact uo a2r (jy hu (aq 5 (pv 5)) cj (fun _ _=>rfl)) (a0b (by rfl) c_MOST_DEEP) (qb _)
                · refine jc ?_
                  · exact ou 6 (kh nd rfl (Or.inl rfl) (gn d_papers_within hr (by rfl) (aj (aq 3 (pv 3)) (aj (jy hu (aq 5 (pv 5)) cj (fun _ _=>rfl)) (aj (jy hu (aq 5 (pv 5)) cj (fun _ _=>rfl)) dg))) (cg (cg (cg eq_nil))))) (fun _ _ _ h=>h)
                · exact uz
              · refine fu ?_ ?_
                · exact yc (uo a7y (aq 6 (pv 6)) K8 (qb _))   (jc (ju Bx))   uz
                · refine jc ?_
                  · refine J3 _ ?_
                    · refine yq ?_
                      · refine Ew PySem.F.plainAttrs_list PySem.F.slot_list_extend PySem.F.type_list_extend Gi ?_ ?_
                        · exact pv 4
                        · refine sy ?_ ?_
                          · refine yp ?_
                            · refine Aq (N:=aat) ?_ ?_ ?_ ?_ ?_ ?_ ?_ ?_
                              · exact ⟨rfl,fun j k h=>match j,h with | 0,h=>(by cases h; exact ⟨_,rfl,rfl,⟨.inl rfl,.inr (.inl rfl),.inl rfl⟩⟩) | _+1,h=>(by cases h)⟩
                              · exact ⟨rfl,rfl,by decide +kernel,by decide +kernel⟩
                              · exact rfl
                              · exact yr (aq 6 (pv 6))
                              · exact yd
                              · exact fun C s₀ H₀ ex pn=>pgE fun B=>(Dd (is:=[0,1]) (Dl rfl (qe (jm (show aat.Nodup by decide +kernel) rfl (Or.inl rfl)) (qe (jm (show aat.Nodup by decide +kernel) rfl (Or.inl rfl)) Aw))))
                              · exact fun C s₀ H₀ ex pn=>wg
                              · exact fun C s₀ H₀ ex pn=>peE fun B=>(ji (aj (aq 0 (pv 0)) (aj (aq 1 (pv 1)) (aj (je qj (jy hu (aq 2 (pv 2)) cj (fun _ _=>rfl)) cj) dg))) (j7 (au (au (au gj))) (by decide)))
                          · exact vq
      · exact jc (ju Bx)
theorem Xf (F:Fun K "let_by" "let_by" Hv f fd) (hmg:mg "let_by" = some (.ref f)) (d_first_lists:j8 P w K mg base "first_lists" 2 ["rows"] (_root_.K.v7)) (d_laid_in:j8 P w K mg base "laid_in" 1 X3 (_root_.K.uh)) (d_papers_within:j8 P w K mg base "papers_within" 6 a6k (_root_.K.j5)) (b_len:mg "len" = none) (c_MOST_DEEP:∃ tk,mg "MOST_DEEP" = some (.int 90 tk)):j8 P w K mg base "let_by" 7 a2y _root_.K.qu :=
  ⟨f,fd,Wo F d_first_lists d_laid_in d_papers_within b_len c_MOST_DEEP,F.binds (ps:=a2y) fun _ _ _ _ _ _ us hl=>bd3 (fun _ _ _=>rfl) us hl,F.kp,hmg⟩
noncomputable abbrev Ai:Stmt:=top 27
theorem Er:m9 Wm Wm (jd Ai):=⟨rfl,rfl,rfl,by decide +kernel,rfl,by decide +kernel,by decide +kernel⟩
theorem K1 (F:Fun K "_law_cell_at" "_law_cell_at" Ai f fd) (b_len:mg "len" = none):Ad P w K mg base CX0 1 f fd Wm (spF K Wm.length _root_.K.jf):=by
  refine p7 (N:=Wm) F Er (by decide)  fun cdv A outer s H E B hr=>?_
  have hu:=wj hr
  have hq:=hr.units
  have nd:Wm.Nodup:=Er.nd
  exact fu (yc (uo Gy (aq 1 (pv 1)) (jr (pq u6 (by rfl) b_len PySem.boot_len (aj (aq 0 (pv 0)) dg))) (qb _))   (jc (ju (jy hu (aq 0 (pv 0)) (aq 1 (pv 1)) (fun _ _=>rfl))))   uz)   (jc (ju cj))
theorem Jz (F:Fun K "_law_cell_at" "_law_cell_at" Ai f fd) (hmg:mg "_law_cell_at" = some (.ref f)) (b_len:mg "len" = none):j8 P w K mg base "_law_cell_at" 1 Wm _root_.K.jf :=
  ⟨f,fd,K1 F b_len,F.binds (ps:=Wm) fun _ _ _ _ _ _ us hl=>bd2 (fun _ _=>rfl) us hl,F.kp,hmg⟩
noncomputable abbrev Bb:Stmt:=top 28
theorem Fi:m9 a01 a01 (jd Bb):=⟨rfl,rfl,rfl,by decide +kernel,rfl,by decide +kernel,by decide +kernel⟩
theorem Ln (F:Fun K "_law_signed" "_law_signed" Bb f fd):Ad P w K mg base CX0 1 f fd a01 (spF K a01.length _root_.K.uf):=by
  refine p7 (N:=a01) F Fi (by decide)  fun cdv A outer s H E B hr=>?_
  have hu:=wj hr
  have hq:=hr.units
  have nd:a01.Nodup:=Fi.nd
  exact fu (yc (uo Gy (aq 0 (pv 0)) cj (qb _))   (jc (ju (Ow Dm (je nq (Ow Dm (aq 0 (pv 0))) (aq 1 (pv 1))))))   uz)   (jc (ju (je nq (aq 0 (pv 0)) (aq 1 (pv 1)))))
theorem La (F:Fun K "_law_signed" "_law_signed" Bb f fd) (hmg:mg "_law_signed" = some (.ref f)):j8 P w K mg base "_law_signed" 1 a01 _root_.K.uf :=
  ⟨f,fd,Ln F,F.binds (ps:=a01) fun _ _ _ _ _ _ us hl=>bd2 (fun _ _=>rfl) us hl,F.kp,hmg⟩
noncomputable abbrev Dy:Stmt:=top 29
theorem Ia:m9 ll4 a0a (jd Dy):=⟨rfl,rfl,rfl,by decide +kernel,rfl,by decide +kernel,by decide +kernel⟩
theorem Rp (F:Fun K "_law_rows" "_law_rows" Dy f fd) (d_law_cell_at:j8 P w K mg base "_law_cell_at" 1 Wm (_root_.K.jf)) (d_law_signed:j8 P w K mg base "_law_signed" 1 a01 (_root_.K.uf)) (b_range:mg "range" = none):Ad P w K mg base CX0 2 f fd a0a (spF K a0a.length _root_.K.Bs):=by
  have d_law_cell_at:=d_law_cell_at.mono (by decide:1≤1)
  have d_law_signed:=d_law_signed.mono (by decide:1≤1)
  refine p7 (N:=ll4) F Ia (by decide)  fun cdv A outer s H E B hr=>?_
  have hu:=wj hr
  have hq:=hr.units
  have nd:ll4.Nodup:=Ia.nd
  refine fu ?_ ?_
  · exact Bj 1 (kh nd rfl (Or.inl rfl) (G6 dg (j7 gj (by decide)))) (fun _ _ _ h=>h)
  · refine fu ?_ ?_
    · exact Bj 2 (kh nd rfl (Or.inl rfl) Wj) (fun _ _ _ h=>h)
    · refine fu ?_ ?_
      · refine Cw ?_ ?_ ?_ ?_ ?_ ?_
        · exact PassesOwn.never
        · exact rfl
        · exact Cq (by rfl) b_range (je qj cj (je nq (gn d_law_cell_at hr (by rfl) (aj (aq 0 (pv 0)) (aj cj dg)) (cg (cg eq_nil))) cj))
        · exact vo 3 (jm nd rfl (Or.inl rfl))
        · refine fu ?_ ?_
          · exact ou 4 (kh nd rfl (Or.inl rfl) (gn d_law_cell_at hr (by rfl) (aj (aq 0 (pv 0)) (aj (je qj cj (aq 3 (pv 3))) dg)) (cg (cg eq_nil)))) (fun _ _ _ h=>h)
          · refine fu ?_ ?_
            · refine @ou _ _ _ _ (tOf _ _ _) _ ?_ (fun _ _ _ h=>h)
              · refine kh ?_ ?_ ?_ ?_
                · exact nd
                · exact rfl
                · exact Or.inl rfl
                · refine jy ?_ ?_ ?_ ?_
                  · exact hu
                  · refine Aa ?_ ?_
                    · exact aj (gn d_law_signed hr (by rfl) (aj (aq 4 (pv 4)) (aj cj dg)) (cg (cg eq_nil))) (aj (gn d_law_signed hr (by rfl) (aj (aq 4 (pv 4)) (aj (je yg cj (je Y6 cj cj)) dg)) (cg (cg eq_nil))) dg)
                    · exact j7 (au (au gj)) (by decide)
                  · exact je nq (je mz (gn d_law_cell_at hr (by rfl) (aj (aq 0 (pv 0)) (aj cj dg)) (cg (cg eq_nil))) cj) cj
                  · exact fun _ _=>rfl
            · refine fu ?_ ?_
              · refine @ou _ _ _ _ (tOf _ _ _) _ ?_ (fun _ _ _ h=>h)
                · refine kh ?_ ?_ ?_ ?_
                  · exact nd
                  · exact rfl
                  · exact Or.inl rfl
                  · refine je ?_ ?_ ?_
                    · exact nq
                    · exact je mz (aq 4 (pv 4)) cj
                    · refine jy ?_ ?_ ?_ ?_
                      · exact hu
                      · exact Aa (aj cj (aj (je Y6 cj cj) dg)) (j7 (au (au gj)) (by decide))
                      · exact je nq (je mz (gn d_law_cell_at hr (by rfl) (aj (aq 0 (pv 0)) (aj cj dg)) (cg (cg eq_nil))) cj) cj
                      · exact fun _ _=>rfl
              · refine fu ?_ ?_
                · exact ou 7 (kh nd rfl (Or.inl rfl) (jy hu (Aa (Y0 (.cons (.cons (.cons (.cons .nil))))) (j7 (len_strs _) (by decide))) (aq 3 (pv 3)) (fun _ _=>rfl))) (fun _ _ _ h=>h)
                · refine fu ?_ ?_
                  · refine vp _ ?_
                    · refine yq ?_
                      · refine Ew PySem.F.plainAttrs_list PySem.F.slot_list_append PySem.F.type_list_append v9 ?_ ?_
                        · exact pv 1
                        · exact sy (ji (aj (aq 7 (pv 7)) (aj (aq 5 (pv 5)) (aj (je qj (aq 5 (pv 5)) (aq 6 (pv 6))) dg))) (j7 (au (au (au gj))) (by decide))) vq
                  · exact jc (Ob 2 hu (pv 2) (aq 7 (pv 7)) (je qj (aq 5 (pv 5)) (je nq (je mz (aq 4 (pv 4)) cj) (je qj (aq 6 (pv 6)) cj))) rfl)
        · exact Ci
      · exact jc (ju (ji (aj (aq 1 (pv 1)) (aj (aq 2 (pv 2)) dg)) (j7 (au (au gj)) (by decide))))
theorem Qo (F:Fun K "_law_rows" "_law_rows" Dy f fd) (hmg:mg "_law_rows" = some (.ref f)) (d_law_cell_at:j8 P w K mg base "_law_cell_at" 1 Wm (_root_.K.jf)) (d_law_signed:j8 P w K mg base "_law_signed" 1 a01 (_root_.K.uf)) (b_range:mg "range" = none):j8 P w K mg base "_law_rows" 2 a0a _root_.K.Bs :=
  ⟨f,fd,Rp F d_law_cell_at d_law_signed b_range,F.binds (ps:=a0a) fun _ _ _ _ _ _ us hl=>bd1 (fun _=>rfl) us hl,F.kp,hmg⟩
noncomputable abbrev G7:Stmt:=top 30
theorem Ks:m9 ll9 Xg (jd G7):=⟨rfl,rfl,rfl,by decide +kernel,rfl,by decide +kernel,by decide +kernel⟩
theorem Vo (F:Fun K "_law_sum" "_law_sum" G7 f fd) (b_len:mg "len" = none) (b_range:mg "range" = none) (b_sorted:mg "sorted" = none) (b_tuple:mg "tuple" = none):Ad P w K mg base CX0 1 f fd Xg (spF K Xg.length _root_.K.uc):=by
  refine p7 (N:=ll9) F Ks (by decide)  fun cdv A outer s H E B hr=>?_
  have hu:=wj hr
  have hq:=hr.units
  have nd:ll9.Nodup:=Ks.nd
  refine fu ?_ ?_
  · exact Bj 2 (kh nd rfl (Or.inl rfl) (G6 dg (j7 gj (by decide)))) (fun _ _ _ h=>h)
  · refine fu ?_ ?_
    · refine Cw ?_ ?_ ?_ ?_ ?_ ?_
      · exact PassesOwn.never
      · exact rfl
      · exact Cq (by rfl) b_range (jr (pq u6 (by rfl) b_len PySem.boot_len (aj (aq 1 (pv 1)) dg)))
      · exact vo 3 (jm nd rfl (Or.inl rfl))
      · refine fu ?_ ?_
        · refine @ou _ _ _ _ (tOf _ _ _) _ ?_ (fun _ _ _ h=>h)
          · refine kh ?_ ?_ ?_ ?_
            · exact nd
            · exact rfl
            · exact Or.inl rfl
            · exact je Av (je nq (je mz (aq 0 (pv 0)) (jy hu (Aa (aj cj (aj cj (aj cj (aj cj dg)))) (j7 (au (au (au (au gj)))) (by decide))) (aq 3 (pv 3)) (fun _ _=>rfl))) cj) cj
        · refine jc ?_
          · refine yc ?_ ?_ ?_
            · exact uo (Hy hq) (aq 4 (pv 4)) cj (qb _)
            · refine jc ?_
              · refine vp _ ?_
                · refine yq ?_
                  · refine Ew PySem.F.plainAttrs_list PySem.F.slot_list_append PySem.F.type_list_append v9 ?_ ?_
                    · exact pv 2
                    · exact sy (ji (aj (jy hu (jy hu (aq 1 (pv 1)) (aq 3 (pv 3)) (fun _ _=>rfl)) cj (fun _ _=>rfl)) (aj (aq 4 (pv 4)) dg)) (j7 (au (au gj)) (by decide))) vq
            · exact uz
      · exact Ci
    · exact jc (ju (jr (ur xq (by rfl) b_tuple PyProof.Rows.boot_tuple (aj (jr (pq Lx (by rfl) b_sorted PyProof.Rows.boot_sorted (aj (aq 2 (pv 2)) dg))) dg))))
theorem V9 (F:Fun K "_law_sum" "_law_sum" G7 f fd) (hmg:mg "_law_sum" = some (.ref f)) (b_len:mg "len" = none) (b_range:mg "range" = none) (b_sorted:mg "sorted" = none) (b_tuple:mg "tuple" = none):j8 P w K mg base "_law_sum" 1 Xg _root_.K.uc :=
  ⟨f,fd,Vo F b_len b_range b_sorted b_tuple,F.binds (ps:=Xg) fun _ _ _ _ _ _ us hl=>bd2 (fun _ _=>rfl) us hl,F.kp,hmg⟩
noncomputable abbrev Hq:Stmt:=top 31
theorem O2:m9 Vy Vy (jd Hq):=⟨rfl,rfl,rfl,by decide +kernel,rfl,by decide +kernel,by decide +kernel⟩
theorem Xw (F:Fun K "_law_at" "_law_at" Hq f fd) (b_sum:mg "sum" = none):Ad P w K mg base CX0 1 f fd Vy (spF K Vy.length _root_.K.wz):=by
  refine p7 (N:=Vy) F O2 (by decide)  fun cdv A outer s H E B hr=>?_
  have hu:=wj hr
  have hq:=hr.units
  have nd:Vy.Nodup:=O2.nd
  refine jc ?_
  · refine ju ?_
    · refine jr ?_
      · refine pq (W8 (by rfl)) ?_ ?_ PyProof.Rows.boot_sum ?_
        · exact by rfl
        · exact b_sum
        · refine aj ?_ ?_
          · refine yp ?_
            · refine Aq (N:=aav) ?_ ?_ ?_ ?_ ?_ ?_ ?_ ?_
              · exact ⟨rfl,fun j k h=>match j,h with | 0,h=>(by cases h; exact ⟨_,rfl,rfl,⟨.inl rfl,.inr (.inl rfl),.inl rfl⟩⟩) | _+1,h=>(by cases h)⟩
              · exact ⟨rfl,rfl,by decide +kernel,by decide +kernel⟩
              · exact rfl
              · exact yr (aq 0 (pv 0))
              · exact yd
              · intro C s₀ H₀ ex pn
                refine pgE ?_
                exact fun B=>(Dd (is:=[0,1]) (Dl rfl (qe (jm (show aav.Nodup by decide +kernel) rfl (Or.inl rfl)) (qe (jm (show aav.Nodup by decide +kernel) rfl (Or.inl rfl)) Aw))))
              · exact fun C s₀ H₀ ex pn=>wg
              · exact fun C s₀ H₀ ex pn=>peE fun B=>(je yg (aq 1 (pv 1)) (jy hu (aq 2 (pv 2)) (aq 0 (pv 0)) (fun _ _=>rfl)))
          · exact dg
theorem Yj (F:Fun K "_law_at" "_law_at" Hq f fd) (hmg:mg "_law_at" = some (.ref f)) (b_sum:mg "sum" = none):j8 P w K mg base "_law_at" 1 Vy _root_.K.wz :=
  ⟨f,fd,Xw F b_sum,F.binds (ps:=Vy) fun _ _ _ _ _ _ us hl=>bd2 (fun _ _=>rfl) us hl,F.kp,hmg⟩
noncomputable abbrev Dw:Stmt:=top 32
theorem Jm:m9 ll7 Vx (jd Dw):=⟨rfl,rfl,rfl,by decide +kernel,rfl,by decide +kernel,by decide +kernel⟩
theorem Rz (F:Fun K "_law_atom" "_law_atom" Dw f fd) (d_law_at:j8 P w K mg base "_law_at" 1 Vy (_root_.K.wz)) (d_law_sum:j8 P w K mg base "_law_sum" 1 Xg (_root_.K.uc)):Ad P w K mg base CX0 2 f fd Vx (spF K Vx.length _root_.K.vg):=by
  have d_law_at:=d_law_at.mono (by decide:1≤1)
  have d_law_sum:=d_law_sum.mono (by decide:1≤1)
  refine p7 (N:=ll7) F Jm (by decide)  fun cdv A outer s H E B hr=>?_
  have hu:=wj hr
  have hq:=hr.units
  have nd:ll7.Nodup:=Jm.nd
  refine fu ?_ ?_
  · exact ou 3 (kh nd rfl (Or.inl rfl) (gn d_law_sum hr (by rfl) (aj (je mz (aq 0 (pv 0)) cj) (aj (aq 1 (pv 1)) dg)) (cg (cg eq_nil)))) (fun _ _ _ h=>h)
  · refine fu ?_ ?_
    · exact ou 4 (kh nd rfl (Or.inl rfl) (gn d_law_at hr (by rfl) (aj (aq 3 (pv 3)) (aj (aq 2 (pv 2)) dg)) (cg (cg eq_nil)))) (fun _ _ _ h=>h)
    · refine fu ?_ ?_
      · refine yc ?_ ?_ ?_
        · exact uo Gy (je nq (aq 0 (pv 0)) cj) cj (qb _)
        · refine jc ?_
          · refine ju ?_
            · refine ji ?_ ?_
              · refine aj ?_ ?_
                · exact u9
                · exact aj (ji (aj (je Av (Ow Dm (aq 4 (pv 4))) (je yg (je nq (aq 0 (pv 0)) cj) (je nq (je mz (aq 0 (pv 0)) cj) cj))) (aj (aq 3 (pv 3)) dg)) (j7 (au (au gj)) (by decide))) dg
              · exact j7 (au (au gj)) (by decide)
        · exact uz
      · refine fu ?_ ?_
        · exact ou 5 (kh nd rfl (Or.inl rfl) (je qj cj (je nq (je mz (aq 0 (pv 0)) cj) cj))) (fun _ _ _ h=>h)
        · refine jc ?_
          · refine ju ?_
            · refine ji ?_ ?_
              · refine aj ?_ ?_
                · exact u9
                · refine aj ?_ ?_
                  · exact ji (aj (je qj (Ow Dm (aq 4 (pv 4))) (je yg (aq 5 (pv 5)) (je Av (je nq (je mz (aq 0 (pv 0)) cj) cj) cj))) (aj (aq 3 (pv 3)) dg)) (j7 (au (au gj)) (by decide))
                  · exact aj (aq 5 (pv 5)) dg
              · exact j7 (au (au (au gj))) (by decide)
theorem Ra (F:Fun K "_law_atom" "_law_atom" Dw f fd) (hmg:mg "_law_atom" = some (.ref f)) (d_law_at:j8 P w K mg base "_law_at" 1 Vy (_root_.K.wz)) (d_law_sum:j8 P w K mg base "_law_sum" 1 Xg (_root_.K.uc)):j8 P w K mg base "_law_atom" 2 Vx _root_.K.vg :=
  ⟨f,fd,Rz F d_law_at d_law_sum,F.binds (ps:=Vx) fun _ _ _ _ _ _ us hl=>bd3 (fun _ _ _=>rfl) us hl,F.kp,hmg⟩
noncomputable abbrev Dz:Stmt:=top 33
theorem Jf:m9 ll5 Vx (jd Dz):=⟨rfl,rfl,rfl,by decide +kernel,rfl,by decide +kernel,by decide +kernel⟩
theorem Q8 (F:Fun K "_law_form" "_law_form" Dz f fd) (d_law_atom:j8 P w K mg base "_law_atom" 2 Vx (_root_.K.vg)) (d_law_sum:j8 P w K mg base "_law_sum" 1 Xg (_root_.K.uc)):Ad P w K mg base CX0 3 f fd Vx (spF K Vx.length _root_.K.yx):=by
  have d_law_atom:=d_law_atom.mono (by decide:2≤2)
  have d_law_sum:=d_law_sum.mono (by decide:1≤2)
  refine p7 (N:=ll5) F Jf (by decide)  fun cdv A outer s H E B hr=>?_
  have hu:=wj hr
  have hq:=hr.units
  have nd:ll5.Nodup:=Jf.nd
  refine fu ?_ ?_
  · exact ou 3 (kh nd rfl (Or.inl rfl) (je nq (aq 0 (pv 0)) cj)) (fun _ _ _ h=>h)
  · refine fu ?_ ?_
    · exact ou 4 (kh nd rfl (Or.inl rfl) (gn d_law_atom hr (by rfl) (aj (je mz (aq 0 (pv 0)) cj) (aj (aq 1 (pv 1)) (aj (aq 2 (pv 2)) dg))) (cg (cg (cg eq_nil))))) (fun _ _ _ h=>h)
    · refine fu ?_ ?_
      · exact ou 5 (kh nd rfl (Or.inl rfl) (gn d_law_atom hr (by rfl) (aj (je mz (aq 0 (pv 0)) cj) (aj (aq 1 (pv 1)) (aj (aq 2 (pv 2)) dg))) (cg (cg (cg eq_nil))))) (fun _ _ _ h=>h)
      · refine fu ?_ ?_
        · refine @ou _ _ _ _ (tOf _ _ _) _ ?_ (fun _ _ _ h=>h)
          · refine kh ?_ ?_ ?_ ?_
            · exact nd
            · exact rfl
            · exact Or.inl rfl
            · refine ji ?_ ?_
              · refine aj ?_ ?_
                · exact u9
                · refine aj ?_ ?_
                  · refine ji ?_ ?_
                    · exact aj (je Av (je nq (je mz (aq 0 (pv 0)) cj) cj) cj) (aj (gn d_law_sum hr (by rfl) (aj (je mz (aq 0 (pv 0)) cj) (aj (aq 1 (pv 1)) dg)) (cg (cg eq_nil))) dg)
                    · exact j7 (au (au gj)) (by decide)
                  · exact dg
              · exact j7 (au (au gj)) (by decide)
        · refine jc ?_
          · refine ju ?_
            · refine jy ?_ ?_ ?_ ?_
              · exact hu
              · refine Aa ?_ ?_
                · refine aj ?_ ?_
                  · exact aq 4 (pv 4)
                  · refine aj ?_ ?_
                    · exact aq 4 (pv 4)
                    · refine aj ?_ ?_
                      · exact ji (aj u9 (aj (ji (aj (aq 4 (pv 4)) (aj (aq 5 (pv 5)) dg)) (j7 (au (au gj)) (by decide))) dg)) (j7 (au (au gj)) (by decide))
                      · refine aj ?_ ?_
                        · exact ji (aj u9 (aj (ji (aj (aq 6 (pv 6)) (aj (aq 4 (pv 4)) dg)) (j7 (au (au gj)) (by decide))) dg)) (j7 (au (au gj)) (by decide))
                        · refine aj ?_ ?_
                          · refine ji ?_ ?_
                            · refine aj ?_ ?_
                              · exact u9
                              · exact aj (ji (aj (aq 4 (pv 4)) (aj (aq 6 (pv 6)) (aj (ji (aj u9 (aj (ji dg (j7 gj (by decide))) dg)) (j7 (au (au gj)) (by decide))) dg))) (j7 (au (au (au gj))) (by decide))) dg
                            · exact j7 (au (au gj)) (by decide)
                          · exact dg
                · exact j7 (au (au (au (au (au gj))))) (by decide)
              · exact aq 3 (pv 3)
              · exact fun _ _=>rfl
theorem Qx (F:Fun K "_law_form" "_law_form" Dz f fd) (hmg:mg "_law_form" = some (.ref f)) (d_law_atom:j8 P w K mg base "_law_atom" 2 Vx (_root_.K.vg)) (d_law_sum:j8 P w K mg base "_law_sum" 1 Xg (_root_.K.uc)):j8 P w K mg base "_law_form" 3 Vx _root_.K.yx :=
  ⟨f,fd,Q8 F d_law_atom d_law_sum,F.binds (ps:=Vx) fun _ _ _ _ _ _ us hl=>bd3 (fun _ _ _=>rfl) us hl,F.kp,hmg⟩
noncomputable abbrev Al:Stmt:=top 34
theorem Ep:m9 ll6 a3j (jd Al):=⟨rfl,rfl,rfl,by decide +kernel,rfl,by decide +kernel,by decide +kernel⟩
theorem Jx (F:Fun K "_law_rows_of" "_law_rows_of" Al f fd) (b_range:mg "range" = none) (b_tuple:mg "tuple" = none):Ad P w K mg base CX0 1 f fd a3j (spF K a3j.length _root_.K.uq):=by
  refine p7 (N:=ll6) F Ep (by decide)  fun cdv A outer s H E B hr=>?_
  have hu:=wj hr
  have hq:=hr.units
  have nd:ll6.Nodup:=Ep.nd
  refine fu ?_ ?_
  · exact Bj 3 (kh nd rfl (Or.inl rfl) (G6 dg (j7 gj (by decide)))) (fun _ _ _ h=>h)
  · refine fu ?_ ?_
    · refine Cw ?_ ?_ ?_ ?_ ?_ ?_
      · exact PassesOwn.never
      · exact rfl
      · exact Cq (by rfl) b_range (je qj cj (je nq (aq 0 (pv 0)) cj))
      · exact vo 4 (jm nd rfl (Or.inl rfl))
      · refine fu ?_ ?_
        · exact ou 5 (kh nd rfl (Or.inl rfl) (je mz (aq 0 (pv 0)) (jy hu (Aa (aj cj (aj cj (aj cj (aj cj dg)))) (j7 (au (au (au (au gj)))) (by decide))) (aq 4 (pv 4)) (fun _ _=>rfl)))) (fun _ _ _ h=>h)
        · refine jc ?_
          · refine yc ?_ ?_ ?_
            · exact PW.pt (Jo (xu (aq 2 (pv 2))) (Ge (uo (zy hq) (je nq (aq 5 (pv 5)) cj) cj (qb _))))
            · refine jc ?_
              · refine vp _ ?_
                · refine yq ?_
                  · refine Ew PySem.F.plainAttrs_list PySem.F.slot_list_append PySem.F.type_list_append v9 ?_ ?_
                    · exact pv 3
                    · refine sy ?_ ?_
                      · refine ji ?_ ?_
                        · exact aj (je nq (je mz (aq 5 (pv 5)) cj) (aq 1 (pv 1))) (aj (je nq (je mz (aq 5 (pv 5)) cj) (aq 1 (pv 1))) (aj (je qj cj (je nq (je mz (aq 5 (pv 5)) cj) cj)) dg))
                        · exact j7 (au (au (au gj))) (by decide)
                      · exact vq
            · refine jc ?_
              · refine vp _ ?_
                · refine yq ?_
                  · refine Ew PySem.F.plainAttrs_list PySem.F.slot_list_append PySem.F.type_list_append v9 ?_ ?_
                    · exact pv 3
                    · exact sy (ji (aj (je nq (je mz (aq 5 (pv 5)) cj) (aq 1 (pv 1))) (aj (je Av (je nq (je mz (aq 5 (pv 5)) cj) cj) cj) dg)) (j7 (au (au gj)) (by decide))) vq
      · exact Ci
    · exact jc (ju (jr (ur xq (by rfl) b_tuple PyProof.Rows.boot_tuple (aj (aq 3 (pv 3)) dg))))
theorem K3 (F:Fun K "_law_rows_of" "_law_rows_of" Al f fd) (hmg:mg "_law_rows_of" = some (.ref f)) (b_range:mg "range" = none) (b_tuple:mg "tuple" = none):j8 P w K mg base "_law_rows_of" 1 a3j _root_.K.uq :=
  ⟨f,fd,Jx F b_range b_tuple,F.binds (ps:=a3j) fun _ _ _ _ _ _ us hl=>bd3 (fun _ _ _=>rfl) us hl,F.kp,hmg⟩
noncomputable abbrev Ax:Stmt:=top 35
theorem Gp:m9 ll2 ll8 (jd Ax):=⟨rfl,rfl,rfl,by decide +kernel,rfl,by decide +kernel,by decide +kernel⟩
theorem Od (F:Fun K "_law_paper" "_law_paper" Ax f fd) {nn:Nat} (d_law_paper:j8 P w K mg base "_law_paper" (1+nn) ll8 (_root_.K.qg nn)) (d_law_rows_of:j8 P w K mg base "_law_rows_of" 1 a3j (_root_.K.uq)) (b_len:mg "len" = none) (b_range:mg "range" = none) (b_tuple:mg "tuple" = none):Ad P w K mg base CX0 (1+nn+1) f fd ll8 (spF K ll8.length (_root_.K.qg (nn+1))):=by
  have d_law_paper:=d_law_paper.mono (show (1+nn)≤(1+nn) by first | decide | omega)
  have d_law_rows_of:=d_law_rows_of.mono (show 1≤(1+nn) by first | decide | omega)
  refine p7 (N:=ll2) F Gp (by decide)  fun cdv A outer s H E B hr=>?_
  have hu:=wj hr
  have hq:=hr.units
  have nd:ll2.Nodup:=Gp.nd
  refine fu ?_ ?_
  · exact ou 5 (kh nd rfl (Or.inl rfl) cj) (fun _ _ _ h=>h)
  · refine fu ?_ ?_
    · exact yc (uo Ox (O4 (by rfl) b_len (aq 0 (pv 0))) cj (qb _))   (jc (Zd 0 5 (Tq (Wx PySem.F.plainAttrs_list PySem.F.slot_list_pop PySem.F.type_list_pop Xn (pv 0)) (jm nd rfl (Or.inl rfl)))))   uz
    · refine fu ?_ ?_
      · exact ou 6 (kh nd rfl (Or.inl rfl) (je nq (aq 5 (pv 5)) cj)) (fun _ _ _ h=>h)
      · refine fu ?_ ?_
        · refine yc ?_ ?_ ?_
          · exact PW.pt (Vr (uo (zy hq) (aq 4 (pv 4)) cj (qb _)) (Vr (uo (zy hq) (O4 (by rfl) b_len (aq 0 (pv 0))) cj (qb _)) (Nj (uo Gy (aq 6 (pv 6)) cj (qb _)))))
          · refine fu ?_ ?_
            · refine yc ?_ ?_ ?_
              · exact uo (zy hq) (je nq (je mz (aq 5 (pv 5)) cj) cj) cj (qb _)
              · exact jc (ju (ji (aj u9 (aj (gn d_law_rows_of hr (by rfl) (aj (je mz (aq 5 (pv 5)) cj) (aj (aq 3 (pv 3)) (aj Bx dg))) (cg (cg (cg eq_nil)))) dg)) (j7 (au (au gj)) (by decide))))
              · exact uz
            · refine jc ?_
              · refine ju ?_
                · refine ji ?_ ?_
                  · refine aj ?_ ?_
                    · exact u9
                    · exact aj (je qj cj (je nq (je mz (aq 5 (pv 5)) cj) cj)) (aj (gn d_law_rows_of hr (by rfl) (aj (je mz (aq 5 (pv 5)) cj) (aj (aq 3 (pv 3)) (aj Bx dg))) (cg (cg (cg eq_nil)))) dg)
                  · exact j7 (au (au (au gj))) (by decide)
          · exact uz
        · refine fu ?_ ?_
          · refine yc ?_ ?_ ?_
            · exact uo Gy (aq 6 (pv 6)) cj (qb _)
            · refine fu ?_ ?_
              · exact ou 7 (kh nd rfl (Or.inl rfl) (jy hu (jy hu (aq 1 (pv 1)) (je nq (je mz (aq 5 (pv 5)) cj) (jr (pq u6 (by rfl) b_len PySem.boot_len (aj (aq 1 (pv 1)) dg)))) (fun _ _=>rfl)) cj (fun _ _=>rfl))) (fun _ _ _ h=>h)
              · refine fu ?_ ?_
                · exact ou 8 (kh nd rfl (Or.inl rfl) (je Av (je qj (jy hu (aq 2 (pv 2)) (aq 7 (pv 7)) (fun _ _=>rfl)) (je nq (je mz (aq 5 (pv 5)) cj) cj)) cj)) (fun _ _ _ h=>h)
                · refine fu ?_ ?_
                  · refine @ou _ _ _ _ (tOf _ _ _) _ ?_ (fun _ _ _ h=>h)
                    · refine kh ?_ ?_ ?_ ?_
                      · exact nd
                      · exact rfl
                      · exact Or.inl rfl
                      · exact gn d_law_paper hr (by rfl) (aj (aq 0 (pv 0)) (aj (aq 1 (pv 1)) (aj (aq 2 (pv 2)) (aj (je qj (aq 3 (pv 3)) cj) (aj (je Av (aq 4 (pv 4)) cj) dg))))) (cg (cg (cg (cg (cg eq_nil)))))
                  · refine jc ?_
                    · refine ju ?_
                      · refine ji ?_ ?_
                        · refine aj ?_ ?_
                          · exact u9
                          · refine aj ?_ ?_
                            · exact aq 7 (pv 7)
                            · refine aj ?_ ?_
                              · exact aq 8 (pv 8)
                              · refine aj ?_ ?_
                                · exact aq 9 (pv 9)
                                · exact aj (gn d_law_paper hr (by rfl) (aj (aq 0 (pv 0)) (aj (aq 1 (pv 1)) (aj (aq 2 (pv 2)) (aj (je qj (aq 3 (pv 3)) cj) (aj (je Av (aq 4 (pv 4)) cj) dg))))) (cg (cg (cg (cg (cg eq_nil)))))) dg
                        · exact j7 (au (au (au (au (au gj))))) (by decide)
            · exact uz
          · refine fu ?_ ?_
            · exact Bj 10 (kh nd rfl (Or.inl rfl) (G6 dg (j7 gj (by decide)))) (fun _ _ _ h=>h)
            · refine fu ?_ ?_
              · refine Cw ?_ ?_ ?_ ?_ ?_ ?_
                · exact PassesOwn.never
                · exact rfl
                · exact Cq (by rfl) b_range (je nq (je mz (aq 5 (pv 5)) cj) cj)
                · exact vo 8 (jm nd rfl (Or.inl rfl))
                · refine jc ?_
                  · refine vp _ ?_
                    · refine yq ?_
                      · refine Ew PySem.F.plainAttrs_list PySem.F.slot_list_append PySem.F.type_list_append v9 ?_ ?_
                        · exact pv 10
                        · exact sy (gn d_law_paper hr (by rfl) (aj (aq 0 (pv 0)) (aj (aq 1 (pv 1)) (aj (aq 2 (pv 2)) (aj (je qj (aq 3 (pv 3)) cj) (aj (je Av (aq 4 (pv 4)) cj) dg))))) (cg (cg (cg (cg (cg eq_nil)))))) vq
                · exact Ci
              · refine jc ?_
                · exact ju (ji (aj u9 (aj (je nq (je mz (aq 5 (pv 5)) cj) cj) (aj (jr (ur xq (by rfl) b_tuple PyProof.Rows.boot_tuple (aj (aq 10 (pv 10)) dg))) dg))) (j7 (au (au (au gj))) (by decide)))
theorem Pb (F:Fun K "_law_paper" "_law_paper" Ax f fd) (hmg:mg "_law_paper" = some (.ref f)) {nn:Nat} (d_law_paper:j8 P w K mg base "_law_paper" (1+nn) ll8 (_root_.K.qg nn)) (d_law_rows_of:j8 P w K mg base "_law_rows_of" 1 a3j (_root_.K.uq)) (b_len:mg "len" = none) (b_range:mg "range" = none) (b_tuple:mg "tuple" = none):j8 P w K mg base "_law_paper" (1+nn+1) ll8 (_root_.K.qg (nn+1)) :=
  ⟨f,fd,Od F d_law_paper d_law_rows_of b_len b_range b_tuple,F.binds (ps:=ll8) fun _ _ _ _ _ _ us hl=>bd5 (fun _ _ _ _ _=>rfl) us hl,F.kp,hmg⟩
theorem Fv {f_law_paper:Addr} {fd_law_paper:FuncData} (F_law_paper:Fun K "_law_paper" "_law_paper" Ax f_law_paper fd_law_paper) (h_law_paper:mg "_law_paper" = some (.ref f_law_paper)) (d_law_rows_of:j8 P w K mg base "_law_rows_of" 1 a3j _root_.K.uq) (b_len:mg "len" = none) (b_range:mg "range" = none) (b_tuple:mg "tuple" = none):∀ nn:Nat,j8 P w K mg base "_law_paper" (1+nn) ll8 (_root_.K.qg nn)
  | 0=>j8.zero F_law_paper h_law_paper (F_law_paper.binds (ps:=ll8) fun _ _ _ _ _ _ us hl=>bd5 (fun _ _ _ _ _=>rfl) us hl)
  | nn+1=>by
    have ih:=Fv F_law_paper h_law_paper d_law_rows_of b_len b_range b_tuple nn
    have d_law_paper:=ih
    exact Pb F_law_paper h_law_paper d_law_paper d_law_rows_of b_len b_range b_tuple
noncomputable abbrev Cr:Stmt:=top 36
theorem Gn:m9 ll1 a71 (jd Cr):=⟨rfl,rfl,rfl,by decide +kernel,rfl,by decide +kernel,by decide +kernel⟩
theorem Nt (F:Fun K "_law_false" "_law_false" Cr f fd) (d_law_at:j8 P w K mg base "_law_at" 1 Vy (_root_.K.wz)) (d_law_sum:j8 P w K mg base "_law_sum" 1 Xg (_root_.K.uc)) (d_let_by:j8 P w K mg base "let_by" 7 a2y (_root_.K.qu)) (b_abs:mg "abs" = none) (b_int:mg "int" = none) (b_len:mg "len" = none) (b_tuple:mg "tuple" = none):Ad P w K mg base CX0 8 f fd a71 (spF K a71.length _root_.K.xg):=by
  have d_law_at:=d_law_at.mono (by decide:1≤7)
  have d_law_sum:=d_law_sum.mono (by decide:1≤7)
  have d_let_by:=d_let_by.mono (by decide:7≤7)
  refine p7 (N:=ll1) F Gn (by decide)  fun cdv A outer s H E B hr=>?_
  have hu:=wj hr
  have hq:=hr.units
  have nd:ll1.Nodup:=Gn.nd
  refine fu ?_ ?_
  · exact ou 4 (Le (N:=a9r) ⟨rfl,rfl,by decide +kernel,by decide +kernel⟩ rfl (yr (aq 0 (pv 0))) (fun C s₀ H₀ ex pn=>pgE fun B=>(Dd (is:=[0,1,2]) (Dl rfl (qe (jm (show a9r.Nodup by decide +kernel) rfl (Or.inl rfl)) (qe (jm (show a9r.Nodup by decide +kernel) rfl (Or.inl rfl)) (qe (jm (show a9r.Nodup by decide +kernel) rfl (Or.inl rfl)) Aw)))))) (fun C s₀ H₀ ex pn=>wg) (fun C s₀ H₀ ex pn=>peE fun B=>(ji (aj (aq 0 (pv 0)) (aj (jy hu (aq 3 (pv 3)) (aq 0 (pv 0)) (fun _ _=>rfl)) (aj (jy hu (aq 3 (pv 3)) (aq 0 (pv 0)) (fun _ _=>rfl)) dg))) (j7 (au (au (au gj))) (by decide)))) (jm nd rfl (Or.inl rfl)) rfl) (fun σ H Q h=>Mu ⟨rfl,fun j k h=>match j,h with | 0,h=>(by cases h; exact ⟨_,rfl,rfl,⟨.inl rfl,.inr (.inl rfl),.inl rfl⟩⟩) | _+1,h=>(by cases h)⟩ yd (Nr h))
  · refine fu ?_ ?_
    · exact ou 5 (kh nd rfl (Or.inl rfl) (gn d_law_sum hr (by rfl) (aj (aq 3 (pv 3)) (aj (aq 0 (pv 0)) dg)) (cg (cg eq_nil)))) (fun _ _ _ h=>h)
    · refine fu ?_ ?_
      · refine @ou _ _ _ _ (tOf _ _ _) _ ?_ (fun _ _ _ h=>h)
        · refine kh ?_ ?_ ?_ ?_
          · exact nd
          · exact rfl
          · exact Or.inl rfl
          · refine ji ?_ ?_
            · refine aj ?_ ?_
              · exact u9
              · refine aj ?_ ?_
                · refine ji ?_ ?_
                  · exact aj (je Av (je qj cj (je nq (je mz (aq 3 (pv 3)) cj) cj)) (gn d_law_at hr (by rfl) (aj (aq 5 (pv 5)) (aj (aq 2 (pv 2)) dg)) (cg (cg eq_nil)))) (aj (aq 5 (pv 5)) dg)
                  · exact j7 (au (au gj)) (by decide)
                · exact dg
            · exact j7 (au (au gj)) (by decide)
      · refine fu ?_ ?_
        · refine @Bj _ _ _ _ (fOf _ _ _) _ ?_ (fun _ _ _ h=>h)
          · refine kh ?_ ?_ ?_ ?_
            · exact nd
            · exact rfl
            · exact Or.inl rfl
            · exact G6 (aj (ji (aj (je yg cj (jr (pq u6 (by rfl) b_len PySem.boot_len (aj (aq 0 (pv 0)) dg)))) (aj cj dg)) (j7 (au (au gj)) (by decide))) dg) (j7 (au gj) (by decide))
        · refine fu ?_ ?_
          · refine Cw ?_ ?_ ?_ ?_ ?_ ?_
            · exact PassesOwn.never
            · exact rfl
            · exact yr (aq 5 (pv 5))
            · exact Dd (is:=[8,9]) (Dl rfl (qe (jm nd rfl (Or.inl rfl)) (qe (jm nd rfl (Or.inl rfl)) Aw)))
            · refine fu ?_ ?_
              · refine @ou _ _ _ _ (tOf _ _ _) _ ?_ (fun _ _ _ h=>h)
                · refine kh ?_ ?_ ?_ ?_
                  · exact nd
                  · exact rfl
                  · exact Or.inl rfl
                  · refine a2p ?_ ?_ ?_
                    · exact hq
                    · refine yp ?_
                      · refine Aq (N:=["_law_row"]) ?_ ?_ ?_ ?_ ?_ ?_ ?_ ?_
                        · exact ⟨rfl,fun j k h=>match j,h with | _+0,h=>(by cases h)⟩
                        · exact ⟨rfl,rfl,by decide +kernel,by decide +kernel⟩
                        · exact rfl
                        · exact yr (aq 0 (pv 0))
                        · exact yd
                        · exact fun C s₀ H₀ ex pn=>pgE fun B=>(vo 0 (jm (show (["_law_row"]:List Str).Nodup by decide +kernel) rfl (Or.inl rfl)))
                        · exact fun C s₀ H₀ ex pn=>wg
                        · exact fun C s₀ H₀ ex pn=>peE fun B=>(jy hu (aq 0 (pv 0)) cj (fun _ _=>rfl))
                    · exact aq 8 (pv 8)
              · refine jc ?_
                · refine vp _ ?_
                  · refine yq ?_
                    · refine Ew PySem.F.plainAttrs_list PySem.F.slot_list_append PySem.F.type_list_append v9 ?_ ?_
                      · exact pv 7
                      · refine sy ?_ ?_
                        · refine ji ?_ ?_
                          · refine aj ?_ ?_
                            · exact je qj (je yg cj (aq 10 (pv 10))) (jr (ur Dc (by rfl) b_int PyProof.Rows.boot_int (aj (Ah Gy (aq 9 (pv 9)) cj (qb _)) dg)))
                            · exact aj (jr (pq Wd (by rfl) b_abs PyProof.Rows.boot_abs (aj (aq 9 (pv 9)) dg))) dg
                          · exact j7 (au (au gj)) (by decide)
                        · exact vq
            · exact yd
          · refine fu ?_ ?_
            · exact ou 11 (kh nd rfl (Or.inl rfl) (ji (aj u9 (aj (jr (ur xq (by rfl) b_tuple PyProof.Rows.boot_tuple (aj (aq 7 (pv 7)) dg))) dg)) (j7 (au (au gj)) (by decide)))) (fun _ _ _ h=>h)
            · refine fu ?_ ?_
              · refine yc ?_ ?_ ?_
                · refine PW.pt ?_
                  · refine Vr ?_ ?_
                    · exact uo Bu (gn d_let_by hr (by rfl) (aj (aq 4 (pv 4)) (aj (je qj (Aa (aj (aq 6 (pv 6)) dg) (j7 (au gj) (by decide))) (aq 1 (pv 1))) (aj (aq 11 (pv 11)) dg))) (cg (cg (cg eq_nil)))) Bx (qb _)
                    · exact Nj (uo Bu (gn d_let_by hr (by rfl) (aj (aq 4 (pv 4)) (aj (aq 1 (pv 1)) (aj (aq 11 (pv 11)) dg))) (cg (cg (cg eq_nil)))) Bx (qb _))
                · exact jc (ju Bx)
                · exact uz
              · refine fu ?_ ?_
                · refine @ou _ _ _ _ (tOf _ _ _) _ ?_ (fun _ _ _ h=>h)
                  · refine kh ?_ ?_ ?_ ?_
                    · exact nd
                    · exact rfl
                    · exact Or.inl rfl
                    · refine ji ?_ ?_
                      · exact aj u9 (aj cj (aj (ji (aj (aq 11 (pv 11)) (aj (ji (aj u9 (aj (ji dg (j7 gj (by decide))) dg)) (j7 (au (au gj)) (by decide))) dg)) (j7 (au (au gj)) (by decide))) dg))
                      · exact j7 (au (au (au gj))) (by decide)
                · refine fu ?_ ?_
                  · refine yc ?_ ?_ ?_
                    · refine uo Bu ?_ ?_ ?_
                      · refine gn d_let_by ?_ ?_ ?_ ?_
                        · exact hr
                        · exact by rfl
                        · refine aj ?_ ?_
                          · exact aq 4 (pv 4)
                          · refine aj ?_ ?_
                            · refine Aa ?_ ?_
                              · refine aj ?_ ?_
                                · refine ji ?_ ?_
                                  · exact aj u9 (aj (ji (aj (aq 6 (pv 6)) (aj (ji (aj u9 (aj (ji dg (j7 gj (by decide))) dg)) (j7 (au (au gj)) (by decide))) dg)) (j7 (au (au gj)) (by decide))) dg)
                                  · exact j7 (au (au gj)) (by decide)
                                · exact dg
                              · exact j7 (au gj) (by decide)
                            · exact aj (aq 12 (pv 12)) dg
                        · exact cg (cg (cg eq_nil))
                      · exact Bx
                      · exact qb _
                    · exact jc (ju Bx)
                    · exact uz
                  · refine fu ?_ ?_
                    · exact ou 10 (kh nd rfl (Or.inl rfl) (je nq (aq 3 (pv 3)) (jr (pq u6 (by rfl) b_len PySem.boot_len (aj (aq 0 (pv 0)) dg))))) (fun _ _ _ h=>h)
                    · refine fu ?_ ?_
                      · exact ou 8 (kh nd rfl (Or.inl rfl) (jy hu (jy hu (aq 0 (pv 0)) (aq 10 (pv 10)) (fun _ _=>rfl)) cj (fun _ _=>rfl))) (fun _ _ _ h=>h)
                      · refine fu ?_ ?_
                        · refine Cw ?_ ?_ ?_ ?_ ?_ ?_
                          · exact PassesOwn.never
                          · exact rfl
                          · refine yr ?_
                            · refine Aa ?_ ?_
                              · exact aj (je Av (jy hu (aq 2 (pv 2)) (aq 8 (pv 8)) (fun _ _=>rfl)) cj) (aj (jy hu (aq 2 (pv 2)) (aq 8 (pv 8)) (fun _ _=>rfl)) (aj (je qj (jy hu (aq 2 (pv 2)) (aq 8 (pv 8)) (fun _ _=>rfl)) cj) dg))
                              · exact j7 (au (au (au gj))) (by decide)
                          · exact vo 13 (jm nd rfl (Or.inl rfl))
                          · refine fu ?_ ?_
                            · refine @ou _ _ _ _ (tOf _ _ _) _ ?_ (fun _ _ _ h=>h)
                              · refine kh ?_ ?_ ?_ ?_
                                · exact nd
                                · exact rfl
                                · exact Or.inl rfl
                                · refine ji ?_ ?_
                                  · refine aj ?_ ?_
                                    · exact u9
                                    · refine aj ?_ ?_
                                      · refine ji ?_ ?_
                                        · refine aj ?_ ?_
                                          · exact ji (aj (je yg cj (aq 10 (pv 10))) (aj cj dg)) (j7 (au (au gj)) (by decide))
                                          · exact aj (ji (aj (je yg cj (jr (pq u6 (by rfl) b_len PySem.boot_len (aj (aq 0 (pv 0)) dg)))) (aj cj dg)) (j7 (au (au gj)) (by decide))) dg
                                        · exact j7 (au (au gj)) (by decide)
                                      · exact dg
                                  · exact j7 (au (au gj)) (by decide)
                            · refine fu ?_ ?_
                              · refine @ou _ _ _ _ (tOf _ _ _) _ ?_ (fun _ _ _ h=>h)
                                · refine kh ?_ ?_ ?_ ?_
                                  · exact nd
                                  · exact rfl
                                  · exact Or.inl rfl
                                  · refine ji ?_ ?_
                                    · refine aj ?_ ?_
                                      · exact u9
                                      · refine aj ?_ ?_
                                        · refine ji ?_ ?_
                                          · refine aj ?_ ?_
                                            · exact ji (aj (je qj (je yg cj (aq 10 (pv 10))) cj) (aj cj dg)) (j7 (au (au gj)) (by decide))
                                            · exact aj (ji (aj (je yg cj (jr (pq u6 (by rfl) b_len PySem.boot_len (aj (aq 0 (pv 0)) dg)))) (aj cj dg)) (j7 (au (au gj)) (by decide))) dg
                                          · exact j7 (au (au gj)) (by decide)
                                        · exact dg
                                    · exact j7 (au (au gj)) (by decide)
                              · refine jc ?_
                                · refine yc ?_ ?_ ?_
                                  · refine uo Bu ?_ ?_ ?_
                                    · refine gn d_let_by ?_ ?_ ?_ ?_
                                      · exact hr
                                      · exact by rfl
                                      · refine aj ?_ ?_
                                        · exact aq 4 (pv 4)
                                        · refine aj ?_ ?_
                                          · exact Aa dg (j7 gj (by decide))
                                          · exact aj (ji (aj u9 (aj (aq 8 (pv 8)) (aj (aq 13 (pv 13)) (aj (aq 14 (pv 14)) (aj (aq 15 (pv 15)) dg))))) (j7 (au (au (au (au (au gj))))) (by decide))) dg
                                      · exact cg (cg (cg eq_nil))
                                    · exact Bx
                                    · exact qb _
                                  · exact jc (ju Bx)
                                  · exact uz
                          · exact yd
                        · exact jc (ju Bx)
theorem O5 (F:Fun K "_law_false" "_law_false" Cr f fd) (hmg:mg "_law_false" = some (.ref f)) (d_law_at:j8 P w K mg base "_law_at" 1 Vy (_root_.K.wz)) (d_law_sum:j8 P w K mg base "_law_sum" 1 Xg (_root_.K.uc)) (d_let_by:j8 P w K mg base "let_by" 7 a2y (_root_.K.qu)) (b_abs:mg "abs" = none) (b_int:mg "int" = none) (b_len:mg "len" = none) (b_tuple:mg "tuple" = none):j8 P w K mg base "_law_false" 8 a71 _root_.K.xg :=
  ⟨f,fd,Nt F d_law_at d_law_sum d_let_by b_abs b_int b_len b_tuple,F.binds (ps:=a71) fun _ _ _ _ _ _ us hl=>bd4 (fun _ _ _ _=>rfl) us hl,F.kp,hmg⟩
noncomputable abbrev Kv:Stmt:=top 37
theorem a3l:m9 ll3 a0a (jd Kv):=⟨rfl,rfl,rfl,by decide +kernel,rfl,by decide +kernel,by decide +kernel⟩
theorem a89 (F:Fun K "law" "law" Kv f fd) (d_law_cell_at:j8 P w K mg base "_law_cell_at" 1 Wm (_root_.K.jf)) (d_law_false:j8 P w K mg base "_law_false" 8 a71 (_root_.K.xg)) (d_law_form:j8 P w K mg base "_law_form" 3 Vx (_root_.K.yx)) (d_law_paper:j8 P w K mg base "_law_paper" 41 ll8 (_root_.K.qg 40)) (d_law_rows:j8 P w K mg base "_law_rows" 2 a0a (_root_.K.Bs)) (d_let_by:j8 P w K mg base "let_by" 7 a2y (_root_.K.qu)) (b_len:mg "len" = none) (b_list:mg "list" = none) (b_range:mg "range" = none) (b_reversed:mg "reversed" = none):Ad P w K mg base CX0 42 f fd a0a (spF K a0a.length _root_.K.Z9):=by
  have d_law_cell_at:=d_law_cell_at.mono (by decide:1≤41)
  have d_law_false:=d_law_false.mono (by decide:8≤41)
  have d_law_form:=d_law_form.mono (by decide:3≤41)
  have d_law_paper:=d_law_paper.mono (by decide:41≤41)
  have d_law_rows:=d_law_rows.mono (by decide:2≤41)
  have d_let_by:=d_let_by.mono (by decide:7≤41)
  refine p7 (N:=ll3) F a3l (by decide)  fun cdv A outer s H E B hr=>?_
  have hu:=wj hr
  have hq:=hr.units
  have nd:ll3.Nodup:=a3l.nd
  refine fu ?_ ?_
  · exact ab9 (Tq (gn d_law_rows hr (by rfl) (aj (aq 0 (pv 0)) dg) (cg eq_nil)) (Dd (is:=[1,2]) (Dl rfl (qe (jm nd rfl (Or.inl rfl)) (qe (jm nd rfl (Or.inl rfl)) Aw)))))
  · refine fu ?_ ?_
    · exact Bj 3 (kh nd rfl (Or.inl rfl) (G6 dg (j7 gj (by decide)))) (fun _ _ _ h=>h)
    · refine fu ?_ ?_
      · refine Cw ?_ ?_ ?_ ?_ ?_ ?_
        · exact PassesOwn.never
        · exact rfl
        · exact Cq (by rfl) b_range (je qj cj (je nq (je mz (gn d_law_cell_at hr (by rfl) (aj (aq 0 (pv 0)) (aj cj dg)) (cg (cg eq_nil))) cj) cj))
        · exact vo 4 (jm nd rfl (Or.inl rfl))
        · refine jc ?_
          · refine vp _ ?_
            · refine yq ?_
              · refine Ew PySem.F.plainAttrs_list PySem.F.slot_list_append PySem.F.type_list_append v9 ?_ ?_
                · exact pv 3
                · refine sy ?_ ?_
                  · exact gn d_law_form hr (by rfl) (aj (gn d_law_cell_at hr (by rfl) (aj (aq 0 (pv 0)) (aj (je qj cj (aq 4 (pv 4))) dg)) (cg (cg eq_nil))) (aj (aq 1 (pv 1)) (aj (aq 2 (pv 2)) dg))) (cg (cg (cg eq_nil)))
                  · exact vq
        · exact Ci
      · refine fu ?_ ?_
        · exact ou 5 (kh nd rfl (Or.inl rfl) (Xc rfl (by rfl) b_list (by rfl) b_reversed (T5 (aq 0 (pv 0)) (Pq cj) (Pq cj)))) (fun _ _ _ h=>h)
        · refine fu ?_ ?_
          · refine Cw ?_ ?_ ?_ ?_ ?_ ?_
            · exact PassesOwn.never
            · exact rfl
            · exact Cq (by rfl) b_range cj
            · exact vo 6 (jm nd rfl (Or.inl rfl))
            · refine fu ?_ ?_
              · refine @ou _ _ _ _ (tOf _ _ _) _ ?_ (fun _ _ _ h=>h)
                · refine kh ?_ ?_ ?_ ?_
                  · exact nd
                  · exact rfl
                  · exact Or.inl rfl
                  · refine gn d_law_paper ?_ ?_ ?_ ?_
                    · exact hr
                    · exact by rfl
                    · exact aj (aq 5 (pv 5)) (aj (aq 1 (pv 1)) (aj (aq 2 (pv 2)) (aj (je qj (je yg cj (jr (pq u6 (by rfl) b_len PySem.boot_len (aj (aq 1 (pv 1)) dg)))) cj) (aj cj dg))))
                    · exact cg (cg (cg (cg (cg eq_nil))))
              · exact jc (yc (uo Bu (gn d_let_by hr (by rfl) (aj (aq 1 (pv 1)) (aj (aq 3 (pv 3)) (aj (aq 7 (pv 7)) dg))) (cg (cg (cg eq_nil)))) Bx (qb _))   (jc (ju Bx))   uz)
            · exact Ci
          · refine fu ?_ ?_
            · refine Cw ?_ ?_ ?_ ?_ ?_ ?_
              · exact PassesOwn.never
              · exact rfl
              · exact Cq (by rfl) b_range cj
              · exact vo 4 (jm nd rfl (Or.inl rfl))
              · refine jc ?_
                · refine yc ?_ ?_ ?_
                  · refine Jb ?_
                    · refine xu ?_
                      · refine gn d_law_false ?_ ?_ ?_ ?_
                        · exact hr
                        · exact by rfl
                        · exact aj (aq 1 (pv 1)) (aj (aq 3 (pv 3)) (aj (aq 2 (pv 2)) (aj (gn d_law_cell_at hr (by rfl) (aj (aq 0 (pv 0)) (aj (je qj cj (aq 4 (pv 4))) dg)) (cg (cg eq_nil))) dg)))
                        · exact cg (cg (cg (cg eq_nil)))
                  · exact jc (ju Bx)
                  · exact uz
              · exact Ci
            · exact jc (ju Bx)
end
end D
end
noncomputable section
set_option linter.all false
set_option maxRecDepth 100000
set_option autoImplicit false
namespace C
open PySem
theorem Oq {α:Type} {h f:α→T} {g:G} {c:M Bool} {e:M T} {nv:Nat} {cap:List Slot} {sto:List SO} (hcap:cap.map m8=cap) :
    ∀ (l:List α) (acc:List T) (pre:List Slot),pre.length=nv→acc.length+l.length≤lim →
      (∀ a∈l,∀ pre:List Slot,pre.length=nv→∃ pre',pre'.length=nv∧g (h a) ⟨pre++cap,sto⟩=some ⟨pre'++cap,sto⟩∧c ⟨pre'++cap,sto⟩=some (true,⟨pre'++cap,sto⟩)∧e ⟨pre'++cap,sto⟩=some (f a,⟨pre'++cap,sto⟩)) →
      ∃ s',Ei g c e (l.map h) ⟨pre++cap,sto⟩ acc=some (acc++l.map f,s')∧s'.sto=sto
  | [],acc,pre,hp,hl,H=>⟨⟨pre++cap,sto⟩,by simp [Ei],rfl⟩
  | a::l,acc,pre,hp,hl,H=>by
    obtain ⟨pre',p1,p2,p3,p4⟩:=H a List.mem_cons_self pre hp
    have hlen:acc.length<lim:=by simp at hl ⊢; (clear p4 p3 p2 p1 H hp hcap; omega)
    obtain ⟨s',q1,q2⟩:=Oq hcap l (acc++[f a]) (pre'.map m8) (by simpa using p1) (by simp at hl ⊢; (clear hlen p4 p3 p2 p1 H hp hcap; omega)) fun b hb=>H b (List.mem_cons_of_mem _ hb)
    refine ⟨s',?_,q2⟩
    rw [List.map_cons,Ei,p2]
    dsimp only
    rw [p3]
    dsimp only
    rw [p4]
    dsimp only
    rw [if_pos hlen,ug]
    dsimp only
    rw [List.map_append,hcap,q1]
    simp
theorem Bv {α:Type} (h f:α→T) (l:List α) {g:G} {c:M Bool} {e:M T} {nv:Nat} {ci:List Nat} {it:M (List T)} {s s1:Sta} (env:List Slot) (cap:List Slot) (hit:it s=some (l.map h,s1)) (henv:bf ci s1.env=env) (hci:ci.map (fun i=>(env[i]?).getD none)=cap) (hcap:cap.map m8=cap) (hl:l.length≤lim)
    (H:∀ a∈l,∀ pre:List Slot,pre.length=nv→∃ pre',pre'.length=nv∧g (h a) ⟨pre++cap,s1.sto⟩=some ⟨pre'++cap,s1.sto⟩∧c ⟨pre'++cap,s1.sto⟩=some (true,⟨pre'++cap,s1.sto⟩)∧e ⟨pre'++cap,s1.sto⟩=some (f a,⟨pre'++cap,s1.sto⟩)) :
    qp nv ci g it c e s=some (.lst (l.map f),⟨env,s1.sto⟩):=by
  obtain ⟨s',q1,q2⟩:=Oq hcap l [] (List.replicate nv none) (by simp) (by simpa using hl) H
  unfold qp
  rw [hit]
  dsimp only
  rw [henv,hci,q1]
  dsimp only
  rw [q2]; rfl
noncomputable def okS (x:Str):Prop:=PyData.canLay0 (.str x)=true
theorem Gh {x:Str} (h:okS x):dat (.str x)=some (.str x):=by
  unfold okS at h
  simp [dat,h]
noncomputable def Pl (n:Nat) (t:T):Prop:=∃ d,dat t=some d∧d.depth≤n
theorem a9e (n:Nat) (i:Int):Pl n (.int i):=⟨.int i,by simp [dat],by simp [PyData.depth]⟩
theorem a93 (n:Nat) {x:Str} (h:okS x):Pl n (.str x):=⟨.str x,Gh h,by simp [PyData.depth]⟩
theorem pls {n:Nat}:∀ ts:List T,(∀ t∈ts,Pl n t)→∃ ds,Gb ts=some ds∧PyData.depthAll ds≤n
  | [],_=>⟨[],by simp [Gb],by simp [PyData.depthAll]⟩
  | t::r,h=>by
    obtain ⟨d,d1,d2⟩:=h t List.mem_cons_self
    obtain ⟨ds,e1,e2⟩:=pls r fun x hx=>h x (List.mem_cons_of_mem _ hx)
    exact ⟨d::ds,by simp [Gb,d1,e1],by simp only [PyData.depthAll]; (clear e1 d1 h; omega)⟩
theorem a3e {n:Nat} {ts:List T} (h:∀ t∈ts,Pl n t):Pl (n+1) (.tup ts):=by
  obtain ⟨ds,e1,e2⟩:=pls ts h
  exact ⟨.tuple ds,by simp [dat,e1],by simp only [PyData.depth]; (clear e1 h; omega)⟩
end C
namespace C
open PySem
theorem Yt {g:G} {b:S} (P:List T→Sta→Prop) (H:∀ t r s,P (t::r) s→∃ s1 s2,g t s=some s1∧b s1=some (.next,s2)∧P r s2):∀ (ts:List T) (s:Sta),P ts s→∃ s',forL g b ts s=some (.next,s')∧P [] s'
  | [],s,h=>⟨s,by simp [forL],h⟩
  | t::r,s,h=>by
    obtain ⟨s1,s2,h1,h2,h3⟩:=H t r s h
    obtain ⟨s',e,p⟩:=Yt P H r s2 h3
    refine ⟨s',?_,p⟩
    rw [forL]; dsimp only; rw [h1]; dsimp only; rw [h2]; dsimp only; exact e
theorem Rg {g:G} {b:S} {ts:List T} {s:Sta} {r:Option (Flow × Sta)} (hF:forL g b ts s=r) (P:List T→Sta→Prop) (hP:P ts s) (H:∀ t r s,P (t::r) s→∃ s1 s2,g t s=some s1∧b s1=some (.next,s2)∧P r s2):∃ s',r=some (.next,s')∧P [] s':=by
  obtain ⟨s',e,p⟩:=Yt P H ts s hP
  exact ⟨s',hF.symm.trans e,p⟩
end C
namespace C
open PySem
theorem w6 {α:Type} {g:G} {c:M Bool} {e:M T} {nv:Nat} {ci:List Nat} {it:M (List T)} {s:Sta} {r:Option (T × Sta)} (hF:qp nv ci g it c e s=r) (h f:α→T) (l:List α) (s1:Sta) (env cap:List Slot) (hit:it s=some (l.map h,s1)) (henv:bf ci s1.env=env) (hci:ci.map (fun i=>(env[i]?).getD none)=cap) (hcap:cap.map m8=cap) (hl:l.length≤lim)
    (H:∀ a∈l,∀ pre:List Slot,pre.length=nv→∃ pre',pre'.length=nv∧g (h a) ⟨pre++cap,s1.sto⟩=some ⟨pre'++cap,s1.sto⟩∧c ⟨pre'++cap,s1.sto⟩=some (true,⟨pre'++cap,s1.sto⟩)∧e ⟨pre'++cap,s1.sto⟩=some (f a,⟨pre'++cap,s1.sto⟩)) :
    r=some (.lst (l.map f),⟨env,s1.sto⟩):=hF.symm.trans (Bv h f l env cap hit henv hci hcap hl H)
theorem Dj {α:Type} (h:α→T) (l:List α) {i:Int} (h0:0≤i) (h1:i<l.length):∃ a∈l,gq (.lst (l.map h)) (.int i)=some (h a):=by
  have hi:i.toNat<l.length:=by omega
  refine ⟨l[i.toNat],List.getElem_mem hi,?_⟩
  simp [gq,ixI,h0,h1,List.getElem?_eq_getElem hi]
theorem Cm {α:Type} (h:α→T) (l:List α) {k:Nat} (hk:k<l.length):gq (.lst (l.map h)) (.int (k:Int))=some (h l[k]):=by
  have h1:(k:Int)<(l.length:Int):=by omega
  simp [gq,ixI,h1,List.getElem?_eq_getElem hk]
end C
end
noncomputable section
set_option linter.all false
set_option maxRecDepth 100000
set_option autoImplicit false
namespace C
open PySem
theorem Nh {α σ:Type} {g:G} {b:S} (h:α→T) (R:σ→Sta) (step:σ→α→σ) (P:List α→σ→Prop)
    (H:∀ a r x,P (a::r) x→(∃ s1,g (h a) (R x)=some s1∧b s1=some (.next,R (step x a)))∧P r (step x a)) :
    ∀ (l:List α) (x:σ),P l x→forL g b (l.map h) (R x)=some (.next,R (l.foldl step x))∧P [] (l.foldl step x)
  | [],x,p=>⟨by simp [forL],p⟩
  | a::l,x,p=>by
    obtain ⟨⟨s1,h1,h2⟩,h3⟩:=H a l x p
    obtain ⟨e,q⟩:=Nh h R step P H l (step x a) h3
    refine ⟨?_,q⟩
    rw [List.map_cons,forL]; dsimp only; rw [h1]; dsimp only; rw [h2]; dsimp only; exact e
theorem a2d {α σ:Type} {g:G} {b:S} {ts:List T} {s:Sta} {r:Option (Flow × Sta)} (hF:forL g b ts s=r) (h:α→T) (l:List α) (R:σ→Sta) (x0:σ) (step:σ→α→σ) (P:List α→σ→Prop) (ht:ts=l.map h) (hs:s=R x0) (hP:P l x0)
    (H:∀ a r x,P (a::r) x→(∃ s1,g (h a) (R x)=some s1∧b s1=some (.next,R (step x a)))∧P r (step x a)) :
    r=some (.next,R (l.foldl step x0))∧P [] (l.foldl step x0):=by
  subst ht hs
  obtain ⟨e,p⟩:=Nh h R step P H l x0 hP
  exact ⟨hF.symm.trans e,p⟩
theorem Cz {α:Type} {h f:α→T} {q:α→Bool} {g:G} {c:M Bool} {e:M T} {nv:Nat} {cap:List Slot} {sto:List SO} (hcap:cap.map m8=cap) :
    ∀ (l:List α) (acc:List T) (pre:List Slot),pre.length=nv→acc.length+l.length≤lim →
      (∀ a∈l,∀ pre:List Slot,pre.length=nv→∃ pre',pre'.length=nv∧g (h a) ⟨pre++cap,sto⟩=some ⟨pre'++cap,sto⟩∧c ⟨pre'++cap,sto⟩=some (q a,⟨pre'++cap,sto⟩)∧(q a=true→e ⟨pre'++cap,sto⟩=some (f a,⟨pre'++cap,sto⟩))) →
      ∃ s',Ei g c e (l.map h) ⟨pre++cap,sto⟩ acc=some (acc++(l.filter q).map f,s')∧s'.sto=sto
  | [],acc,pre,hp,hl,H=>⟨⟨pre++cap,sto⟩,by simp [Ei],rfl⟩
  | a::l,acc,pre,hp,hl,H=>by
    obtain ⟨pre',p1,p2,p3,p4⟩:=H a List.mem_cons_self pre hp
    have hlen:acc.length<lim:=by simp at hl ⊢; (clear p4 p3 p2 p1 H hp hcap; omega)
    rw [List.map_cons,Ei,p2]
    dsimp only
    rw [p3]
    cases hq:q a with
    | true =>
      obtain ⟨s',q1,q2⟩:=Cz hcap l (acc++[f a]) (pre'.map m8) (by simpa using p1) (by simp at hl ⊢; (clear hq hlen p4 p3 p2 p1 H hp hcap; omega)) fun b hb=>H b (List.mem_cons_of_mem _ hb)
      refine ⟨s',?_,q2⟩
      dsimp only
      rw [p4 hq]
      dsimp only
      rw [if_pos hlen,ug]
      dsimp only
      rw [List.map_append,hcap,q1]
      simp [hq]
    | false =>
      obtain ⟨s',q1,q2⟩:=Cz hcap l acc (pre'.map m8) (by simpa using p1) (by simp at hl ⊢; (clear hq hlen p4 p3 p2 p1 H hp hcap; omega)) fun b hb=>H b (List.mem_cons_of_mem _ hb)
      refine ⟨s',?_,q2⟩
      dsimp only
      rw [ug]
      dsimp only
      rw [List.map_append,hcap,q1]
      simp [hq]
theorem Ng {α:Type} {g:G} {c:M Bool} {e:M T} {nv:Nat} {ci:List Nat} {it:M (List T)} {s:Sta} {r:Option (T × Sta)} (hF:qp nv ci g it c e s=r) (h f:α→T) (q:α→Bool) (l:List α) (s1:Sta) (env cap:List Slot) (hit:it s=some (l.map h,s1)) (henv:bf ci s1.env=env) (hci:ci.map (fun i=>(env[i]?).getD none)=cap) (hcap:cap.map m8=cap) (hl:l.length≤lim)
    (H:∀ a∈l,∀ pre:List Slot,pre.length=nv→∃ pre',pre'.length=nv∧g (h a) ⟨pre++cap,s1.sto⟩=some ⟨pre'++cap,s1.sto⟩∧c ⟨pre'++cap,s1.sto⟩=some (q a,⟨pre'++cap,s1.sto⟩)∧(q a=true→e ⟨pre'++cap,s1.sto⟩=some (f a,⟨pre'++cap,s1.sto⟩))) :
    r=some (.lst ((l.filter q).map f),⟨env,s1.sto⟩):=by
  obtain ⟨s',q1,q2⟩:=Cz hcap l [] (List.replicate nv none) (by simp) (by simpa using hl) H
  rw [← hF]
  unfold qp
  rw [hit]
  dsimp only
  rw [henv,hci,q1]
  dsimp only
  rw [q2]; rfl
theorem qw {a b:Int}:eqO (.int a) (.int b)=some (.bl (a==b)):=rfl
theorem Ay {a b:Int}:neO (.int a) (.int b)=some (.bl (!(a==b))):=by simp [neO,eqT,eqD,dat,PyData.depth,PyData.eqv]
theorem Za {a b:Str} (ha:okS a) (hb:okS b):eqD (.str a) (.str b)=some (a==b):=by
  simp [eqD,Gh ha,Gh hb,PyData.depth,PyData.eqv]
theorem Bm {a b:Str} (ha:okS a) (hb:okS b):eqO (.str a) (.str b)=some (.bl (a==b)):=by
  simp [eqO,eqT,eqD,Gh ha,Gh hb,PyData.depth,PyData.eqv]
theorem Xz {xs:List T} {k:Nat} {t:T} (h:xs[k]? = some t):gq (.lst xs) (.int (k:Int))=some t:=by
  have hk:k<xs.length:=(List.getElem?_eq_some_iff.mp h).1
  have h1:(k:Int)<(xs.length:Int):=by omega
  simp [gq,ixI,h1,h]
theorem Rn {xs:List T} {k:Nat} {t:T} (h:xs[k]? = some t):gq (.tup xs) (.int (k:Int))=some t:=by
  have hk:k<xs.length:=(List.getElem?_eq_some_iff.mp h).1
  have h1:(k:Int)<(xs.length:Int):=by omega
  simp [gq,ixI,h1,h]
theorem rm {a:T} {r:List T}:gq (.tup (a::r)) (.int 0)=some a:=Rn (k:=0) rfl
theorem qy {a b:T} {r:List T}:gq (.tup (a::b::r)) (.int 1)=some b:=Rn (k:=1) rfl
theorem G9 {a b c:T} {r:List T}:gq (.tup (a::b::c::r)) (.int 2)=some c:=Rn (k:=2) rfl
theorem Vf {i j:Nat} {x y:T} {s:Sta}:jz [i,j] (.tup [x,y]) s=some (bh j y false (bh i x false s)):=by simp [jz]
theorem kj {a b:S} {s s':Sta} (h:a s=some (.next,s')):j9 a b s=b s':=by unfold j9; rw [h]
theorem Bw {n:Nat} {c:M Bool} {b:S} {s s1 s2:Sta} (hc:c s=some (true,s1)) (hb:b s1=some (.next,s2)):wk (n+1) c b s=wk n c b s2:=by
  rw [wk]; dsimp only; rw [hc]; dsimp only; rw [hb]
theorem Kh {n:Nat} {c:M Bool} {b:S} {s s1:Sta} (hc:c s=some (false,s1)):wk (n+1) c b s=some (.next,s1):=by
  rw [wk]; dsimp only; rw [hc]
theorem J5 {n:Nat} {c:M Bool} {b:S} {s s1 s2:Sta} {v:T} (hc:c s=some (true,s1)) (hb:b s1=some (.ret v,s2)):wk (n+1) c b s=some (.ret v,s2):=by
  rw [wk]; dsimp only; rw [hc]; dsimp only; rw [hb]
end C
end
noncomputable section
set_option linter.all false
set_option autoImplicit false
namespace K
open C PySem
noncomputable section
variable {a b:M T} {l r:M (List T)} {s s1 s2:Sta} {t u v:T} {ts:List T} {i:Nat} {F:Fn} {z:List SO} {x y:S}
theorem zo {f:T→T→Option T} (h1:a s=some (t,s1)) (h2:b s1=some (u,s2)) (h3:f t u=some v):mOp f a b s=some (v,s2):=by
  unfold mOp; rw [h1]; dsimp only; rw [h2]; dsimp only; rw [h3]
theorem zm {f:List T→Option T} (h:l s=some (ts,s1)) (h2:f ts=some u):iu f l s=some (u,s1):=by
  unfold iu; rw [h]; dsimp only; rw [h2]
theorem zc (h:a s=some (t,s1)) (h2:l s1=some (ts,s2)):ak a l s=some (t::ts,s2):=by
  unfold ak; rw [h]; dsimp only; rw [h2]
theorem zf (h:l s=some (ts,s1)) (h2:F ts s1.sto=some (t,z)):dw F l s=some (t,⟨s1.env,z⟩):=by
  unfold dw; rw [h]; dsimp only; rw [h2]
theorem zs (h:a s=some (t,s1)):jg i a s=some (.next,bh i t false s1):=by unfold jg; rw [h]
theorem zn (h:a s=some (t,s1)):sNew i a s=some (.next,bh i t true s1):=by unfold sNew; rw [h]
theorem zr (h:a s=some (t,s1)):jh a s=some (.ret t,s1):=by unfold jh; rw [h]
theorem zq {q:Option (C.Flow × Sta)} (h:x s=some (.next,s1)) (h2:y s1=q):j9 x y s=q:=by unfold j9; rw [h]; exact h2
theorem zt {k:Bool} (h:a s=some (.bl k,s1)):dj a s=some (k,s1):=by unfold dj; rw [h]
theorem zk {c:M Bool} (h:c s=some (true,s1)) {q:Option (C.Flow × Sta)} (h2:x s1=q):sIf c x y s=q:=by unfold sIf; rw [h]; exact h2
theorem ze {c:M Bool} (h:c s=some (false,s1)) {q:Option (C.Flow × Sta)} (h2:y s1=q):sIf c x y s=q:=by unfold sIf; rw [h]; exact h2
theorem ys {s':Sta} (h:a s=some (t,s1)) (e:bh i t false s1=s'):jg i a s=some (.next,s'):=by unfold jg; rw [h,← e]
theorem yn {s':Sta} (h:a s=some (t,s1)) (e:bh i t true s1=s'):sNew i a s=some (.next,s'):=by unfold sNew; rw [h,← e]
theorem md {i j:Int} (h:0<j):jj (.int i) (.int j)=some (.int (i%j)):=if_pos h
theorem a2l {α:Type} {f:α→T} {l:List α}:jx [.lst (l.map f)]=some (.int l.length):=by show some (T.int ((l.map f).length:Int))=_; rw [List.length_map]
theorem ad {p q:Str} (h:p.length+q.length<lim):jk (.str p) (.str q)=some (.str (p++q)):=if_pos h
theorem zun {f:T→Option T} (h:a s=some (t,s1)) (h2:f t=some u):mUn f a s=some (u,s1):=by unfold mUn; rw [h]; dsimp only; rw [h2]
theorem zis {α:Type} {f:α→T} {k:List α} (h:a s=some (.lst (k.map f),s1)) (hl:k.length<lim):jo a s=some (k.map f,s1):=by
  unfold jo; rw [h]; dsimp only; rw [List.length_map,if_pos hl]
theorem zqr (h:x s=some (.ret t,s1)):j9 x y s=some (.ret t,s1):=by unfold j9; rw [h]
theorem acy {c:M Bool} {k:Bool} (h:c s=some (k,s1)):m7 c s=some (!k,s1):=by unfold m7; rw [h]
theorem ac3 {c d:M Bool} (h:c s=some (true,s1)):mOr c d s=some (true,s1):=by unfold mOr; rw [h]
theorem a73 {c d:M Bool} {q:Option (Bool × Sta)} (h:c s=some (false,s1)) (h2:d s1=q):mOr c d s=q:=by unfold mOr; rw [h]; exact h2
theorem zgo {g:G} (h:a s=some (t,s1)) (h2:g t s1=some s2):sGo g a s=some (.next,s2):=by unfold sGo; rw [h]; dsimp only; rw [h2]
theorem za {s':Sta} {xs:List T} (h:a s=some (t,s1)) (hx:s1.env[i]? = some (some (.lst xs,true))) (hl:xs.length<lim) (hs:j4 i s=true) (e:bh i (.lst (xs++[t])) true s1=s'):c7 i a s=some (.next,s'):=by
  unfold c7; rw [if_pos hs,h]; dsimp only; rw [hx]; dsimp only; rw [if_pos hl,e]
theorem zw {s':Sta} {kv:List (C.Key × T)} {q:C.Key} (h:b s=some (t,s1)) (hd:N8 i s1=true) (h2:a s1=some (u,s2)) (hx:s2.env[i]? = some (some (.dic kv,true))) (hq:keyOf u=some q) (hl:kv.length<lim) (e:bh i (.dic (a3f q t kv)) true s2=s'):Bo i a b s=some (.next,s'):=by
  unfold Bo; rw [h]; dsimp only; rw [if_pos hd,h2]; dsimp only; rw [hx,hq]; dsimp only; rw [if_pos hl,e]
theorem a9q {p q:Int} (h:p<q):ltT (.int p) (.int q)=some (.bl true):=by show some (T.bl (decide (p<q)))=_; rw [decide_eq_true h]
theorem a9n {p q:Int} (h:¬ p<q):ltT (.int p) (.int q)=some (.bl false):=by show some (T.bl (decide (p<q)))=_; rw [decide_eq_false h]
theorem ad2 {c d:M Bool} {j k:Bool} (h1:c s=some (j,s)) (h2:d s=some (k,s)):jw c d s=some (j&&k,s):=by
  unfold jw; rw [h1]
  cases j
  · rfl
  · exact h2
theorem eq_i {p q:Int} {k:Bool} (h:(p==q)=k):eqO (.int p) (.int q)=some (.bl k):=by rw [qw,h]
theorem mu {p q:Int} (h:Af p=true):Ej (.int p) (.int q)=some (.int (p * q)):=if_pos (by rw [h]; rfl)
theorem zf0 (h:l s=some (ts,s1)) (h2:F ts s1.sto=some (t,s1.sto)):dw F l s=some (t,s1):=by
  unfold dw; rw [h]; dsimp only; rw [h2]
theorem zex {s':Sta} {xs zs:List T} (h:a s=some (t,s1)) (hq:iy t=some zs) (hx:s1.env[i]? = some (some (.lst xs,true))) (hl:xs.length+zs.length<lim) (hs:j4 i s=true) (e:bh i (.lst (xs++zs)) true s1=s'):cu i a s=some (.next,s'):=by
  unfold cu; rw [if_pos hs,h]; dsimp only; rw [hq,hx]; dsimp only; rw [if_pos hl,e]
theorem Io {g:G} {q:S} {w:List T} (h:g t s=some s1) (hb:q s1=some (.next,s2)):forL g q (t::w) s=forL g q w s2:=by
  rw [forL]; dsimp only; rw [h]; dsimp only; rw [hb]
theorem a1z {g:G} {q:S} {m:M (List T)} {r0:Option (C.Flow × Sta)} (h:m s=some (ts,s1)) (h2:forL g q ts s1=r0):lu g m q s=r0:=by
  unfold lu; rw [h]; exact h2
theorem zrun {n:Nat} {A:List T} {z0:List SO} (h:x ⟨A.map (fun t=>some (t,false))++List.replicate (n - A.length) none,z0⟩=some (.ret t,s1)) (h2:s1.sto=z):gk n x A z0=some (t,z):=by
  unfold gk; rw [h]; dsimp only; rw [h2]
end
end K
end
noncomputable section
set_option linter.all false
set_option autoImplicit false
namespace K
open C PySem
end K
namespace K
open C PySem
theorem abp {α:Type} {a:M T} {s s1:Sta} {f:α→T} {k:List α} (h:a s=some (.tup (k.map f),s1)) (hl:k.length<lim):jo a s=some (k.map f,s1):=by
  unfold jo; rw [h]; dsimp only; rw [List.length_map,if_pos hl]
theorem acv {α:Type} {f:α→Int} {l:List α}:aa3 [.lst (l.map fun a=>T.int (f a))]=some (.int (l.map f).sum):=by
  have q:∀ l:List α,Vj (l.map fun a=>T.int (f a))=some (l.map f):=fun l=>by
    induction l with
    | nil=>rfl
    | cons a l ih=>rw [List.map_cons,Vj,ih]; rfl
  show (Vj _).map _=_
  rw [q]; rfl
end K
namespace K
open C PySem
theorem zrg {a:M T} {s s1:Sta} {m:Nat} (h:a s=some (.int (m:Int),s1)) (hl:m<lim):dz a s=some ((List.range m).map (fun (k:Nat)=>T.int (k:Int)),s1):=by
  unfold dz; rw [h]; dsimp only; unfold rangeT; simp [hl]
end K
end
noncomputable section
set_option linter.all false
set_option maxRecDepth 100000
set_option autoImplicit false
namespace K
open C PySem
noncomputable abbrev Pr:=Str × Int
noncomputable def pT (p:Pr):T:=.tup [.str p.1,.int p.2]
noncomputable abbrev Sm:=Int × List Pr
noncomputable def smT (s:Sm):T:=.tup [.int s.1,.tup (s.2.map pT)]
noncomputable def dd (d:List Pr):List (C.Key × T):=d.map fun p=>(.inr p.1,.int p.2)
noncomputable def gt:List Pr→Str→Int
  | [],_=>0
  | (k,v)::r,b=>if k=b then v else gt r b
noncomputable def ks (d:List Pr):List Str:=d.map (·.1)
noncomputable def pt (d:List Pr) (b:Str) (v:Int):List Pr:=if b∈ks d then d.map fun p=>if p.1=b then (p.1,v) else p else d++[(b,v)]
theorem Wh (b:Str):∀ d:List Pr,(Uw (.inr b) (dd d)).getD (.int 0)=.int (gt d b)
  | []=>rfl
  | (k,v)::r=>by
    have ih:=Wh b r
    unfold dd at ih ⊢
    simp only [List.map_cons,Uw,gt]
    by_cases h:k=b
    · simp [h]
    · rw [if_neg (by simpa using h),if_neg h,ih]
theorem Ea {b:Str}:∀ {d:List Pr},b∈ks d→Uw (.inr b) (dd d)=some (.int (gt d b))
  | [],h=>by simp [ks] at h
  | (k,v)::r,h=>by
    unfold dd
    simp only [List.map_cons,Uw,gt]
    by_cases e:k=b
    · simp [e]
    · rw [if_neg (by simpa using e),if_neg e]
      simp only [ks,List.map_cons,List.mem_cons] at h
      rcases h with h | h
      · exact absurd h.symm e
      · exact Ea (d:=r) h
theorem Pk {b:Str}:∀ {d:List Pr},b∉ks d→gt d b=0
  | [],_=>rfl
  | (k,v)::r,h=>by
    simp only [ks,List.map_cons,List.mem_cons,not_or] at h
    rw [gt,if_neg (fun e=>h.1 e.symm)]
    exact Pk (d:=r) h.2
theorem a6e (b:Str) (v:Int) (d:List Pr):a3f (.inr b) (.int v) (dd d)=dd (pt d b v):=by
  have any:((dd d).any fun p=>decide (p.1=Sum.inr b))=decide (b∈ks d):=by
    rw [Bool.eq_iff_iff]
    simp only [List.any_eq_true,decide_eq_true_eq,dd,ks,List.mem_map]
    constructor
    · rintro ⟨x,⟨p,hp,rfl⟩,h⟩
      simp only [Sum.inr.injEq] at h
      exact ⟨p,hp,h⟩
    · rintro ⟨p,hp,h⟩
      exact ⟨_,⟨p,hp,rfl⟩,by simp [h]⟩
  unfold a3f pt
  rw [any]
  by_cases h:b∈ks d
  · rw [if_pos (by simpa using h),if_pos h] -- here
    unfold dd
    rw [List.map_map,List.map_map] -- here
    apply List.map_congr_left
    intro p _
    simp only [Function.comp,Sum.inr.injEq]
    split <;> rfl
  · rw [if_neg (by simpa using h),if_neg h] -- here
    unfold dd
    rw [List.map_append]; rfl
theorem a7x (d:List Pr) (b:Str) (v:Int):ks (pt d b v)=if b∈ks d then ks d else ks d++[b]:=by
  unfold pt
  split
  · unfold ks
    rw [List.map_map]
    apply List.map_congr_left
    intro p _
    simp only [Function.comp]
    split <;> rfl
  · unfold ks; rw [List.map_append]; rfl
theorem Mj {b k:Str} {v:Int} {r:List Pr}:b∈ks ((k,v)::r)↔b=k∨b∈ks r:=by simp [ks]
theorem Ub {b:Str} {e:List Pr}:∀ {d:List Pr},gt (d++e) b=if b∈ks d then gt d b else gt e b
  | []=>by simp [ks]
  | (k,v)::r=>by
    simp only [List.cons_append,gt]
    by_cases h:k=b
    · rw [if_pos h,if_pos h,if_pos (Mj.mpr (.inl h.symm))]
    · rw [if_neg h,if_neg h,Ub (d:=r)]
      have hiff:(b∈ks ((k,v)::r))↔b∈ks r:=Mj.trans ⟨fun z=>z.resolve_left fun z=>h z.symm,.inr⟩
      by_cases hr:b∈ks r
      · rw [if_pos hr,if_pos (hiff.mpr hr)]
      · rw [if_neg hr,if_neg (fun z=>hr (hiff.mp z))]
theorem a3m {b c:Str} {v:Int}:∀ {d:List Pr},gt (d.map fun p=>if p.1=b then (p.1,v) else p) c=if c=b∧c∈ks d then v else gt d c
  | []=>by simp [ks,gt]
  | (k,w)::r=>by
    have ih:=a3m (b:=b) (c:=c) (v:=v) (d:=r)
    rw [List.map_cons]
    by_cases h:k=b
    · rw [if_pos h]
      simp only [gt]
      by_cases hc:k=c
      · rw [if_pos hc,if_pos ⟨by rw [← hc,h],Mj.mpr (.inl hc.symm)⟩]
      · rw [if_neg hc,if_neg hc,ih]
        have hb:¬ c=b:=fun z=>hc (by rw [h,z])
        rw [if_neg (fun z=>hb z.1),if_neg (fun z=>hb z.1)]
    · rw [if_neg h]
      simp only [gt]
      by_cases hc:k=c
      · rw [if_pos hc,if_pos hc]
        have hb:¬ c=b:=fun z=>h (by rw [hc,z])
        rw [if_neg (fun z=>hb z.1)]
      · rw [if_neg hc,if_neg hc,ih]
        have hiff:(c∈ks ((k,w)::r))↔c∈ks r:=Mj.trans ⟨fun z=>z.resolve_left fun z=>hc z.symm,.inr⟩
        by_cases hr:c=b∧c∈ks r
        · rw [if_pos hr,if_pos ⟨hr.1,hiff.mpr hr.2⟩]
        · rw [if_neg hr,if_neg (fun z=>hr ⟨z.1,hiff.mp z.2⟩)]
theorem aan {d:List Pr} {b c:Str} {v:Int}:gt (pt d b v) c=if c=b then v else gt d c:=by
  unfold pt
  split
  · rename_i h
    rw [a3m]
    by_cases e:c=b
    · rw [if_pos ⟨e,by rw [e]; exact h⟩,if_pos e]
    · rw [if_neg (fun z=>e z.1),if_neg e]
  · rename_i h
    rw [Ub]
    by_cases e:c=b
    · subst e
      rw [if_neg h,if_pos rfl]; simp [gt]
    · rw [if_neg e]
      split
      · rfl
      · rename_i h2
        have:¬ b=c:=fun z=>e z.symm
        rw [Pk h2]
        simp [gt,this]
noncomputable def tot:List Pr→Str→Int
  | [],_=>0
  | (k,v)::r,b=>(if k=b then v else 0)+tot r b
noncomputable def Zh (l:List Pr) (d:List Pr):List Pr:=l.foldl (fun d p=>pt d p.1 (gt d p.1+p.2)) d
theorem Zo (b:Str):∀ (l d:List Pr),gt (Zh l d) b=gt d b+tot l b
  | [],d=>by simp [Zh,tot]
  | (k,v)::r,d=>by
    have ih:=Zo b r (pt d k (gt d k+v))
    unfold Zh at ih ⊢
    rw [List.foldl_cons,ih,aan,tot]
    by_cases h:b=k
    · subst h; simp; omega
    · have h2:¬ k=b:=fun z=>h z.symm
      rw [if_neg h,if_neg h2]; omega
theorem Z8:∀ (l d:List Pr),(ks d).Nodup→(ks (Zh l d)).Nodup∧(∀ b,b∈ks (Zh l d)↔b∈ks d∨b∈ks l)
  | [],d,h=>⟨h,fun b=>by simp [Zh,ks]⟩
  | (k,v)::r,d,h=>by
    have h1:(ks (pt d k (gt d k+v))).Nodup:=by
      rw [a7x]
      split
      · exact h
      · rename_i hn
        rw [List.nodup_append]
        exact ⟨h,by simp,fun a ha b hb=>by simp at hb; subst hb; exact fun z=>hn (by rw [← z]; exact ha)⟩
    obtain ⟨a1,a2⟩:=Z8 r (pt d k (gt d k+v)) h1
    unfold Zh at a1 a2 ⊢
    rw [List.foldl_cons]
    refine ⟨a1,fun b=>?_⟩
    rw [a2 b,a7x,Mj]
    by_cases hk:k∈ks d
    · rw [if_pos hk]
      constructor
      · rintro (z | z)
        · exact .inl z
        · exact .inr (.inr z)
      · rintro (z | z | z)
        · exact .inl z
        · subst z; exact .inl hk
        · exact .inr z
    · rw [if_neg hk]
      constructor
      · rintro (z | z)
        · rcases List.mem_append.mp z with z | z
          · exact .inl z
          · simp at z; exact .inr (.inl z)
        · exact .inr (.inr z)
      · rintro (z | z | z)
        · exact .inl (List.mem_append_left _ z)
        · subst z; exact .inl (List.mem_append_right _ (by simp))
        · exact .inr z
structure Uni (U:List Str):Prop where
  len:U.length≤8
  ok:∀ x∈U,okS x
  ins:∀ x∈U,∀ P:Str→Bool,P x=false→W3 x (U.filter P)=U.filter fun b=>P b||b==x
noncomputable def canon (U:List Str) (f:Str→Int):List Pr:=(U.filter fun b=>f b != 0).map fun b=>(b,f b)
theorem Nq {U:List Str} (u:Uni U):∀ (l:List Str) (P:Str→Bool),l.Nodup→(∀ b∈l,b∈U∧P b=false)→l.foldl (fun acc x=>W3 x acc) (U.filter P)=U.filter fun b=>P b||l.contains b
  | [],P,_,_=>by simp
  | x::l,P,hn,h=>by
    obtain ⟨h1,h2⟩:=List.nodup_cons.mp hn
    rw [List.foldl_cons,u.ins x (h x List.mem_cons_self).1 P (h x List.mem_cons_self).2,Nq u l _ h2 fun b hb=>⟨(h b (List.mem_cons_of_mem _ hb)).1,by
      rw [(h b (List.mem_cons_of_mem _ hb)).2,Bool.false_or]
      exact beq_eq_false_iff_ne.mpr fun z=>h1 (by rw [← z]; exact hb)⟩]
    congr 1
    funext b
    rw [List.contains_cons,Bool.or_assoc]
theorem Jk {U l:List Str} (u:Uni U) (hn:l.Nodup) (h:∀ b∈l,b∈U):Cd l=U.filter fun b=>l.contains b:=by
  have:=Nq u l (fun _=>false) hn fun b hb=>⟨h b hb,rfl⟩
  unfold Cd
  rw [show U.filter (fun _=>false)=[] by simp] at this
  rw [this]
  apply List.filter_congr
  intro b _
  simp
theorem Qd {U:List Str} {d:List Pr} (u:Uni U) (hn:(ks d).Nodup) (h:∀ b∈ks d,b∈U):((Cd (ks d)).filter fun b=>gt d b != 0)=U.filter fun b=>gt d b != 0:=by
  rw [Jk u hn h,List.filter_filter]
  apply List.filter_congr
  intro b hb
  by_cases e:b∈ks d
  · simp [e]
  · simp [Pk e]
theorem Tn {U:List Str} {d:List Pr} (u:Uni U) (hn:(ks d).Nodup) (h:∀ b∈ks d,b∈U):d.length≤U.length:=by
  have h1:=List.Nodup.length_le_of_subset hn h
  simpa [ks] using h1
end K
end
noncomputable section
set_option linter.all false
set_option maxRecDepth 100000
set_option autoImplicit false
namespace K
open C PySem
noncomputable def U4:List Str:=["@p","x","y","z1"]
theorem ac2:Uni U4 where
  len:=by decide
  ok:=by unfold okS; decide +kernel
  ins:=by
    intro x hx P hP
    simp only [U4,List.mem_cons,List.not_mem_nil,or_false] at hx
    unfold U4
    rcases hx with rfl | rfl | rfl | rfl
    · cases h1:P "x" <;> cases h2:P "y" <;> cases h3:P "z1" <;> simp only [List.filter_cons,List.filter_nil,hP,h1,h2,h3] <;> decide +kernel
    · cases h1:P "@p" <;> cases h2:P "y" <;> cases h3:P "z1" <;> simp only [List.filter_cons,List.filter_nil,hP,h1,h2,h3] <;> decide +kernel
    · cases h1:P "@p" <;> cases h2:P "x" <;> cases h3:P "z1" <;> simp only [List.filter_cons,List.filter_nil,hP,h1,h2,h3] <;> decide +kernel
    · cases h1:P "@p" <;> cases h2:P "x" <;> cases h3:P "y" <;> simp only [List.filter_cons,List.filter_nil,hP,h1,h2,h3] <;> decide +kernel
noncomputable section
variable {U:List Str} {sto:List SO}
theorem keys_str:∀ d:List Pr,Jg ((dd d).map fun p=>Vn p.1)=some (ks d)
  | []=>rfl
  | (k,v)::r=>by
    have ih:=keys_str r
    show (Jg ((dd r).map fun p=>Vn p.1)).map (k :: ·)=_
    rw [ih]; rfl
theorem Xh {d:List Pr} (h:d.length<64):Lp [.dic (dd d)]=some (.lst ((Cd (ks d)).map T.str)):=by
  have h2:(dd d).length<64:=by simpa [dd] using h
  simp only [Lp,if_pos h2,keys_str,Option.map_some]
noncomputable def prs (l:List Pr) (s:T):Prop:=s=.lst (l.map pT)∨s=.tup (l.map pT)
theorem a5j {l:List Pr} {s:T} (h:prs l s) (hl:l.length<1000000) {m:M T} {st st':Sta} (e:m st=some (s,st')):jo m st=some (l.map pT,st'):=by
  have h1:l.length<lim:=hl
  rcases h with rfl | rfl <;> simp [jo,e,h1]
theorem a3t {b:Str} {v:Int} {d:List Pr}:a3f (.inr b) (.int v) (dd d)=dd (pt d b v):=a6e b v d
theorem a5c {v:Int}:neO (.int v) (.int 0)=some (.bl (v != 0)):=by
  rw [Ay]; rfl
theorem Yv {n:Int} {l:List Pr} {s:T} (u:Uni U) (hs:prs l s) (hl:l.length<1000) (hU:∀ b∈ks l,b∈U):zx [.int n,s] sto=some (smT (n,canon U (tot l)),sto):=by
  have e1:bw 1 ⟨[some (.int n,false),some (s,false),some (.dic (dd []),true),none,none,none],sto⟩=some (s,⟨[some (.int n,false),some (s,false),some (.dic (dd []),true),none,none,none],sto⟩):=rfl
  have is:=a5j hs (by omega) e1
  obtain ⟨hn,hk⟩:=Z8 l [] (by simp [ks])
  have hkU:∀ b∈ks (Zh l []),b∈U:=fun b hb=>by
    rcases (hk b).mp hb with z | z
    · simp [ks] at z
    · exact hU b z
  have hlen:=Tn u hn hkU
  have ul:=u.len
  unfold zx gk
  rw [show ([T.int n,s].map (fun t=>some (t,false))++List.replicate (6 - [T.int n,s].length) none:List Slot)=[some (.int n,false),some (s,false),none,none,none,none] from rfl]
  rw [kj (s':=⟨[some (.int n,false),some (s,false),some (.dic (dd []),true),none,none,none],sto⟩) rfl]
  have loop:(lu (jz [3,4]) (jo (bw 1)) (Bo 2 (bw 3) (mOp jk (Gd 2 (bw 3) (ao (.int 0))) (bw 4)))) ⟨[some (.int n,false),some (s,false),some (.dic (dd []),true),none,none,none],sto⟩
      = some (.next,⟨[some (.int n,false),some (s,false),some (.dic (dd (Zh l [])),true),(l.foldl (fun (x:List Pr × Slot × Slot) p=>(pt x.1 p.1 (gt x.1 p.1+p.2),some (.str p.1,false),some (.int p.2,false))) ([],none,none)).2.1,(l.foldl (fun (x:List Pr × Slot × Slot) p=>(pt x.1 p.1 (gt x.1 p.1+p.2),some (.str p.1,false),some (.int p.2,false))) ([],none,none)).2.2,none],sto⟩):=by
    unfold lu
    rw [is]
    dsimp only
    generalize hF:forL _ _ _ _=r
    obtain ⟨rfl,_⟩:=a2d hF pT l (fun (x:List Pr × Slot × Slot)=>(⟨[some (.int n,false),some (s,false),some (.dic (dd x.1),true),x.2.1,x.2.2,none],sto⟩:Sta)) ([],none,none)
      (fun x p=>(pt x.1 p.1 (gt x.1 p.1+p.2),some (.str p.1,false),some (.int p.2,false))) (fun r x=>x.1.length+r.length≤l.length) rfl rfl (by simp) (by
        rintro p r x h1
        simp only [List.length_cons] at h1
        have hlt:(dd x.1).length<lim:=by simp only [dd,List.length_map]; show _<1000000; omega
        refine ⟨⟨_,by unfold pT; exact Vf,?_⟩,?_⟩
        · simp [gk,j9,sIf,jg,sNew,jh,jt,sNx,dh,sGo,bx,lu,c7,cu,j4,dj,m7,jw,mOr,iw,mIf,mOp,mUn,bw,iu,ak,fj,ao,j6,dw,bh,hName,jz,dz,jo,ltT,leT,jx,jk,lq,jj,gb,mj,ni,iy,gw,bf,m8,Bo,Gd,N8,keyOf,Wh,hlt,a3t]
        · have:(pt x.1 p.1 (gt x.1 p.1+p.2)).length≤x.1.length+1:=by
            unfold pt
            split
            · rw [List.length_map]; omega
            · rw [List.length_append,List.length_singleton]; exact Nat.le_refl _
          dsimp only
          omega)
    have fst:∀ (l:List Pr) (x:List Pr × Slot × Slot),(l.foldl (fun (x:List Pr × Slot × Slot) p=>(pt x.1 p.1 (gt x.1 p.1+p.2),some (T.str p.1,false),some (T.int p.2,false))) x).1=Zh l x.1:=fun l=>by
      induction l with
      | nil=>intro x; rfl
      | cons p l ih=>intro x; rw [List.foldl_cons,ih]; rfl
    rw [fst]
  rw [kj loop]
  generalize (l.foldl (fun (x:List Pr × Slot × Slot) p=>(pt x.1 p.1 (gt x.1 p.1+p.2),some (T.str p.1,false),some (T.int p.2,false))) ([],none,none)).2.1=o3
  generalize (l.foldl (fun (x:List Pr × Slot × Slot) p=>(pt x.1 p.1 (gt x.1 p.1+p.2),some (T.str p.1,false),some (T.int p.2,false))) ([],none,none)).2.2=o4
  generalize hd:Zh l []=d at *
  have hso:=Xh (d:=d) (by omega)
  have il:(Cd (ks d)).length<lim:=by
    rw [Jk u hn hkU]
    exact Nat.lt_of_le_of_lt (List.length_filter_le _ _) (by show _<1000000; omega)
  simp [gk,j9,sIf,jg,sNew,jh,jt,sNx,dh,sGo,bx,lu,c7,cu,j4,dj,m7,jw,mOr,iw,mIf,mOp,mUn,bw,iu,ak,fj,ao,j6,dw,bh,hName,jz,dz,jo,ltT,leT,jx,jk,lq,jj,gb,mj,ni,iy,gw,bf,m8]
  generalize hF:qp 1 _ _ _ _ _ _=r
  have e:=Ng hF T.str (fun b=>pT (b,gt d b)) (fun b=>gt d b != 0) (Cd (ks d)) ⟨[some (.int n,false),some (s,false),some (.dic (dd d),false),o3,o4,none],sto⟩ [some (.int n,false),some (s,false),some (.dic (dd d),false),o3,o4,none] [some (.dic (dd d),false)] (by first | exact rfl | simp [gk,j9,sIf,jg,sNew,jh,jt,sNx,dh,sGo,bx,lu,c7,cu,j4,dj,m7,jw,mOr,iw,mIf,mOp,mUn,bw,iu,ak,fj,ao,j6,dw,bh,hName,jz,dz,jo,ltT,leT,jx,jk,lq,jj,gb,mj,ni,iy,gw,bf,m8,hso,il]) rfl rfl rfl (Nat.le_of_lt il) (fun b hb pre hp=>by
    have hb2:b∈ks d:=by
      rw [Jk u hn hkU] at hb
      have:=(List.mem_filter.mp hb).2
      simpa using this
    have hg:=Ea hb2
    match pre,hp with
    | [p0],_=>exact ⟨[some (.str b,false)],rfl,by first | exact rfl | simp [gk,j9,sIf,jg,sNew,jh,jt,sNx,dh,sGo,bx,lu,c7,cu,j4,dj,m7,jw,mOr,iw,mIf,mOp,mUn,bw,iu,ak,fj,ao,j6,dw,bh,hName,jz,dz,jo,ltT,leT,jx,jk,lq,jj,gb,mj,ni,iy,gw,bf,m8],by first | exact rfl | simp [gk,j9,sIf,jg,sNew,jh,jt,sNx,dh,sGo,bx,lu,c7,cu,j4,dj,m7,jw,mOr,iw,mIf,mOp,mUn,bw,iu,ak,fj,ao,j6,dw,bh,hName,jz,dz,jo,ltT,leT,jx,jk,lq,jj,gb,mj,ni,iy,gw,bf,m8,gq,keyOf,hg,a5c],fun _=>by first | exact rfl | simp [gk,j9,sIf,jg,sNew,jh,jt,sNx,dh,sGo,bx,lu,c7,cu,j4,dj,m7,jw,mOr,iw,mIf,mOp,mUn,bw,iu,ak,fj,ao,j6,dw,bh,hName,jz,dz,jo,ltT,leT,jx,jk,lq,jj,gb,mj,ni,iy,gw,bf,m8,gq,keyOf,hg,pT]⟩)
  subst e
  rw [Qd u hn hkU]
  have hg:∀ b,gt d b=tot l b:=fun b=>by rw [← hd,Zo]; simp [gt]
  simp [gk,j9,sIf,jg,sNew,jh,jt,sNx,dh,sGo,bx,lu,c7,cu,j4,dj,m7,jw,mOr,iw,mIf,mOp,mUn,bw,iu,ak,fj,ao,j6,dw,bh,hName,jz,dz,jo,ltT,leT,jx,jk,lq,jj,gb,mj,ni,iy,gw,bf,m8,Ag,smT,canon]
  simp only [hg]
  rfl
end
end K
end
noncomputable section
set_option linter.all false
set_option maxRecDepth 100000
set_option autoImplicit false
namespace K
open C PySem
noncomputable section
variable {U:List Str} {sto:List SO}
structure Vs (U:List Str) (s:Sm):Prop where
  nd:(ks s.2).Nodup
  sub:∀ b∈ks s.2,b∈U
theorem Tg {f:Str→Int}:ks (canon U f)=U.filter fun b=>f b != 0:=by
  unfold ks canon
  rw [List.map_map]
  exact List.map_id' _
theorem M5 {f:Str→Int} {n:Int} (hU:U.Nodup):Vs U (n,canon U f):=⟨by
  show (ks (canon U f)).Nodup
  rw [Tg]; exact hU.filter _,fun b hb=>by
  have hb:b∈ks (canon U f):=hb
  rw [Tg] at hb; exact (List.mem_filter.mp hb).1⟩
theorem O9 {b:Str}:∀ {l:List Pr},(ks l).Nodup→tot l b=gt l b
  | [],_=>rfl
  | (k,v)::r,h=>by
    obtain ⟨h1,h2⟩:=List.nodup_cons.mp (show (k::ks r).Nodup from h)
    rw [tot,gt,O9 h2]
    by_cases e:k=b
    · subst e; rw [if_pos rfl,if_pos rfl,Pk h1]; omega
    · rw [if_neg e,if_neg e]; omega
theorem Ku {s:Sm} (u:Uni U) (h:Vs U s):s.2.length≤8:=Nat.le_trans (Tn u h.nd h.sub) u.len
end
end K
end
noncomputable section
set_option linter.all false
set_option maxRecDepth 100000
set_option autoImplicit false
namespace K
open C PySem
inductive Fm where
  | atom (k:Str) (r:List T) | all (l:List Fm) | any (ms:List T)
mutual
noncomputable def fmT:Fm→T
  | .atom k r=>.tup (.str k::r)
  | .all l=>.tup [.str "and",.tup (a75 l)]
  | .any ms=>.tup [.str "or",.tup ms]
noncomputable def a75:List Fm→List T
  | []=>[]
  | f::l=>fmT f::a75 l
end
mutual
noncomputable def fsz:Fm→Nat
  | .atom _ _=>1
  | .all l=>1+Gw l
  | .any _=>1
noncomputable def Gw:List Fm→Nat
  | []=>0
  | f::l=>fsz f+Gw l
end
mutual
noncomputable def flA:Fm→List T
  | .atom k r=>[.tup (.str k::r)]
  | .all l=>Gz l
  | .any _=>[]
noncomputable def Gz:List Fm→List T
  | []=>[]
  | f::l=>flA f++Gz l
end
mutual
noncomputable def flO:Fm→List T
  | .atom _ _=>[]
  | .all l=>Ba l
  | .any ms=>[.tup ms]
noncomputable def Ba:List Fm→List T
  | []=>[]
  | f::l=>flO f++Ba l
end
noncomputable def okA (k:Str):Prop:=okS k∧(k==("and" : Str))=false∧(k==("or" : Str))=false
mutual
noncomputable def okF:Fm→Prop
  | .atom k _=>okA k
  | .all l=>Ss l
  | .any _=>True
noncomputable def Ss:List Fm→Prop
  | []=>True
  | f::l=>okF f∧Ss l
end
theorem U6:∀ l:List Fm,a75 l=l.map fmT
  | []=>rfl
  | f::l=>by rw [a75,U6 l]; rfl
theorem Hr:∀ l r:List Fm,Gw (l++r)=Gw l+Gw r
  | [],r=>by simp [Gw]
  | f::l,r=>by rw [List.cons_append,Gw,Gw,Hr l r]; omega
theorem U8:∀ l r:List Fm,Gz (l++r)=Gz l++Gz r
  | [],r=>by simp [Gz]
  | f::l,r=>by rw [List.cons_append,Gz,Gz,U8 l r,List.append_assoc]
theorem Tt:∀ l r:List Fm,Ba (l++r)=Ba l++Ba r
  | [],r=>by simp [Ba]
  | f::l,r=>by rw [List.cons_append,Ba,Ba,Tt l r,List.append_assoc]
theorem Ua:∀ l r:List Fm,Ss l→Ss r→Ss (l++r)
  | [],r,_,h=>h
  | f::l,r,h1,h2=>by rw [List.cons_append,Ss]; exact ⟨h1.1,Ua l r h1.2 h2⟩
theorem Q7:∀ l:List Fm,l.length≤Gw l
  | []=>by simp [Gw]
  | f::l=>by
    have:=Q7 l
    have:1≤fsz f:=by cases f <;> simp [fsz] <;> omega
    rw [Gw,List.length_cons]; omega
theorem a09 {f:Fm} {r:List Fm}:((f::r).reverse.map fmT)[((f::r).reverse.map fmT).length - 1]? = some (fmT f):=by
  rw [List.reverse_cons,List.map_append,List.length_append]
  simp
theorem a2k {f:Fm} {r:List Fm}:((f::r).reverse.map fmT).dropLast=r.reverse.map fmT:=by
  rw [List.reverse_cons,List.map_append]
  simp
theorem Sg:okS "and" := by unfold okS; decide +kernel
theorem Zj:okS "or" := by unfold okS; decide +kernel
theorem a81:(("or" : Str)==("and" : Str))=false:=by decide +kernel
noncomputable section
variable {sto:List SO} {L F:T}
noncomputable abbrev a7k:M Bool:=dj (mOp gtT (yh 4) (ao (.int 0)))
noncomputable abbrev ab2:S:=(j9 (Xp 4 5)
  (sIf (dj (mOp eqO (mOp gq (bw 5) (ao (.int 0))) (ao (.str "and"))))
  (cu 4 (mUn a2i (mOp gq (bw 5) (ao (.int 1)))))
  (sIf (dj (mOp eqO (mOp gq (bw 5) (ao (.int 0))) (ao (.str "or"))))
  (c7 3 (mOp gq (bw 5) (ao (.int 1))))
  (c7 2 (bw 5)))))
theorem Fl:∀ (n:Nat) (l:List Fm) (A O:List T) (o5:Slot),Gw l<n→Ss l→A.length+Gw l<900000→O.length+Gw l<900000→∃ o5',wk n a7k ab2 ⟨[some (L,false),some (F,false),some (.lst A,true),some (.lst O,true),some (.lst (l.reverse.map fmT),true),o5],sto⟩=some (.next,⟨[some (L,false),some (F,false),some (.lst (A++Gz l),true),some (.lst (O++Ba l),true),some (.lst [],true),o5'],sto⟩)
  | 0,l,A,O,o5,h,_,_,_=>by omega
  | n+1,[],A,O,o5,h,ok,h1,h2=>⟨o5,by
    rw [wk]
    simp [gk,j9,sIf,jg,sNew,jh,jt,sNx,dh,sGo,bx,lu,c7,cu,j4,dj,m7,jw,mOr,iw,mIf,mOp,mUn,bw,iu,ak,fj,ao,j6,dw,bh,hName,jz,dz,jo,ltT,leT,jx,jk,lq,jj,gb,mj,ni,iy,gw,bf,m8,yh,gtT,Gz,Ba]⟩
  | n+1,f::r,A,O,o5,h,ok,h1,h2=>by
    have f1:1≤fsz f:=by cases f <;> simp [fsz] <;> omega
    rw [Gw] at h h1 h2
    have c1:a7k ⟨[some (L,false),some (F,false),some (.lst A,true),some (.lst O,true),some (.lst ((f::r).reverse.map fmT),true),o5],sto⟩=some (true,⟨[some (L,false),some (F,false),some (.lst A,true),some (.lst O,true),some (.lst ((f::r).reverse.map fmT),true),o5],sto⟩):=by
      simp [gk,j9,sIf,jg,sNew,jh,jt,sNx,dh,sGo,bx,lu,c7,cu,j4,dj,m7,jw,mOr,iw,mIf,mOp,mUn,bw,iu,ak,fj,ao,j6,dw,bh,hName,jz,dz,jo,ltT,leT,jx,jk,lq,jj,gb,mj,ni,iy,gw,bf,m8,yh,gtT]
    have pop:Xp 4 5 ⟨[some (L,false),some (F,false),some (.lst A,true),some (.lst O,true),some (.lst ((f::r).reverse.map fmT),true),o5],sto⟩=some (.next,⟨[some (L,false),some (F,false),some (.lst A,true),some (.lst O,true),some (.lst (r.reverse.map fmT),true),some (fmT f,false)],sto⟩):=by
      unfold Xp
      dsimp only [List.getElem?_cons_succ,List.getElem?_cons_zero]
      rw [a09]
      dsimp only
      rw [a2k]; rfl
    have la:A.length<lim:=by show _<1000000; omega
    have lo:O.length<lim:=by show _<1000000; omega
    have hr:=Q7 r
    cases f with
    | atom k xs =>
      obtain ⟨a1,a2,a3⟩:=ok.1
      obtain ⟨o5',ih⟩:=Fl n r (A++[.tup (.str k::xs)]) O (some (.tup (.str k::xs),false)) (by omega) ok.2 (by rw [List.length_append,List.length_singleton]; omega) (by omega)
      refine ⟨o5',?_⟩
      have e1:=Bm a1 Sg
      have e2:=Bm a1 Zj
      rw [a2] at e1
      rw [a3] at e2
      have body:(sIf (dj (mOp eqO (mOp gq (bw 5) (ao (.int 0))) (ao (.str "and")))) (cu 4 (mUn a2i (mOp gq (bw 5) (ao (.int 1))))) (sIf (dj (mOp eqO (mOp gq (bw 5) (ao (.int 0))) (ao (.str "or")))) (c7 3 (mOp gq (bw 5) (ao (.int 1)))) (c7 2 (bw 5)))) ⟨[some (L,false),some (F,false),some (.lst A,true),some (.lst O,true),some (.lst (r.reverse.map fmT),true),some (fmT (.atom k xs),false)],sto⟩=some (.next,⟨[some (L,false),some (F,false),some (.lst (A++[.tup (.str k::xs)]),true),some (.lst O,true),some (.lst (r.reverse.map fmT),true),some (.tup (.str k::xs),false)],sto⟩):=by
        simp [gk,j9,sIf,jg,sNew,jh,jt,sNx,dh,sGo,bx,lu,c7,cu,j4,dj,m7,jw,mOr,iw,mIf,mOp,mUn,bw,iu,ak,fj,ao,j6,dw,bh,hName,jz,dz,jo,ltT,leT,jx,jk,lq,jj,gb,mj,ni,iy,gw,bf,m8,fmT,rm,e1,e2,la]
      rw [Bw c1 ((kj pop).trans body),ih,Gz,Ba,flA,flO]
      simp
    | any ms =>
      obtain ⟨o5',ih⟩:=Fl n r A (O++[.tup ms]) (some (.tup [.str "or",.tup ms],false)) (by omega) ok.2 (by omega) (by rw [List.length_append,List.length_singleton]; omega)
      refine ⟨o5',?_⟩
      have e1:=Bm Zj Sg
      have e2:=Bm Zj Zj
      rw [a81] at e1
      rw [beq_self_eq_true] at e2
      have body:(sIf (dj (mOp eqO (mOp gq (bw 5) (ao (.int 0))) (ao (.str "and")))) (cu 4 (mUn a2i (mOp gq (bw 5) (ao (.int 1))))) (sIf (dj (mOp eqO (mOp gq (bw 5) (ao (.int 0))) (ao (.str "or")))) (c7 3 (mOp gq (bw 5) (ao (.int 1)))) (c7 2 (bw 5)))) ⟨[some (L,false),some (F,false),some (.lst A,true),some (.lst O,true),some (.lst (r.reverse.map fmT),true),some (fmT (.any ms),false)],sto⟩=some (.next,⟨[some (L,false),some (F,false),some (.lst A,true),some (.lst (O++[.tup ms]),true),some (.lst (r.reverse.map fmT),true),some (.tup [.str "or",.tup ms],false)],sto⟩):=by
        simp [gk,j9,sIf,jg,sNew,jh,jt,sNx,dh,sGo,bx,lu,c7,cu,j4,dj,m7,jw,mOr,iw,mIf,mOp,mUn,bw,iu,ak,fj,ao,j6,dw,bh,hName,jz,dz,jo,ltT,leT,jx,jk,lq,jj,gb,mj,ni,iy,gw,bf,m8,fmT,rm,qy,e1,e2,lo]
      rw [Bw c1 ((kj pop).trans body),ih,Gz,Ba,flA,flO]
      simp
    | all ms =>
      rw [fsz] at h h1 h2
      have hm:=Q7 ms
      obtain ⟨o5',ih⟩:=Fl n (ms++r) A O (some (.tup [.str "and",.tup (ms.map fmT)],false)) (by rw [Hr]; omega) (Ua ms r ok.1 ok.2) (by rw [Hr]; omega) (by rw [Hr]; omega)
      refine ⟨o5',?_⟩
      have e1:=Bm Sg Sg
      rw [beq_self_eq_true] at e1
      have lw:r.length+ms.length<lim:=by show _<1000000; omega
      have body:(sIf (dj (mOp eqO (mOp gq (bw 5) (ao (.int 0))) (ao (.str "and")))) (cu 4 (mUn a2i (mOp gq (bw 5) (ao (.int 1))))) (sIf (dj (mOp eqO (mOp gq (bw 5) (ao (.int 0))) (ao (.str "or")))) (c7 3 (mOp gq (bw 5) (ao (.int 1)))) (c7 2 (bw 5)))) ⟨[some (L,false),some (F,false),some (.lst A,true),some (.lst O,true),some (.lst (r.reverse.map fmT),true),some (fmT (.all ms),false)],sto⟩=some (.next,⟨[some (L,false),some (F,false),some (.lst A,true),some (.lst O,true),some (.lst ((ms++r).reverse.map fmT),true),some (.tup [.str "and",.tup (ms.map fmT)],false)],sto⟩):=by
        simp [gk,j9,sIf,jg,sNew,jh,jt,sNx,dh,sGo,bx,lu,c7,cu,j4,dj,m7,jw,mOr,iw,mIf,mOp,mUn,bw,iu,ak,fj,ao,j6,dw,bh,hName,jz,dz,jo,ltT,leT,jx,jk,lq,jj,gb,mj,ni,iy,gw,bf,m8,fmT,U6,rm,qy,e1,a2i,lw]
      rw [Bw c1 ((kj pop).trans body),ih,U8,Tt,Gz,Ba,flA,flO]
theorem J8 {A O:List T} {l:List Fm} (hs:Gw l<1000) (ok:Ss l) (ha:A.length<800000) (ho:O.length<800000) :
    uh [.tup [.lst A,.lst O],.lst (l.map fmT)] sto=some (.tup [.lst (A++Gz l),.lst (O++Ba l)],sto):=by
  obtain ⟨o5',e⟩:=Fl (sto:=sto) (L:=.tup [.lst A,.lst O]) (F:=.lst (l.map fmT)) 1000 l A O none hs ok (by omega) (by omega)
  unfold uh gk
  rw [show ([T.tup [.lst A,.lst O],T.lst (l.map fmT)].map (fun t=>some (t,false))++List.replicate (6 - [T.tup [.lst A,.lst O],T.lst (l.map fmT)].length) none:List Slot)=[some (.tup [.lst A,.lst O],false),some (.lst (l.map fmT),false),none,none,none,none] from rfl]
  rw [kj (s':=⟨[some (.tup [.lst A,.lst O],false),some (.lst (l.map fmT),false),some (.lst A,true),none,none,none],sto⟩) (by first | exact rfl | simp [gk,j9,sIf,jg,sNew,jh,jt,sNx,dh,sGo,bx,lu,c7,cu,j4,dj,m7,jw,mOr,iw,mIf,mOp,mUn,bw,iu,ak,fj,ao,j6,dw,bh,hName,jz,dz,jo,ltT,leT,jx,jk,lq,jj,gb,mj,ni,iy,gw,bf,m8,rm,Ed])]
  rw [kj (s':=⟨[some (.tup [.lst A,.lst O],false),some (.lst (l.map fmT),false),some (.lst A,true),some (.lst O,true),none,none],sto⟩) (by first | exact rfl | simp [gk,j9,sIf,jg,sNew,jh,jt,sNx,dh,sGo,bx,lu,c7,cu,j4,dj,m7,jw,mOr,iw,mIf,mOp,mUn,bw,iu,ak,fj,ao,j6,dw,bh,hName,jz,dz,jo,ltT,leT,jx,jk,lq,jj,gb,mj,ni,iy,gw,bf,m8,qy,Ed])]
  rw [kj (s':=⟨[some (.tup [.lst A,.lst O],false),some (.lst (l.map fmT),false),some (.lst A,true),some (.lst O,true),some (.lst (l.reverse.map fmT),true),none],sto⟩) (by first | exact rfl | simp [gk,j9,sIf,jg,sNew,jh,jt,sNx,dh,sGo,bx,lu,c7,cu,j4,dj,m7,jw,mOr,iw,mIf,mOp,mUn,bw,iu,ak,fj,ao,j6,dw,bh,hName,jz,dz,jo,ltT,leT,jx,jk,lq,jj,gb,mj,ni,iy,gw,bf,m8,Ed,a9l])]
  rw [kj e]
  simp [gk,j9,sIf,jg,sNew,jh,jt,sNx,dh,sGo,bx,lu,c7,cu,j4,dj,m7,jw,mOr,iw,mIf,mOp,mUn,bw,iu,ak,fj,ao,j6,dw,bh,hName,jz,dz,jo,ltT,leT,jx,jk,lq,jj,gb,mj,ni,iy,gw,bf,m8]
end
end K
end
noncomputable section
set_option linter.all false
set_option maxRecDepth 100000
set_option autoImplicit false
namespace K
open C PySem
inductive Cl where
  | i (n:Int) | b (k:Bool)
noncomputable def clT:Cl→T
  | .i n=>.int n
  | .b k=>.bl k
noncomputable def isI:Cl→Bool
  | .i _=>true
  | .b _=>false
noncomputable def vI:Cl→Int
  | .i n=>n
  | .b _=>0
noncomputable abbrev Rw:=List Cl
noncomputable def rwT (r:Rw):T:=.tup (r.map clT)
noncomputable def pr (r:Rw):List Int:=if r.all isI then r.map vI else []
noncomputable def ilT (l:List Int):T:=.tup (l.map .int)
structure At where
  k:Str
  s:Sm
  more:List T
noncomputable def atT (a:At):T:=.tup (.str a.k::smT a.s::a.more)
noncomputable def fac (a:At):Int:=match a.more with
  | [.int f]=>f
  | _=>0
noncomputable def Tp (U:List Str) (a:At):Prop:=okS a.k∧Vs U a.s∧((a.k==("rest" : Str))=true→∃ f,a.more=[.int f])
noncomputable def cN (gs:List (Sm × Int)):Int:=(gs.map fun g=>g.2 * g.1.1).sum
noncomputable def cF (gs:List (Sm × Int)) (b:Str):Int:=(gs.map fun g=>g.2 * gt g.1.2 b).sum
noncomputable def zrU (U:List Str) (s1 s2:Sm):Bool:=(s1.1+s2.1==0)&&(canon U fun b=>gt s1.2 b+gt s2.2 b).isEmpty
noncomputable def isA (A:List At) (n:Int) (w:Str):Bool:=decide (0≤n)&&(match A[n.toNat]? with | some a=>a.k==w | none=>false)
noncomputable def sA (A:List At) (n:Int):At:=A.getD n.toNat ⟨"",(0,[]),[]⟩
noncomputable def Ac (U:List Str) (m:Int) (A:List At):List Int→Bool
  | [n,t]=>isA A n "rest" && ((t != 0)&&(t * fac (sA A n)%m==0))
  | [n,o,t]=>isA A n "most" && (isA A o "most" && (zrU U (sA A n).s (sA A o).s&&(t != 0)))
  | _=>false
noncomputable def gv (A:List At) (l:List Int):Sm × Int:=((sA A (l.headD 0)).s,l.getLastD 0)
noncomputable def a9s (m:Int) (s:Sm):Bool:=(s.1%m != 0)&&s.2.all fun p=>p.2%m==0
noncomputable def Cg (U:List Str) (A:List At) (m:Int) (rows:List (List Int)):Bool:=decide (2≤m)&&(rows.all (Ac U m A)&&a9s m (cN (rows.map (gv A)),canon U (cF (rows.map (gv A)))))
theorem Es:okS "most" := by unfold okS; decide +kernel
theorem Gm:okS "rest" := by unfold okS; decide +kernel
noncomputable section
variable {U:List Str} {sto:List SO} {A:List At}
theorem Kz {c:Cl}:su [clT c] sto=some (.bl (isI c),sto):=by
  cases c <;> simp [gk,j9,sIf,jg,sNew,jh,jt,sNx,dh,sGo,bx,lu,c7,cu,j4,dj,m7,jw,mOr,iw,mIf,mOp,mUn,bw,iu,ak,fj,ao,j6,dw,bh,hName,jz,dz,jo,ltT,leT,jx,jk,lq,jj,gb,mj,ni,iy,gw,bf,m8,su,clT,isInt,a95,isI]
theorem tu {l:List T}:jq [.tup l] sto=some (.tup l,sto):=by first | exact rfl | simp [gk,j9,sIf,jg,sNew,jh,jt,sNx,dh,sGo,bx,lu,c7,cu,j4,dj,m7,jw,mOr,iw,mIf,mOp,mUn,bw,iu,ak,fj,ao,j6,dw,bh,hName,jz,dz,jo,ltT,leT,jx,jk,lq,jj,gb,mj,ni,iy,gw,bf,m8,jq,isTup,Ag]
theorem Mq {α:Type} (f:α→Bool):∀ l:List α,O7 (l.map fun a=>T.bl (f a))=some (l.map f)
  | []=>rfl
  | a::l=>by simp [O7,Mq f l]
theorem all_map {α:Type} (f:α→Bool) (l:List α):a1e [.lst (l.map fun a=>T.bl (f a))]=some (.bl (l.all f)):=by
  simp [a1e,Mq,List.all_map]
theorem O6 {r:Rw} (hl:r.length<1000):vm [rwT r] sto=some (ilT (pr r),sto):=by
  have l1:r.length<lim:=by show _<1000000; omega
  unfold vm
  simp [gk,j9,sIf,jg,sNew,jh,jt,sNx,dh,sGo,bx,lu,c7,cu,j4,dj,m7,jw,mOr,iw,mIf,mOp,mUn,bw,iu,ak,fj,ao,j6,dw,bh,hName,jz,dz,jo,ltT,leT,jx,jk,lq,jj,gb,mj,ni,iy,gw,bf,m8,rwT,tu]
  generalize hF:qp 1 _ _ _ _ (dw su _) _=q
  have e:=w6 hF clT (fun c=>T.bl (isI c)) r ⟨[some (rwT r,false),some (rwT r,false)],sto⟩ [some (rwT r,false),some (rwT r,false)] [] (by first | exact rfl | simp [gk,j9,sIf,jg,sNew,jh,jt,sNx,dh,sGo,bx,lu,c7,cu,j4,dj,m7,jw,mOr,iw,mIf,mOp,mUn,bw,iu,ak,fj,ao,j6,dw,bh,hName,jz,dz,jo,ltT,leT,jx,jk,lq,jj,gb,mj,ni,iy,gw,bf,m8,rwT,l1]) rfl rfl rfl (Nat.le_of_lt l1) (fun c hc pre hp=>by
    match pre,hp with
    | [p0],_=>exact ⟨[some (clT c,false)],rfl,by first | exact rfl | simp [gk,j9,sIf,jg,sNew,jh,jt,sNx,dh,sGo,bx,lu,c7,cu,j4,dj,m7,jw,mOr,iw,mIf,mOp,mUn,bw,iu,ak,fj,ao,j6,dw,bh,hName,jz,dz,jo,ltT,leT,jx,jk,lq,jj,gb,mj,ni,iy,gw,bf,m8],rfl,by first | exact rfl | simp [gk,j9,sIf,jg,sNew,jh,jt,sNx,dh,sGo,bx,lu,c7,cu,j4,dj,m7,jw,mOr,iw,mIf,mOp,mUn,bw,iu,ak,fj,ao,j6,dw,bh,hName,jz,dz,jo,ltT,leT,jx,jk,lq,jj,gb,mj,ni,iy,gw,bf,m8,Kz]⟩)
  subst e
  by_cases h:r.all isI=true
  · have ha:=all_map isI r
    rw [h] at ha
    simp [gk,j9,sIf,jg,sNew,jh,jt,sNx,dh,sGo,bx,lu,c7,cu,j4,dj,m7,jw,mOr,iw,mIf,mOp,mUn,bw,iu,ak,fj,ao,j6,dw,bh,hName,jz,dz,jo,ltT,leT,jx,jk,lq,jj,gb,mj,ni,iy,gw,bf,m8,ha]
    generalize hG:qp 1 _ _ _ _ _ _=q
    have e:=w6 hG clT (fun c=>T.int (vI c)) r ⟨[some (rwT r,false),some (rwT r,false)],sto⟩ [some (rwT r,false),some (rwT r,false)] [] (by first | exact rfl | simp [gk,j9,sIf,jg,sNew,jh,jt,sNx,dh,sGo,bx,lu,c7,cu,j4,dj,m7,jw,mOr,iw,mIf,mOp,mUn,bw,iu,ak,fj,ao,j6,dw,bh,hName,jz,dz,jo,ltT,leT,jx,jk,lq,jj,gb,mj,ni,iy,gw,bf,m8,rwT,l1]) rfl rfl rfl (Nat.le_of_lt l1) (fun c hc pre hp=>by
      have hi:=List.all_eq_true.mp h c hc
      match pre,hp with
      | [p0],_=>exact ⟨[some (clT c,false)],rfl,by first | exact rfl | simp [gk,j9,sIf,jg,sNew,jh,jt,sNx,dh,sGo,bx,lu,c7,cu,j4,dj,m7,jw,mOr,iw,mIf,mOp,mUn,bw,iu,ak,fj,ao,j6,dw,bh,hName,jz,dz,jo,ltT,leT,jx,jk,lq,jj,gb,mj,ni,iy,gw,bf,m8],rfl,by
          cases c with
          | i n=>simp [gk,j9,sIf,jg,sNew,jh,jt,sNx,dh,sGo,bx,lu,c7,cu,j4,dj,m7,jw,mOr,iw,mIf,mOp,mUn,bw,iu,ak,fj,ao,j6,dw,bh,hName,jz,dz,jo,ltT,leT,jx,jk,lq,jj,gb,mj,ni,iy,gw,bf,m8,clT,W2,vI]
          | b k=>cases hi⟩)
    subst e
    simp [gk,j9,sIf,jg,sNew,jh,jt,sNx,dh,sGo,bx,lu,c7,cu,j4,dj,m7,jw,mOr,iw,mIf,mOp,mUn,bw,iu,ak,fj,ao,j6,dw,bh,hName,jz,dz,jo,ltT,leT,jx,jk,lq,jj,gb,mj,ni,iy,gw,bf,m8,Ag,ilT,pr,h]
  · have hf:r.all isI=false:=by simpa using h
    have ha:=all_map isI r
    rw [hf] at ha
    simp [gk,j9,sIf,jg,sNew,jh,jt,sNx,dh,sGo,bx,lu,c7,cu,j4,dj,m7,jw,mOr,iw,mIf,mOp,mUn,bw,iu,ak,fj,ao,j6,dw,bh,hName,jz,dz,jo,ltT,leT,jx,jk,lq,jj,gb,mj,ni,iy,gw,bf,m8,ha,ilT,pr,hf]
theorem a76 {rs:List Rw} (hr:rs.length<1000) (hl:∀ r∈rs,r.length<1000):qm [.tup (rs.map rwT)] sto=some (.lst ((rs.map pr).map ilT),sto):=by
  have l1:rs.length<lim:=by show _<1000000; omega
  unfold qm
  simp [gk,j9,sIf,jg,sNew,jh,jt,sNx,dh,sGo,bx,lu,c7,cu,j4,dj,m7,jw,mOr,iw,mIf,mOp,mUn,bw,iu,ak,fj,ao,j6,dw,bh,hName,jz,dz,jo,ltT,leT,jx,jk,lq,jj,gb,mj,ni,iy,gw,bf,m8]
  generalize hF:qp 1 _ _ _ _ _ _=q
  have e:=w6 hF rwT (fun r=>ilT (pr r)) rs ⟨[some (.tup (rs.map rwT),false)],sto⟩ [some (.tup (rs.map rwT),false)] [] (by first | exact rfl | simp [gk,j9,sIf,jg,sNew,jh,jt,sNx,dh,sGo,bx,lu,c7,cu,j4,dj,m7,jw,mOr,iw,mIf,mOp,mUn,bw,iu,ak,fj,ao,j6,dw,bh,hName,jz,dz,jo,ltT,leT,jx,jk,lq,jj,gb,mj,ni,iy,gw,bf,m8,tu,l1]) rfl rfl rfl (Nat.le_of_lt l1) (fun r hr' pre hp=>by
    have:=O6 (sto:=sto) (hl r hr')
    match pre,hp with
    | [p0],_=>exact ⟨[some (rwT r,false)],rfl,by first | exact rfl | simp [gk,j9,sIf,jg,sNew,jh,jt,sNx,dh,sGo,bx,lu,c7,cu,j4,dj,m7,jw,mOr,iw,mIf,mOp,mUn,bw,iu,ak,fj,ao,j6,dw,bh,hName,jz,dz,jo,ltT,leT,jx,jk,lq,jj,gb,mj,ni,iy,gw,bf,m8],rfl,by first | exact rfl | simp [gk,j9,sIf,jg,sNew,jh,jt,sNx,dh,sGo,bx,lu,c7,cu,j4,dj,m7,jw,mOr,iw,mIf,mOp,mUn,bw,iu,ak,fj,ao,j6,dw,bh,hName,jz,dz,jo,ltT,leT,jx,jk,lq,jj,gb,mj,ni,iy,gw,bf,m8,this]⟩)
  subst e
  simp
theorem Dr {α:Type} {f:α→T} {n:Int} {l:List α}:vd [.int n,.lst (l.map f)] sto=some (.bl (decide (0≤n)&&decide (n<l.length)),sto):=by
  by_cases h:0≤n <;> simp [gk,j9,sIf,jg,sNew,jh,jt,sNx,dh,sGo,bx,lu,c7,cu,j4,dj,m7,jw,mOr,iw,mIf,mOp,mUn,bw,iu,ak,fj,ao,j6,dw,bh,hName,jz,dz,jo,ltT,leT,jx,jk,lq,jj,gb,mj,ni,iy,gw,bf,m8,vd,h]
theorem Ld {n:Int} {w:Str} (hw:okS w) (ok:∀ a∈A,Tp U a):ud [.lst (A.map atT),.int n,.str w] sto=some (.bl (isA A n w),sto):=by
  unfold isA
  by_cases h:0≤n
  · by_cases h2:n<A.length
    · have hn:n.toNat<A.length:=by omega
      have hi:gq (.lst (A.map atT)) (.int n)=some (atT A[n.toNat]):=by
        have:=Xz (xs:=A.map atT) (k:=n.toNat) (t:=atT A[n.toNat]) (by rw [List.getElem?_map,List.getElem?_eq_getElem hn]; rfl)
        rw [Int.toNat_of_nonneg h] at this
        exact this
      have he:=Bm (ok _ (List.getElem_mem hn)).1 hw
      simp [gk,j9,sIf,jg,sNew,jh,jt,sNx,dh,sGo,bx,lu,c7,cu,j4,dj,m7,jw,mOr,iw,mIf,mOp,mUn,bw,iu,ak,fj,ao,j6,dw,bh,hName,jz,dz,jo,ltT,leT,jx,jk,lq,jj,gb,mj,ni,iy,gw,bf,m8,ud,Dr,h,h2,hi,atT,rm,he,List.getElem?_eq_getElem hn]
    · have hn:A[n.toNat]? = none:=List.getElem?_eq_none_iff.mpr (by omega)
      simp [gk,j9,sIf,jg,sNew,jh,jt,sNx,dh,sGo,bx,lu,c7,cu,j4,dj,m7,jw,mOr,iw,mIf,mOp,mUn,bw,iu,ak,fj,ao,j6,dw,bh,hName,jz,dz,jo,ltT,leT,jx,jk,lq,jj,gb,mj,ni,iy,gw,bf,m8,ud,Dr,h,h2,hn]
  · simp [gk,j9,sIf,jg,sNew,jh,jt,sNx,dh,sGo,bx,lu,c7,cu,j4,dj,m7,jw,mOr,iw,mIf,mOp,mUn,bw,iu,ak,fj,ao,j6,dw,bh,hName,jz,dz,jo,ltT,leT,jx,jk,lq,jj,gb,mj,ni,iy,gw,bf,m8,ud,Dr,h]
theorem item_at {n:Int} {a:At} (h0:0≤n) (h:A[n.toNat]? = some a):gq (.lst (A.map atT)) (.int n)=some (atT a):=by
  have:=Xz (xs:=A.map atT) (k:=n.toNat) (t:=atT a) (by rw [List.getElem?_map,h]; rfl)
  rw [Int.toNat_of_nonneg h0] at this
  exact this
theorem Bc {n:Int} {w:Str} (h:isA A n w=true):0≤n∧A[n.toNat]? = some (sA A n)∧((sA A n).k==w)=true:=by
  unfold isA at h
  simp only [Bool.and_eq_true,decide_eq_true_eq] at h
  obtain ⟨h0,h1⟩:=h
  cases e:A[n.toNat]? with
  | none=>rw [e] at h1; cases h1
  | some a =>
    rw [e] at h1
    have:sA A n=a:=by unfold sA; rw [List.getD_eq_getElem?_getD,e]; rfl
    rw [this]
    exact ⟨h0,rfl,h1⟩
noncomputable def yj (gs:List (Sm × Int)):List Pr:=gs.flatMap fun g=>g.1.2.map fun p=>(p.1,g.2 * p.2)
theorem Qe {b:Str}:∀ l r:List Pr,tot (l++r) b=tot l b+tot r b
  | [],r=>by simp [tot]
  | (k,v)::l,r=>by rw [List.cons_append,tot,tot,Qe l r]; omega
theorem Ul {t:Int} {b:Str}:∀ l:List Pr,tot (l.map fun p=>(p.1,t * p.2)) b=t * tot l b
  | []=>by simp [tot]
  | (k,v)::r=>by
    rw [List.map_cons,tot,tot,Ul r,Int.mul_add]
    by_cases e:k=b <;> simp [e]
theorem Qy {b:Str}:∀ {gs:List (Sm × Int)},(∀ g∈gs,Vs U g.1)→tot (yj gs) b=cF gs b
  | [],_=>rfl
  | g::gs,h=>by
    have ih:=Qy (b:=b) (gs:=gs) fun x hx=>h x (List.mem_cons_of_mem _ hx)
    unfold yj cF at ih ⊢
    rw [List.flatMap_cons,Qe,ih,Ul,O9 (h g List.mem_cons_self).nd,List.map_cons,List.sum_cons]
theorem Ir (u:Uni U):∀ {gs:List (Sm × Int)},(∀ g∈gs,Vs U g.1)→(yj gs).length≤8 * gs.length
  | [],_=>by simp [yj]
  | g::gs,h=>by
    have ih:=Ir u (gs:=gs) fun x hx=>h x (List.mem_cons_of_mem _ hx)
    have:=Ku u (h g List.mem_cons_self)
    unfold yj at ih ⊢
    rw [List.flatMap_cons,List.length_append,List.length_map,List.length_cons]
    omega
theorem a3r {U:List Str} {l:List Pr} (u:Uni U) (h:∀ b∈ks l,b∈U):Pl 2 (.tup (l.map pT)):=a3e (n:=1) fun t ht=>by
  obtain ⟨p,hp,rfl⟩:=List.mem_map.mp ht
  refine a3e (n:=0) fun t ht=>?_
  simp only [List.mem_cons,List.not_mem_nil,or_false] at ht
  rcases ht with rfl | rfl
  · exact a93 0 (u.ok _ (h _ (List.mem_map.mpr ⟨p,hp,rfl⟩)))
  · exact a9e 0 _
theorem eq_nil {l:List Pr} (u:Uni U) (h:∀ b∈ks l,b∈U):eqO (.tup (l.map pT)) (.tup [])=some (.bl l.isEmpty):=by
  obtain ⟨d,e1,e2⟩:=a3r u h
  have e0:dat (.tup [])=some (.tuple []):=by simp [dat,Gb]
  have h40:d.depth≤40:=by omega
  cases l with
  | nil=>simp [eqO,eqT,eqD,e0,PyData.depth,PyData.depthAll,PyData.eqv,PyData.eqvAll]
  | cons p l =>
    simp only [dat,List.map_cons,Option.map_eq_some_iff] at e1
    obtain ⟨ds,e3,rfl⟩:=e1
    cases ds with
    | nil =>
      simp only [Gb] at e3
      split at e3
      · obtain ⟨_,_,z⟩:=Option.map_eq_some_iff.mp e3; cases z
      · cases e3
    | cons x ds =>
      have e1:dat (.tup (pT p::l.map pT))=some (.tuple (x::ds)):=by simp only [dat,e3]; rfl
      simp [eqO,eqT,eqD,e1,e0,h40,PyData.eqv,PyData.eqvAll]
theorem M9 {a b:S} {s s':Sta} {v:T} (h:a s=some (.ret v,s')):j9 a b s=some (.ret v,s'):=by unfold j9; rw [h]
theorem Rk {f g:Str→Int} (h:∀ b∈U,f b=g b):canon U f=canon U g:=by
  unfold canon
  rw [List.filter_congr (q:=fun b=>g b != 0) fun b hb=>by rw [h b hb]]
  exact List.map_congr_left fun b hb=>by rw [h b (List.mem_filter.mp hb).1]
theorem a4z {s:Sm} (u:Uni U) (h:∀ b∈ks s.2,b∈U):eqO (smT s) (.tup [.int 0,.tup []])=some (.bl ((s.1==0)&&s.2.isEmpty)):=by
  obtain ⟨n,l⟩:=s
  obtain ⟨d,e1,e2⟩:=a3r u h
  have e0:dat (.tup [.int 0,.tup []])=some (.tuple [.int 0,.tuple []]):=by simp [dat,Gb]
  simp only [dat,Option.map_eq_some_iff] at e1
  obtain ⟨ds,e3,rfl⟩:=e1
  have e4:dat (smT (n,l))=some (.tuple [.int n,.tuple ds]):=by simp only [smT,dat,Gb,e3]; rfl
  have h40:(PyData.tuple [.int n,.tuple ds]).depth≤40:=by
    simp only [PyData.depth,PyData.depthAll] at e2 ⊢
    omega
  have eE:PyData.eqvAll ds []=l.isEmpty:=by
    cases l with
    | nil=>simp only [List.map_nil,Gb] at e3; cases e3; rfl
    | cons p l =>
      cases ds with
      | nil =>
        simp only [List.map_cons,Gb] at e3
        split at e3
        · obtain ⟨_,_,z⟩:=Option.map_eq_some_iff.mp e3; cases z
        · cases e3
      | cons x ds=>simp [PyData.eqvAll]
  have nd:∀ b,smT (n,l)≠.dic b:=fun b z=>by cases z
  unfold eqO eqT
  simp only [smT] at e4 ⊢
  simp [eqD,e4,e0,h40,PyData.eqv,PyData.eqvAll,eE]
theorem a67 {s1 s2:Sm} (u:Uni U) (h1:Vs U s1) (h2:Vs U s2):Jh [smT s1,smT s2] sto=some (smT (s1.1+s2.1,canon U fun b=>gt s1.2 b+gt s2.2 b),sto):=by
  have l1:=Ku u h1
  have l2:=Ku u h2
  have lm:s1.2.length+s2.2.length<lim:=by show _<1000000; omega
  have so:=Yv (sto:=sto) (n:=s1.1+s2.1) (l:=s1.2++s2.2) (s:=.tup ((s1.2++s2.2).map pT)) u (.inr rfl) (by rw [List.length_append]; omega) (fun b hb=>by
    unfold ks at hb
    rw [List.map_append] at hb
    rcases List.mem_append.mp hb with z | z
    · exact h1.sub b z
    · exact h2.sub b z)
  rw [Rk (g:=fun b=>gt s1.2 b+gt s2.2 b) (fun b _=>by rw [Qe,O9 h1.nd,O9 h2.nd]),List.map_append] at so
  unfold Jh
  rw [show smT s1=.tup [.int s1.1,.tup (s1.2.map pT)] from rfl,show smT s2=.tup [.int s2.1,.tup (s2.2.map pT)] from rfl]
  simp [gk,j9,sIf,jg,sNew,jh,jt,sNx,dh,sGo,bx,lu,c7,cu,j4,dj,m7,jw,mOr,iw,mIf,mOp,mUn,bw,iu,ak,fj,ao,j6,dw,bh,hName,jz,dz,jo,ltT,leT,jx,jk,lq,jj,gb,mj,ni,iy,gw,bf,m8,rm,qy,lm,so]
theorem Np {n o:Int} (u:Uni U) (hU:U.Nodup) (ok:∀ a∈A,Tp U a):qx [.lst (A.map atT),.int n,.int o] sto=some (.bl (isA A n "most" && (isA A o "most" && zrU U (sA A n).s (sA A o).s)),sto):=by
  have a1:=Ld (sto:=sto) (n:=n) Es ok
  have a2:=Ld (sto:=sto) (n:=o) Es ok
  cases e1:isA A n "most" with
  | false=>rw [e1] at a1; unfold qx; simp [gk,j9,sIf,jg,sNew,jh,jt,sNx,dh,sGo,bx,lu,c7,cu,j4,dj,m7,jw,mOr,iw,mIf,mOp,mUn,bw,iu,ak,fj,ao,j6,dw,bh,hName,jz,dz,jo,ltT,leT,jx,jk,lq,jj,gb,mj,ni,iy,gw,bf,m8,a1]
  | true =>
    rw [e1] at a1
    cases e2:isA A o "most" with
    | false=>rw [e2] at a2; unfold qx; simp [gk,j9,sIf,jg,sNew,jh,jt,sNx,dh,sGo,bx,lu,c7,cu,j4,dj,m7,jw,mOr,iw,mIf,mOp,mUn,bw,iu,ak,fj,ao,j6,dw,bh,hName,jz,dz,jo,ltT,leT,jx,jk,lq,jj,gb,mj,ni,iy,gw,bf,m8,a1,a2]
    | true =>
      rw [e2] at a2
      obtain ⟨n0,n1,n2⟩:=Bc e1
      obtain ⟨o0,o1,o2⟩:=Bc e2
      have pl:=a67 (sto:=sto) u (ok _ (List.mem_of_getElem? n1)).2.1 (ok _ (List.mem_of_getElem? o1)).2.1
      have ez:=a4z (s:=((sA A n).s.1+(sA A o).s.1,canon U fun b=>gt (sA A n).s.2 b+gt (sA A o).s.2 b)) u (M5 (n:=0) hU).sub
      unfold qx
      simp [gk,j9,sIf,jg,sNew,jh,jt,sNx,dh,sGo,bx,lu,c7,cu,j4,dj,m7,jw,mOr,iw,mIf,mOp,mUn,bw,iu,ak,fj,ao,j6,dw,bh,hName,jz,dz,jo,ltT,leT,jx,jk,lq,jj,gb,mj,ni,iy,gw,bf,m8,a1,a2,item_at n0 n1,item_at o0 o1,atT,qy,pl,ez,zrU]
theorem Rj {m:Int} {l:List Int} (hm:2≤m) (u:Uni U) (hU:U.Nodup) (ok:∀ a∈A,Tp U a) (hb:∀ n∈l,Af n=true):m6 [.lst (A.map atT),.int m,ilT l] sto=some (.bl (Ac U m A l),sto):=by
  have hm0:0<m:=by omega
  match l,hb with
  | [n,t],hb =>
    have a1:=Ld (sto:=sto) (n:=n) Gm ok
    have ht:Af t=true:=hb t (by simp)
    cases e1:isA A n "rest" with
    | false=>rw [e1] at a1; unfold m6; simp [gk,j9,sIf,jg,sNew,jh,jt,sNx,dh,sGo,bx,lu,c7,cu,j4,dj,m7,jw,mOr,iw,mIf,mOp,mUn,bw,iu,ak,fj,ao,j6,dw,bh,hName,jz,dz,jo,ltT,leT,jx,jk,lq,jj,gb,mj,ni,iy,gw,bf,m8,ilT,qw,rm,qy,a1,Ac,e1]
    | true =>
      rw [e1] at a1
      obtain ⟨n0,n1,n2⟩:=Bc e1
      obtain ⟨f,hf⟩:=(ok _ (List.mem_of_getElem? n1)).2.2 n2
      have ii:=item_at n0 n1
      have i2:gq (atT (sA A n)) (.int 2)=some (.int f):=by unfold atT; rw [hf]; exact G9
      have ef:fac (sA A n)=f:=by unfold fac; rw [hf]
      by_cases h0:t=0
      · subst h0
        unfold m6
        simp [gk,j9,sIf,jg,sNew,jh,jt,sNx,dh,sGo,bx,lu,c7,cu,j4,dj,m7,jw,mOr,iw,mIf,mOp,mUn,bw,iu,ak,fj,ao,j6,dw,bh,hName,jz,dz,jo,ltT,leT,jx,jk,lq,jj,gb,mj,ni,iy,gw,bf,m8,ilT,qw,Ay,rm,qy,a1,Ac,e1]
      · have hz:(t==0)=false:=by simpa using h0
        unfold m6
        simp [gk,j9,sIf,jg,sNew,jh,jt,sNx,dh,sGo,bx,lu,c7,cu,j4,dj,m7,jw,mOr,iw,mIf,mOp,mUn,bw,iu,ak,fj,ao,j6,dw,bh,hName,jz,dz,jo,ltT,leT,jx,jk,lq,jj,gb,mj,ni,iy,gw,bf,m8,ilT,qw,Ay,rm,qy,a1,Ac,e1,hz,h0,ii,i2,Ej,ht,hm0,ef]
  | [n,o,t],hb =>
    have zp:=Np (sto:=sto) (n:=n) (o:=o) u hU ok
    cases e1:(isA A n "most" && (isA A o "most" && zrU U (sA A n).s (sA A o).s)) with
    | false =>
      rw [e1] at zp
      have:Ac U m A [n,o,t]=false:=by
        show (isA A n "most" && (isA A o "most" && (zrU U (sA A n).s (sA A o).s&&(t != 0))))=_
        rw [show (isA A n "most" && (isA A o "most" && (zrU U (sA A n).s (sA A o).s&&(t != 0))))=((isA A n "most" && (isA A o "most" && zrU U (sA A n).s (sA A o).s))&&(t != 0)) by simp only [Bool.and_assoc],e1]; rfl
      rw [this]
      unfold m6
      simp [gk,j9,sIf,jg,sNew,jh,jt,sNx,dh,sGo,bx,lu,c7,cu,j4,dj,m7,jw,mOr,iw,mIf,mOp,mUn,bw,iu,ak,fj,ao,j6,dw,bh,hName,jz,dz,jo,ltT,leT,jx,jk,lq,jj,gb,mj,ni,iy,gw,bf,m8,ilT,qw,rm,qy,zp]
    | true =>
      rw [e1] at zp
      have:Ac U m A [n,o,t]=(t != 0):=by
        show (isA A n "most" && (isA A o "most" && (zrU U (sA A n).s (sA A o).s&&(t != 0))))=_
        rw [show (isA A n "most" && (isA A o "most" && (zrU U (sA A n).s (sA A o).s&&(t != 0))))=((isA A n "most" && (isA A o "most" && zrU U (sA A n).s (sA A o).s))&&(t != 0)) by simp only [Bool.and_assoc],e1]; rfl
      rw [this]
      unfold m6
      simp [gk,j9,sIf,jg,sNew,jh,jt,sNx,dh,sGo,bx,lu,c7,cu,j4,dj,m7,jw,mOr,iw,mIf,mOp,mUn,bw,iu,ak,fj,ao,j6,dw,bh,hName,jz,dz,jo,ltT,leT,jx,jk,lq,jj,gb,mj,ni,iy,gw,bf,m8,ilT,qw,Ay,rm,qy,G9,zp,bne]
  | [],_=>unfold m6; simp [gk,j9,sIf,jg,sNew,jh,jt,sNx,dh,sGo,bx,lu,c7,cu,j4,dj,m7,jw,mOr,iw,mIf,mOp,mUn,bw,iu,ak,fj,ao,j6,dw,bh,hName,jz,dz,jo,ltT,leT,jx,jk,lq,jj,gb,mj,ni,iy,gw,bf,m8,ilT,qw,Ac]
  | [n],_=>unfold m6; simp [gk,j9,sIf,jg,sNew,jh,jt,sNx,dh,sGo,bx,lu,c7,cu,j4,dj,m7,jw,mOr,iw,mIf,mOp,mUn,bw,iu,ak,fj,ao,j6,dw,bh,hName,jz,dz,jo,ltT,leT,jx,jk,lq,jj,gb,mj,ni,iy,gw,bf,m8,ilT,qw,Ac]
  | a::b::c::d::r,_ =>
    have h3:(((r.length:Int)+1+1+1+1)==3)=false:=beq_eq_false_iff_ne.mpr (by omega)
    have h2:(((r.length:Int)+1+1+1+1)==2)=false:=beq_eq_false_iff_ne.mpr (by omega)
    unfold m6
    simp [gk,j9,sIf,jg,sNew,jh,jt,sNx,dh,sGo,bx,lu,c7,cu,j4,dj,m7,jw,mOr,iw,mIf,mOp,mUn,bw,iu,ak,fj,ao,j6,dw,bh,hName,jz,dz,jo,ltT,leT,jx,jk,lq,jj,gb,mj,ni,iy,gw,bf,m8,ilT,qw,Ac,h3,h2]
end
end K
end
noncomputable section
set_option linter.all false
set_option maxRecDepth 100000
set_option autoImplicit false
namespace K
open C PySem
noncomputable section
variable {U:List Str} {sto:List SO} {A:List At} {m:Int}
structure Bt (A:List At) (l:List Int) (n t:Int):Prop where
  fst:gq (ilT l) (.int 0)=some (.int n)
  lst:gq (ilT l) (.int (-1))=some (.int t)
  pos:0≤n
  at':A[n.toNat]? = some (sA A n)
  gv:gv A l=((sA A n).s,t)
  mem:t∈l
  nz:t≠0
theorem a2t {l:List Int} (h:Ac U m A l=true):∃ n t,Bt A l n t:=by
  match l,h with
  | [n,t],h =>
    simp only [Ac,Bool.and_eq_true] at h
    obtain ⟨a,b,_⟩:=Bc h.1
    exact ⟨n,t,rfl,rfl,a,b,rfl,by simp,by simpa using h.2.1⟩
  | [n,o,t],h =>
    simp only [Ac,Bool.and_eq_true] at h
    obtain ⟨a,b,_⟩:=Bc h.1
    exact ⟨n,t,rfl,rfl,a,b,rfl,by simp,by simpa using h.2.2.2⟩
theorem a1u {rows:List (List Int)} (u:Uni U) (ok:∀ a∈A,Tp U a) (hr:∀ l∈rows,Ac U m A l=true) (hB:∀ l∈rows,∀ n∈l,Af n=true) (hl:rows.length≤100) :
    um [.lst (A.map atT),.lst (rows.map ilT)] sto=some (smT (cN (rows.map (gv A)),canon U (cF (rows.map (gv A)))),sto):=by
  have l1:rows.length<lim:=by show _<1000000; omega
  have allg:∀ {rs:List (List Int)},(∀ l∈rs,l∈rows)→∀ g∈rs.map (gv A),Vs U g.1:=fun {rs} hs g hg=>by
    obtain ⟨l,hl,rfl⟩:=List.mem_map.mp hg
    obtain ⟨n,t,R⟩:=a2t (hr l (hs l hl))
    rw [R.gv]
    exact (ok _ (List.mem_of_getElem? R.at')).2.1
  unfold um
  simp [gk,j9,sIf,jg,sNew,jh,jt,sNx,dh,sGo,bx,lu,c7,cu,j4,dj,m7,jw,mOr,iw,mIf,mOp,mUn,bw,iu,ak,fj,ao,j6,dw,bh,hName,jz,dz,jo,ltT,leT,jx,jk,lq,jj,gb,mj,ni,iy,gw,bf,m8,l1]
  generalize hF:forL _ _ _ _=r
  obtain ⟨s',rfl,P⟩:=Rg hF (fun ts s=>∃ (l done:List (List Int)) (o4 o5:Slot),ts=l.map ilT∧rows=done++l∧s=⟨[some (.lst (A.map atT),false),some (.lst (rows.map ilT),false),some (.int (cN (done.map (gv A))),false),some (.lst ((yj (done.map (gv A))).map pT),true),o4,o5],sto⟩)
    ⟨rows,[],none,none,rfl,rfl,rfl⟩ (by
      rintro t r s ⟨l,done,o4,o5,e1,e2,rfl⟩
      cases l with
      | nil=>cases e1
      | cons x l =>
        cases e1
        have hx:x∈rows:=by rw [e2]; simp
        obtain ⟨n,t,R⟩:=a2t (hr x hx)
        have hb:Af t=true:=hB x hx t R.mem
        have sa:=(ok _ (List.mem_of_getElem? R.at')).2.1
        have la:=Ku u sa
        have ii:=item_at R.pos R.at'
        have hg:=R.gv
        have e0:=R.fst
        have e9:=R.lst
        clear R
        generalize sA A n=a at *
        have hd:∀ l∈done,l∈rows:=fun y hy=>by rw [e2]; exact List.mem_append_left _ hy
        have lp:=Ir u (allg hd)
        have ld:(done.map (gv A)).length=done.length:=List.length_map _
        have lr:done.length≤rows.length:=by rw [e2,List.length_append]; omega
        have ls:a.s.2.length<lim:=by show _<1000000; omega
        have lt:(yj (done.map (gv A))).length+a.s.2.length<lim:=by show _<1000000; omega
        have ef:(done++[x]).map (gv A)=done.map (gv A)++[(a.s,t)]:=by rw [List.map_append,List.map_cons,List.map_nil,hg]
        refine ⟨⟨[some (.lst (A.map atT),false),some (.lst (rows.map ilT),false),some (.int (cN (done.map (gv A))),false),some (.lst ((yj (done.map (gv A))).map pT),true),some (ilT x,false),o5],sto⟩,⟨[some (.lst (A.map atT),false),some (.lst (rows.map ilT),false),some (.int (cN ((done++[x]).map (gv A))),false),some (.lst ((yj ((done++[x]).map (gv A))).map pT),true),some (ilT x,false),some (smT a.s,false)],sto⟩,rfl,?_,l,done++[x],_,_,rfl,by rw [e2]; simp,rfl⟩
        have en:cN ((done++[x]).map (gv A))=cN (done.map (gv A))+t * a.s.1:=by
          rw [ef]; unfold cN; rw [List.map_append,List.sum_append]; simp
        have ep:yj ((done++[x]).map (gv A))=yj (done.map (gv A))++a.s.2.map fun p=>(p.1,t * p.2):=by
          rw [ef]; unfold yj; rw [List.flatMap_append]; simp
        rw [en,ep]
        generalize ilT x=X at *
        simp [gk,j9,sIf,jg,sNew,jh,jt,sNx,dh,sGo,bx,lu,c7,cu,j4,dj,m7,jw,mOr,iw,mIf,mOp,mUn,bw,iu,ak,fj,ao,j6,dw,bh,hName,jz,dz,jo,ltT,leT,jx,jk,lq,jj,gb,mj,ni,iy,gw,bf,m8,e0,ii,atT,qy,e9,smT,rm,Ej,hb]
        generalize hG:qp 2 _ _ _ _ _ _=q
        have e:=w6 hG pT (fun p=>pT (p.1,t * p.2)) a.s.2 ⟨[some (.lst (A.map atT),false),some (.lst (rows.map ilT),false),some (.int (cN (done.map (gv A))+t * a.s.1),false),some (.lst ((yj (done.map (gv A))).map pT),true),some (X,false),some (smT a.s,false)],sto⟩ [some (.lst (A.map atT),false),some (.lst (rows.map ilT),false),some (.int (cN (done.map (gv A))+t * a.s.1),false),some (.lst ((yj (done.map (gv A))).map pT),true),some (X,false),some (smT a.s,false)] [some (X,false)] (by first | exact rfl | simp [gk,j9,sIf,jg,sNew,jh,jt,sNx,dh,sGo,bx,lu,c7,cu,j4,dj,m7,jw,mOr,iw,mIf,mOp,mUn,bw,iu,ak,fj,ao,j6,dw,bh,hName,jz,dz,jo,ltT,leT,jx,jk,lq,jj,gb,mj,ni,iy,gw,bf,m8,smT,qy,ls]) rfl rfl rfl (Nat.le_of_lt ls) (fun p hp pre hl=>by
          match pre,hl with
          | [p0,p1],_=>exact ⟨[some (.str p.1,false),some (.int p.2,false)],rfl,by first | exact rfl | simp [gk,j9,sIf,jg,sNew,jh,jt,sNx,dh,sGo,bx,lu,c7,cu,j4,dj,m7,jw,mOr,iw,mIf,mOp,mUn,bw,iu,ak,fj,ao,j6,dw,bh,hName,jz,dz,jo,ltT,leT,jx,jk,lq,jj,gb,mj,ni,iy,gw,bf,m8,pT],rfl,by first | exact rfl | simp [gk,j9,sIf,jg,sNew,jh,jt,sNx,dh,sGo,bx,lu,c7,cu,j4,dj,m7,jw,mOr,iw,mIf,mOp,mUn,bw,iu,ak,fj,ao,j6,dw,bh,hName,jz,dz,jo,ltT,leT,jx,jk,lq,jj,gb,mj,ni,iy,gw,bf,m8,e9,Ej,hb,pT]⟩)
        subst e
        simp [gk,j9,sIf,jg,sNew,jh,jt,sNx,dh,sGo,bx,lu,c7,cu,j4,dj,m7,jw,mOr,iw,mIf,mOp,mUn,bw,iu,ak,fj,ao,j6,dw,bh,hName,jz,dz,jo,ltT,leT,jx,jk,lq,jj,gb,mj,ni,iy,gw,bf,m8,lt]
        rfl)
  obtain ⟨l,done,o4,o5,e1,e2,rfl⟩:=P
  cases l with
  | cons _ _=>cases e1
  | nil =>
    rw [List.append_nil] at e2
    subst e2
    have ag:=allg (rs:=rows) fun _ h=>h
    have lp:=Ir u ag
    have ld:(rows.map (gv A)).length=rows.length:=List.length_map _
    have so:=Yv (sto:=sto) (n:=cN (rows.map (gv A))) (l:=yj (rows.map (gv A))) u (.inl rfl) (by omega) (fun b hb=>by
      unfold ks yj at hb
      rw [List.map_flatMap] at hb
      obtain ⟨g,hg,h⟩:=List.mem_flatMap.mp hb
      refine (ag g hg).sub b ?_
      unfold ks
      simpa using h)
    simp [gk,j9,sIf,jg,sNew,jh,jt,sNx,dh,sGo,bx,lu,c7,cu,j4,dj,m7,jw,mOr,iw,mIf,mOp,mUn,bw,iu,ak,fj,ao,j6,dw,bh,hName,jz,dz,jo,ltT,leT,jx,jk,lq,jj,gb,mj,ni,iy,gw,bf,m8,so]
    rw [show tot (yj (rows.map (gv A)))=cF (rows.map (gv A)) from funext fun b=>Qy ag]
theorem a1b {m:Int} {s:Sm} {o0 o1 o2:Slot} (hm:0<m) (hl:s.2.length≤100):iu a1e (ak (qp 2 [1] (jz [0,1]) (jo (mOp gq (bw 3) (ao (.int 1)))) gw (mOp eqO (mOp jj (bw 1) (bw 2)) (ao (.int 0)))) fj) ⟨[o0,some (.int m,false),o2,some (smT s,false)],sto⟩
    = some (.bl (s.2.all fun p=>p.2%m==0),⟨[o0,some (.int m,false),o2,some (smT s,false)],sto⟩):=by
  have l1:s.2.length<lim:=by show _<1000000; omega
  have co:qp 2 [1] (jz [0,1]) (jo (mOp gq (bw 3) (ao (.int 1)))) gw (mOp eqO (mOp jj (bw 1) (bw 2)) (ao (.int 0))) ⟨[o0,some (.int m,false),o2,some (smT s,false)],sto⟩=some (.lst (s.2.map fun p=>T.bl (p.2%m==0)),⟨[o0,some (.int m,false),o2,some (smT s,false)],sto⟩):=by
    generalize hF:qp 2 _ _ _ _ _ _=q
    exact w6 hF pT (fun p=>T.bl (p.2%m==0)) s.2 ⟨[o0,some (.int m,false),o2,some (smT s,false)],sto⟩ [o0,some (.int m,false),o2,some (smT s,false)] [some (.int m,false)] (by unfold smT; simp [gk,j9,sIf,jg,sNew,jh,jt,sNx,dh,sGo,bx,lu,c7,cu,j4,dj,m7,jw,mOr,iw,mIf,mOp,mUn,bw,iu,ak,fj,ao,j6,dw,bh,hName,jz,dz,jo,ltT,leT,jx,jk,lq,jj,gb,mj,ni,iy,gw,bf,m8,qy,l1]) rfl rfl rfl (Nat.le_of_lt l1) (fun p hp pre hq=>by
      match pre,hq with
      | [p0,p1],_=>exact ⟨[some (.str p.1,false),some (.int p.2,false)],rfl,by first | exact rfl | simp [gk,j9,sIf,jg,sNew,jh,jt,sNx,dh,sGo,bx,lu,c7,cu,j4,dj,m7,jw,mOr,iw,mIf,mOp,mUn,bw,iu,ak,fj,ao,j6,dw,bh,hName,jz,dz,jo,ltT,leT,jx,jk,lq,jj,gb,mj,ni,iy,gw,bf,m8,pT],rfl,by simp [gk,j9,sIf,jg,sNew,jh,jt,sNx,dh,sGo,bx,lu,c7,cu,j4,dj,m7,jw,mOr,iw,mIf,mOp,mUn,bw,iu,ak,fj,ao,j6,dw,bh,hName,jz,dz,jo,ltT,leT,jx,jk,lq,jj,gb,mj,ni,iy,gw,bf,m8,hm,qw]⟩)
  have ha:=all_map (fun p:Pr=>p.2%m==0) s.2
  simp [gk,j9,sIf,jg,sNew,jh,jt,sNx,dh,sGo,bx,lu,c7,cu,j4,dj,m7,jw,mOr,iw,mIf,mOp,mUn,bw,iu,ak,fj,ao,j6,dw,bh,hName,jz,dz,jo,ltT,leT,jx,jk,lq,jj,gb,mj,ni,iy,gw,bf,m8,co,ha]
theorem a5t {rows:List (List Int)} (u:Uni U) (hU:U.Nodup) (ok:∀ a∈A,Tp U a) (hb:∀ l∈rows,∀ n∈l,Af n=true) (hl:rows.length≤100) :
    Ab [.lst (A.map atT),.int m,.lst (rows.map ilT)] sto=some (.bl (Cg U A m rows),sto):=by
  have l1:rows.length<lim:=by show _<1000000; omega
  by_cases hm:m<2
  · have:decide (2≤m)=false:=by simp; omega
    unfold Ab
    simp [gk,j9,sIf,jg,sNew,jh,jt,sNx,dh,sGo,bx,lu,c7,cu,j4,dj,m7,jw,mOr,iw,mIf,mOp,mUn,bw,iu,ak,fj,ao,j6,dw,bh,hName,jz,dz,jo,ltT,leT,jx,jk,lq,jj,gb,mj,ni,iy,gw,bf,m8,hm,Cg,this]
  · have hd:decide (2≤m)=true:=by simp; omega
    have hm2:2≤m:=by omega
    have hm0:0<m:=by omega
    have co:qp 1 [0,1] (hName 0) (jo (bw 2)) gw (dw m6 (ak (bw 1) (ak (bw 2) (ak (bw 0) fj)))) ⟨[some (.lst (A.map atT),false),some (.int m,false),some (.lst (rows.map ilT),false),none],sto⟩=some (.lst (rows.map fun l=>T.bl (Ac U m A l)),⟨[some (.lst (A.map atT),false),some (.int m,false),some (.lst (rows.map ilT),false),none],sto⟩):=by
      generalize hF:qp 1 _ _ _ _ _ _=q
      exact w6 hF ilT (fun l=>T.bl (Ac U m A l)) rows ⟨[some (.lst (A.map atT),false),some (.int m,false),some (.lst (rows.map ilT),false),none],sto⟩ [some (.lst (A.map atT),false),some (.int m,false),some (.lst (rows.map ilT),false),none] [some (.lst (A.map atT),false),some (.int m,false)] (by first | exact rfl | simp [gk,j9,sIf,jg,sNew,jh,jt,sNx,dh,sGo,bx,lu,c7,cu,j4,dj,m7,jw,mOr,iw,mIf,mOp,mUn,bw,iu,ak,fj,ao,j6,dw,bh,hName,jz,dz,jo,ltT,leT,jx,jk,lq,jj,gb,mj,ni,iy,gw,bf,m8,l1]) rfl rfl rfl (Nat.le_of_lt l1) (fun l hl' pre hp=>by
        have:=Rj (sto:=sto) (l:=l) hm2 u hU ok (hb l hl')
        match pre,hp with
        | [p0],_=>exact ⟨[some (ilT l,false)],rfl,by first | exact rfl | simp [gk,j9,sIf,jg,sNew,jh,jt,sNx,dh,sGo,bx,lu,c7,cu,j4,dj,m7,jw,mOr,iw,mIf,mOp,mUn,bw,iu,ak,fj,ao,j6,dw,bh,hName,jz,dz,jo,ltT,leT,jx,jk,lq,jj,gb,mj,ni,iy,gw,bf,m8],rfl,by first | exact rfl | simp [gk,j9,sIf,jg,sNew,jh,jt,sNx,dh,sGo,bx,lu,c7,cu,j4,dj,m7,jw,mOr,iw,mIf,mOp,mUn,bw,iu,ak,fj,ao,j6,dw,bh,hName,jz,dz,jo,ltT,leT,jx,jk,lq,jj,gb,mj,ni,iy,gw,bf,m8,this]⟩)
    have ha:=all_map (fun l=>Ac U m A l) rows
    unfold Ab gk
    rw [show ([T.lst (A.map atT),T.int m,T.lst (rows.map ilT)].map (fun t=>some (t,false))++List.replicate (4 - [T.lst (A.map atT),T.int m,T.lst (rows.map ilT)].length) none:List Slot)=[some (.lst (A.map atT),false),some (.int m,false),some (.lst (rows.map ilT),false),none] from rfl]
    by_cases h:(rows.all fun l=>Ac U m A l)=true
    · rw [h] at ha
      have ad:=a1u (sto:=sto) u ok (List.all_eq_true.mp h) hb hl
      have h':rows.all (Ac U m A)=true:=h
      generalize hS:((cN (rows.map (gv A)),canon U (cF (rows.map (gv A)))):Sm)=S at ad
      have sl:S.2.length≤100:=by
        have:=Ku u (M5 (n:=cN (rows.map (gv A))) (f:=cF (rows.map (gv A))) hU)
        rw [hS] at this
        omega
      rw [kj (s':=⟨[some (.lst (A.map atT),false),some (.int m,false),some (.lst (rows.map ilT),false),none],sto⟩) (by simp [gk,j9,sIf,jg,sNew,jh,jt,sNx,dh,sGo,bx,lu,c7,cu,j4,dj,m7,jw,mOr,iw,mIf,mOp,mUn,bw,iu,ak,fj,ao,j6,dw,bh,hName,jz,dz,jo,ltT,leT,jx,jk,lq,jj,gb,mj,ni,iy,gw,bf,m8,hm,co,ha])]
      rw [kj (s':=⟨[some (.lst (A.map atT),false),some (.int m,false),some (.lst (rows.map ilT),false),some (smT S,false)],sto⟩) (by first | exact rfl | simp [gk,j9,sIf,jg,sNew,jh,jt,sNx,dh,sGo,bx,lu,c7,cu,j4,dj,m7,jw,mOr,iw,mIf,mOp,mUn,bw,iu,ak,fj,ao,j6,dw,bh,hName,jz,dz,jo,ltT,leT,jx,jk,lq,jj,gb,mj,ni,iy,gw,bf,m8,ad])]
      have ar:=a1b (s:=S) (sto:=sto) (o0:=some (.lst (A.map atT),false)) (o1:=none) (o2:=some (.lst (rows.map ilT),false)) hm0 sl
      have isr:Cg U A m rows=a9s m S:=by unfold Cg; rw [hd,h',hS]; rfl
      rw [isr]
      unfold a9s
      have i0:gq (smT S) (.int 0)=some (.int S.1):=rm
      generalize hM:iu a1e _=MM at ar ⊢
      by_cases hz:S.1%m=0
      · have e1:(S.1%m==0)=true:=by simpa using hz
        simp [gk,j9,sIf,jg,sNew,jh,jt,sNx,dh,sGo,bx,lu,c7,cu,j4,dj,m7,jw,mOr,iw,mIf,mOp,mUn,bw,iu,ak,fj,ao,j6,dw,bh,hName,jz,dz,jo,ltT,leT,jx,jk,lq,jj,gb,mj,ni,iy,gw,bf,m8,i0,hm0,Ay,e1,hz]
      · have e1:(S.1%m==0)=false:=by simpa using hz
        have e2:(S.1%m != 0)=true:=by simpa using hz
        simp [gk,j9,sIf,jg,sNew,jh,jt,sNx,dh,sGo,bx,lu,c7,cu,j4,dj,m7,jw,mOr,iw,mIf,mOp,mUn,bw,iu,ak,fj,ao,j6,dw,bh,hName,jz,dz,jo,ltT,leT,jx,jk,lq,jj,gb,mj,ni,iy,gw,bf,m8,i0,hm0,Ay,e1,e2,ar]
    · have hf:(rows.all fun l=>Ac U m A l)=false:=by simpa using h
      have hf':rows.all (Ac U m A)=false:=hf
      rw [hf] at ha
      simp [gk,j9,sIf,jg,sNew,jh,jt,sNx,dh,sGo,bx,lu,c7,cu,j4,dj,m7,jw,mOr,iw,mIf,mOp,mUn,bw,iu,ak,fj,ao,j6,dw,bh,hName,jz,dz,jo,ltT,leT,jx,jk,lq,jj,gb,mj,ni,iy,gw,bf,m8,hm,co,ha,Cg,hf',hd]
end
end K
end
noncomputable section
set_option linter.all false
set_option maxRecDepth 100000
set_option autoImplicit false
namespace K
open C PySem
noncomputable abbrev Bd:=Str × Int × Int
noncomputable def bdT (r:Bd):T:=.tup [.str r.1,.int r.2.1,.int r.2.2]
noncomputable def aL (b:Str) (n:Int):At:=⟨"most",(n,[(b,-1)]),[]⟩
noncomputable def aM (b:Str) (n:Int):At:=⟨"most",(-n,[(b,1)]),[]⟩
noncomputable def bounds (bs:List Bd):List At:=bs.flatMap fun r=>[aL r.1 r.2.1,aM r.1 r.2.2]
noncomputable section
variable {U:List Str} {sto:List SO} {A:List At}
theorem a1k {i j k:Nat} {x y z:T} {s:Sta}:jz [i,j,k] (.tup [x,y,z]) s=some (bh k z false (bh j y false (bh i x false s))):=by simp [jz]
theorem Tc {b:Str} {n:Int}:vf [.str b,.int n] sto=some (atT (aL b n),sto):=by first | exact rfl | simp [gk,j9,sIf,jg,sNew,jh,jt,sNx,dh,sGo,bx,lu,c7,cu,j4,dj,m7,jw,mOr,iw,mIf,mOp,mUn,bw,iu,ak,fj,ao,j6,dw,bh,hName,jz,dz,jo,ltT,leT,jx,jk,lq,jj,gb,mj,ni,iy,gw,bf,m8,vf,atT,aL,smT,pT]
theorem Ze {b:Str} {n:Int}:wu [.str b,.int n] sto=some (atT (aM b n),sto):=by first | exact rfl | simp [gk,j9,sIf,jg,sNew,jh,jt,sNx,dh,sGo,bx,lu,c7,cu,j4,dj,m7,jw,mOr,iw,mIf,mOp,mUn,bw,iu,ak,fj,ao,j6,dw,bh,hName,jz,dz,jo,ltT,leT,jx,jk,lq,jj,gb,mj,ni,iy,gw,bf,m8,wu,atT,aM,smT,pT]
theorem Ao (bs:List Bd):(bounds bs).length=2 * bs.length:=by
  unfold bounds
  induction bs with
  | nil=>rfl
  | cons a l ih=>rw [List.flatMap_cons,List.length_append,ih]; simp; omega
theorem Z7 {bs:List Bd} (h:∀ r∈bs,r.1∈U):∀ a∈bounds bs,Tp U a:=fun a ha=>by
  obtain ⟨r,hr,e⟩:=List.mem_flatMap.mp ha
  simp only [List.mem_cons,List.not_mem_nil,or_false] at e
  rcases e with rfl | rfl
  · exact ⟨Es,⟨by simp [aL,ks],fun b hb=>by simp [aL,ks] at hb; rw [hb]; exact h r hr⟩,fun z=>by exact absurd z (by show ¬ (("most" : Str)==("rest" : Str))=true; decide)⟩
  · exact ⟨Es,⟨by simp [aM,ks],fun b hb=>by simp [aM,ks] at hb; rw [hb]; exact h r hr⟩,fun z=>by exact absurd z (by show ¬ (("most" : Str)==("rest" : Str))=true; decide)⟩
theorem Ux (l:List Bd) (r:Bd):bounds (l++[r])=bounds l++[aL r.1 r.2.1,aM r.1 r.2.2]:=by
  unfold bounds; rw [List.flatMap_append]; simp
theorem Ip {bs:List Bd} (hl:bs.length≤100):v7 [.lst (bs.map bdT)] sto=some (.tup [.lst ((bounds bs).map atT),.lst []],sto):=by
  have l1:bs.length<lim:=by show _<1000000; omega
  unfold v7
  simp [gk,j9,sIf,jg,sNew,jh,jt,sNx,dh,sGo,bx,lu,c7,cu,j4,dj,m7,jw,mOr,iw,mIf,mOp,mUn,bw,iu,ak,fj,ao,j6,dw,bh,hName,jz,dz,jo,ltT,leT,jx,jk,lq,jj,gb,mj,ni,iy,gw,bf,m8,l1]
  generalize hF:forL _ _ _ _=r
  obtain ⟨s',rfl,P⟩:=Rg hF (fun ts s=>∃ (l done:List Bd) (o2 o3 o4:Slot),ts=l.map bdT∧bs=done++l∧s=⟨[some (.lst (bs.map bdT),false),some (.lst ((bounds done).map atT),true),o2,o3,o4],sto⟩)
    ⟨bs,[],none,none,none,rfl,rfl,rfl⟩ (by
      rintro t r s ⟨l,done,o2,o3,o4,e1,e2,rfl⟩
      cases l with
      | nil=>cases e1
      | cons x l =>
        cases e1
        have ld:done.length+l.length+1=bs.length:=by rw [e2]; simp; omega
        have hd:=Ao done
        have lt:(bounds done).length<lim:=by show _<1000000; omega
        have lt1:(bounds done).length+1<lim:=by show _<1000000; omega
        refine ⟨⟨[some (.lst (bs.map bdT),false),some (.lst ((bounds done).map atT),true),some (.str x.1,false),some (.int x.2.1,false),some (.int x.2.2,false)],sto⟩,⟨[some (.lst (bs.map bdT),false),some (.lst ((bounds (done++[x])).map atT),true),some (.str x.1,false),some (.int x.2.1,false),some (.int x.2.2,false)],sto⟩,by rw [bdT,a1k]; rfl,?_,l,done++[x],_,_,_,rfl,by rw [e2]; simp,rfl⟩
        rw [Ux]
        simp [gk,j9,sIf,jg,sNew,jh,jt,sNx,dh,sGo,bx,lu,c7,cu,j4,dj,m7,jw,mOr,iw,mIf,mOp,mUn,bw,iu,ak,fj,ao,j6,dw,bh,hName,jz,dz,jo,ltT,leT,jx,jk,lq,jj,gb,mj,ni,iy,gw,bf,m8,Tc,Ze,lt,lt1])
  obtain ⟨l,done,o2,o3,o4,e1,e2,rfl⟩:=P
  cases l with
  | cons _ _=>cases e1
  | nil =>
    rw [List.append_nil] at e2
    subst e2
    simp [gk,j9,sIf,jg,sNew,jh,jt,sNx,dh,sGo,bx,lu,c7,cu,j4,dj,m7,jw,mOr,iw,mIf,mOp,mUn,bw,iu,ak,fj,ao,j6,dw,bh,hName,jz,dz,jo,ltT,leT,jx,jk,lq,jj,gb,mj,ni,iy,gw,bf,m8]
theorem abv {Q:T} {v:Bool} {bs:List Bd} {f:List Fm} {A2:List At} (hA:Gz f=A2.map atT) (hf:Ss f) (hz:Gw f<1000) (h3:bs.length≤100)
    (pw:j5 [.lst (bs.map fun r=>.str r.1),.tup [.lst ((bounds bs++A2).map atT),.lst ([]++Ba f)],Q] sto=some (if v then .lst [] else .non,sto)) :
    qu [.lst (bs.map bdT),.lst (f.map fmT),Q] sto=some (.bl v,sto):=by
  have l1:bs.length<lim:=by show _<1000000; omega
  have fl:=Ip (sto:=sto) h3
  have bl:=Ao bs
  have li:=J8 (sto:=sto) (A:=(bounds bs).map atT) (O:=[]) hz hf (by rw [List.length_map]; omega) (by simp)
  rw [hA,← List.map_append] at li
  have co:qp 3 [] (jz [0,1,2]) (jo (bw 0)) gw (bw 0) ⟨[some (.lst (bs.map bdT),false),some (.lst (f.map fmT),false),some (Q,false),none,none,none,none],sto⟩=some (.lst (bs.map fun r=>.str r.1),⟨[some (.lst (bs.map bdT),false),some (.lst (f.map fmT),false),some (Q,false),none,none,none,none],sto⟩):=by
    generalize hF:qp 3 _ _ _ _ _ _=q
    exact w6 hF bdT (fun r=>T.str r.1) bs ⟨[some (.lst (bs.map bdT),false),some (.lst (f.map fmT),false),some (Q,false),none,none,none,none],sto⟩ [some (.lst (bs.map bdT),false),some (.lst (f.map fmT),false),some (Q,false),none,none,none,none] [] (by first | exact rfl | simp [gk,j9,sIf,jg,sNew,jh,jt,sNx,dh,sGo,bx,lu,c7,cu,j4,dj,m7,jw,mOr,iw,mIf,mOp,mUn,bw,iu,ak,fj,ao,j6,dw,bh,hName,jz,dz,jo,ltT,leT,jx,jk,lq,jj,gb,mj,ni,iy,gw,bf,m8,l1]) rfl rfl rfl (Nat.le_of_lt l1) (fun r hr pre hp=>by
      match pre,hp with
      | [p0,p1,p2],_=>exact ⟨[some (.str r.1,false),some (.int r.2.1,false),some (.int r.2.2,false)],rfl,by rw [bdT,a1k]; rfl,rfl,by first | exact rfl | simp [gk,j9,sIf,jg,sNew,jh,jt,sNx,dh,sGo,bx,lu,c7,cu,j4,dj,m7,jw,mOr,iw,mIf,mOp,mUn,bw,iu,ak,fj,ao,j6,dw,bh,hName,jz,dz,jo,ltT,leT,jx,jk,lq,jj,gb,mj,ni,iy,gw,bf,m8]⟩)
  unfold qu gk
  rw [show ([T.lst (bs.map bdT),.lst (f.map fmT),Q].map (fun t=>some (t,false))++List.replicate (7 - [T.lst (bs.map bdT),.lst (f.map fmT),Q].length) none:List Slot)=[some (.lst (bs.map bdT),false),some (.lst (f.map fmT),false),some (Q,false),none,none,none,none] from rfl]
  rw [kj (s':=⟨[some (.lst (bs.map bdT),false),some (.lst (f.map fmT),false),some (Q,false),some (.lst (bs.map fun r=>.str r.1),false),none,none,none],sto⟩) (by first | exact rfl | simp [gk,j9,sIf,jg,sNew,jh,jt,sNx,dh,sGo,bx,lu,c7,cu,j4,dj,m7,jw,mOr,iw,mIf,mOp,mUn,bw,iu,ak,fj,ao,j6,dw,bh,hName,jz,dz,jo,ltT,leT,jx,jk,lq,jj,gb,mj,ni,iy,gw,bf,m8,co])]
  rw [kj (s':=⟨[some (.lst (bs.map bdT),false),some (.lst (f.map fmT),false),some (Q,false),some (.lst (bs.map fun r=>.str r.1),false),some (.lst [.tup [.tup [.lst ((bounds bs++A2).map atT),.lst ([]++Ba f)],Q,.int 1]],true),none,none],sto⟩) (by
    simp only [List.map_append] at li ⊢
    simp [gk,j9,sIf,jg,sNew,jh,jt,sNx,dh,sGo,bx,lu,c7,cu,j4,dj,m7,jw,mOr,iw,mIf,mOp,mUn,bw,iu,ak,fj,ao,j6,dw,bh,hName,jz,dz,jo,ltT,leT,jx,jk,lq,jj,gb,mj,ni,iy,gw,bf,m8,fl,li])]
  cases hs:v with
  | true =>
    rw [hs] at pw
    rw [kj (s':=⟨[some (.lst (bs.map bdT),false),some (.lst (f.map fmT),false),some (Q,false),some (.lst (bs.map fun r=>.str r.1),false),some (.lst [],true),some (.tup [.tup [.lst ((bounds bs++A2).map atT),.lst ([]++Ba f)],Q,.int 1],false),some (.lst [],false)],sto⟩) ?_]
    · simp [gk,j9,sIf,jg,sNew,jh,jt,sNx,dh,sGo,bx,lu,c7,cu,j4,dj,m7,jw,mOr,iw,mIf,mOp,mUn,bw,iu,ak,fj,ao,j6,dw,bh,hName,jz,dz,jo,ltT,leT,jx,jk,lq,jj,gb,mj,ni,iy,gw,bf,m8]
    · rw [Bw (s1:=⟨[some (.lst (bs.map bdT),false),some (.lst (f.map fmT),false),some (Q,false),some (.lst (bs.map fun r=>.str r.1),false),some (.lst [.tup [.tup [.lst ((bounds bs++A2).map atT),.lst ([]++Ba f)],Q,.int 1]],true),none,none],sto⟩) (s2:=⟨[some (.lst (bs.map bdT),false),some (.lst (f.map fmT),false),some (Q,false),some (.lst (bs.map fun r=>.str r.1),false),some (.lst [],true),some (.tup [.tup [.lst ((bounds bs++A2).map atT),.lst ([]++Ba f)],Q,.int 1],false),some (.lst [],false)],sto⟩) (by first | exact rfl | simp [gk,j9,sIf,jg,sNew,jh,jt,sNx,dh,sGo,bx,lu,c7,cu,j4,dj,m7,jw,mOr,iw,mIf,mOp,mUn,bw,iu,ak,fj,ao,j6,dw,bh,hName,jz,dz,jo,ltT,leT,jx,jk,lq,jj,gb,mj,ni,iy,gw,bf,m8,yh,gtT]) ?_]
      · rw [Kh (s1:=⟨[some (.lst (bs.map bdT),false),some (.lst (f.map fmT),false),some (Q,false),some (.lst (bs.map fun r=>.str r.1),false),some (.lst [],true),some (.tup [.tup [.lst ((bounds bs++A2).map atT),.lst ([]++Ba f)],Q,.int 1],false),some (.lst [],false)],sto⟩) (by first | exact rfl | simp [gk,j9,sIf,jg,sNew,jh,jt,sNx,dh,sGo,bx,lu,c7,cu,j4,dj,m7,jw,mOr,iw,mIf,mOp,mUn,bw,iu,ak,fj,ao,j6,dw,bh,hName,jz,dz,jo,ltT,leT,jx,jk,lq,jj,gb,mj,ni,iy,gw,bf,m8,yh,gtT])]
      · have ce:qp 2 [5] (jz [0,1]) (jo (bw 6)) gw (iu (fun l=>some (.tup l)) (ak (bw 0) (ak (bw 1) (ak (mOp jk (mOp gq (bw 2) (ao (.int 2))) (ao (.int 1))) fj)))) ⟨[some (.lst (bs.map bdT),false),some (.lst (f.map fmT),false),some (Q,false),some (.lst (bs.map fun r=>.str r.1),false),some (.lst [],true),some (.tup [.tup [.lst ((bounds bs++A2).map atT),.lst ([]++Ba f)],Q,.int 1],false),some (.lst [],false)],sto⟩=some (.lst [],⟨[some (.lst (bs.map bdT),false),some (.lst (f.map fmT),false),some (Q,false),some (.lst (bs.map fun r=>.str r.1),false),some (.lst [],true),some (.tup [.tup [.lst ((bounds bs++A2).map atT),.lst ([]++Ba f)],Q,.int 1],false),some (.lst [],false)],sto⟩):=by
          generalize hF:qp 2 _ _ _ _ _ _=q
          exact w6 hF bdT bdT [] ⟨[some (.lst (bs.map bdT),false),some (.lst (f.map fmT),false),some (Q,false),some (.lst (bs.map fun r=>.str r.1),false),some (.lst [],true),some (.tup [.tup [.lst ((bounds bs++A2).map atT),.lst ([]++Ba f)],Q,.int 1],false),some (.lst [],false)],sto⟩ _ [some (.tup [.tup [.lst ((bounds bs++A2).map atT),.lst ([]++Ba f)],Q,.int 1],false)] (by first | exact rfl | simp [gk,j9,sIf,jg,sNew,jh,jt,sNx,dh,sGo,bx,lu,c7,cu,j4,dj,m7,jw,mOr,iw,mIf,mOp,mUn,bw,iu,ak,fj,ao,j6,dw,bh,hName,jz,dz,jo,ltT,leT,jx,jk,lq,jj,gb,mj,ni,iy,gw,bf,m8,lim]) rfl rfl rfl (by simp) (fun r hr=>by cases hr)
        rw [kj (s':=⟨[some (.lst (bs.map bdT),false),some (.lst (f.map fmT),false),some (Q,false),some (.lst (bs.map fun r=>.str r.1),false),some (.lst [],true),some (.tup [.tup [.lst ((bounds bs++A2).map atT),.lst ([]++Ba f)],Q,.int 1],false),none],sto⟩) rfl]
        rw [kj (s':=⟨[some (.lst (bs.map bdT),false),some (.lst (f.map fmT),false),some (Q,false),some (.lst (bs.map fun r=>.str r.1),false),some (.lst [],true),some (.tup [.tup [.lst ((bounds bs++A2).map atT),.lst ([]++Ba f)],Q,.int 1],false),some (.non,false)],sto⟩) rfl]
        rw [kj (s':=⟨[some (.lst (bs.map bdT),false),some (.lst (f.map fmT),false),some (Q,false),some (.lst (bs.map fun r=>.str r.1),false),some (.lst [],true),some (.tup [.tup [.lst ((bounds bs++A2).map atT),.lst ([]++Ba f)],Q,.int 1],false),some (.lst [],false)],sto⟩) (by
          simp only [List.nil_append,List.map_append] at pw
          simp [gk,j9,sIf,jg,sNew,jh,jt,sNx,dh,sGo,bx,lu,c7,cu,j4,dj,m7,jw,mOr,iw,mIf,mOp,mUn,bw,iu,ak,fj,ao,j6,dw,bh,hName,jz,dz,jo,ltT,leT,jx,jk,lq,jj,gb,mj,ni,iy,gw,bf,m8,rm,qy,G9,leT,pw])]
        rw [kj (s':=⟨[some (.lst (bs.map bdT),false),some (.lst (f.map fmT),false),some (Q,false),some (.lst (bs.map fun r=>.str r.1),false),some (.lst [],true),some (.tup [.tup [.lst ((bounds bs++A2).map atT),.lst ([]++Ba f)],Q,.int 1],false),some (.lst [],false)],sto⟩) (by first | exact rfl | simp [gk,j9,sIf,jg,sNew,jh,jt,sNx,dh,sGo,bx,lu,c7,cu,j4,dj,m7,jw,mOr,iw,mIf,mOp,mUn,bw,iu,ak,fj,ao,j6,dw,bh,hName,jz,dz,jo,ltT,leT,jx,jk,lq,jj,gb,mj,ni,iy,gw,bf,m8,a3q,Mv])]
        simp only [cu,ce]
        simp [iy,j4,lim,bh]
  | false =>
    rw [hs] at pw
    rw [M9 (s':=⟨[some (.lst (bs.map bdT),false),some (.lst (f.map fmT),false),some (Q,false),some (.lst (bs.map fun r=>.str r.1),false),some (.lst [],true),some (.tup [.tup [.lst ((bounds bs++A2).map atT),.lst ([]++Ba f)],Q,.int 1],false),some (.non,false)],sto⟩) (v:=.bl false) ?_]
    rw [J5 (s1:=⟨[some (.lst (bs.map bdT),false),some (.lst (f.map fmT),false),some (Q,false),some (.lst (bs.map fun r=>.str r.1),false),some (.lst [.tup [.tup [.lst ((bounds bs++A2).map atT),.lst ([]++Ba f)],Q,.int 1]],true),none,none],sto⟩) (by first | exact rfl | simp [gk,j9,sIf,jg,sNew,jh,jt,sNx,dh,sGo,bx,lu,c7,cu,j4,dj,m7,jw,mOr,iw,mIf,mOp,mUn,bw,iu,ak,fj,ao,j6,dw,bh,hName,jz,dz,jo,ltT,leT,jx,jk,lq,jj,gb,mj,ni,iy,gw,bf,m8,yh,gtT]) ?_]
    rw [kj (s':=⟨[some (.lst (bs.map bdT),false),some (.lst (f.map fmT),false),some (Q,false),some (.lst (bs.map fun r=>.str r.1),false),some (.lst [],true),some (.tup [.tup [.lst ((bounds bs++A2).map atT),.lst ([]++Ba f)],Q,.int 1],false),none],sto⟩) rfl]
    rw [kj (s':=⟨[some (.lst (bs.map bdT),false),some (.lst (f.map fmT),false),some (Q,false),some (.lst (bs.map fun r=>.str r.1),false),some (.lst [],true),some (.tup [.tup [.lst ((bounds bs++A2).map atT),.lst ([]++Ba f)],Q,.int 1],false),some (.non,false)],sto⟩) rfl]
    rw [kj (s':=⟨[some (.lst (bs.map bdT),false),some (.lst (f.map fmT),false),some (Q,false),some (.lst (bs.map fun r=>.str r.1),false),some (.lst [],true),some (.tup [.tup [.lst ((bounds bs++A2).map atT),.lst ([]++Ba f)],Q,.int 1],false),some (.non,false)],sto⟩) (by
      simp only [List.nil_append,List.map_append] at pw
      simp [gk,j9,sIf,jg,sNew,jh,jt,sNx,dh,sGo,bx,lu,c7,cu,j4,dj,m7,jw,mOr,iw,mIf,mOp,mUn,bw,iu,ak,fj,ao,j6,dw,bh,hName,jz,dz,jo,ltT,leT,jx,jk,lq,jj,gb,mj,ni,iy,gw,bf,m8,rm,qy,G9,leT,pw])]
    rw [M9 (s':=⟨[some (.lst (bs.map bdT),false),some (.lst (f.map fmT),false),some (Q,false),some (.lst (bs.map fun r=>.str r.1),false),some (.lst [],true),some (.tup [.tup [.lst ((bounds bs++A2).map atT),.lst ([]++Ba f)],Q,.int 1],false),some (.non,false)],sto⟩) (v:=.bl false) (by first | exact rfl | simp [gk,j9,sIf,jg,sNew,jh,jt,sNx,dh,sGo,bx,lu,c7,cu,j4,dj,m7,jw,mOr,iw,mIf,mOp,mUn,bw,iu,ak,fj,ao,j6,dw,bh,hName,jz,dz,jo,ltT,leT,jx,jk,lq,jj,gb,mj,ni,iy,gw,bf,m8,a3q,Mv])]
noncomputable def PR (x:T × List Int):Prop:=∀ sto:List SO,vm [x.1] sto=some (ilT x.2,sto)
theorem a9y {r:Rw} (h:r.length≤100):PR (rwT r,pr r):=fun sto=>O6 (by omega)
theorem Rv {xs:List (T × List Int)} (hl:xs.length≤100) (h:∀ x∈xs,PR x):qm [.tup (xs.map (·.1))] sto=some (.lst ((xs.map (·.2)).map ilT),sto):=by
  have l1:xs.length<lim:=by show _<1000000; omega
  unfold qm
  simp [gk,j9,sIf,jg,sNew,jh,jt,sNx,dh,sGo,bx,lu,c7,cu,j4,dj,m7,jw,mOr,iw,mIf,mOp,mUn,bw,iu,ak,fj,ao,j6,dw,bh,hName,jz,dz,jo,ltT,leT,jx,jk,lq,jj,gb,mj,ni,iy,gw,bf,m8]
  generalize hF:qp 1 _ _ _ _ _ _=q
  have e:=w6 hF (fun x:T × List Int=>x.1) (fun x=>ilT x.2) xs ⟨[some (.tup (xs.map (·.1)),false)],sto⟩ [some (.tup (xs.map (·.1)),false)] [] (by first | exact rfl | simp [gk,j9,sIf,jg,sNew,jh,jt,sNx,dh,sGo,bx,lu,c7,cu,j4,dj,m7,jw,mOr,iw,mIf,mOp,mUn,bw,iu,ak,fj,ao,j6,dw,bh,hName,jz,dz,jo,ltT,leT,jx,jk,lq,jj,gb,mj,ni,iy,gw,bf,m8,tu,l1]) rfl rfl rfl (Nat.le_of_lt l1) (fun x hx pre hp=>by
    have:=h x hx sto
    match pre,hp with
    | [p0],_=>exact ⟨[some (x.1,false)],rfl,by first | exact rfl | simp [gk,j9,sIf,jg,sNew,jh,jt,sNx,dh,sGo,bx,lu,c7,cu,j4,dj,m7,jw,mOr,iw,mIf,mOp,mUn,bw,iu,ak,fj,ao,j6,dw,bh,hName,jz,dz,jo,ltT,leT,jx,jk,lq,jj,gb,mj,ni,iy,gw,bf,m8],rfl,by first | exact rfl | simp [gk,j9,sIf,jg,sNew,jh,jt,sNx,dh,sGo,bx,lu,c7,cu,j4,dj,m7,jw,mOr,iw,mIf,mOp,mUn,bw,iu,ak,fj,ao,j6,dw,bh,hName,jz,dz,jo,ltT,leT,jx,jk,lq,jj,gb,mj,ni,iy,gw,bf,m8,this]⟩)
  subst e
  simp
noncomputable def leaf (xs:List (T × List Int)) (P:T):Prop:=P=.tup (xs.map (·.1))∨(∃ l,P=.lst l)∧xs=[]
theorem O8 {xs:List (T × List Int)} {P:T} (h:leaf xs P) (hl:xs.length≤100) (h2:∀ x∈xs,PR x):qm [P] sto=some (.lst ((xs.map (·.2)).map ilT),sto):=by
  rcases h with rfl | ⟨⟨l,rfl⟩,rfl⟩
  · exact Rv hl h2
  · have pt:jq [.lst l] sto=some (.tup [],sto):=by first | exact rfl | simp [gk,j9,sIf,jg,sNew,jh,jt,sNx,dh,sGo,bx,lu,c7,cu,j4,dj,m7,jw,mOr,iw,mIf,mOp,mUn,bw,iu,ak,fj,ao,j6,dw,bh,hName,jz,dz,jo,ltT,leT,jx,jk,lq,jj,gb,mj,ni,iy,gw,bf,m8,jq,isTup]
    unfold qm
    simp [gk,j9,sIf,jg,sNew,jh,jt,sNx,dh,sGo,bx,lu,c7,cu,j4,dj,m7,jw,mOr,iw,mIf,mOp,mUn,bw,iu,ak,fj,ao,j6,dw,bh,hName,jz,dz,jo,ltT,leT,jx,jk,lq,jj,gb,mj,ni,iy,gw,bf,m8]
    generalize hF:qp 1 _ _ _ _ _ _=q
    have e:=w6 hF rwT (fun r=>ilT (pr r)) [] ⟨[some (.lst l,false)],sto⟩ [some (.lst l,false)] [] (by first | exact rfl | simp [gk,j9,sIf,jg,sNew,jh,jt,sNx,dh,sGo,bx,lu,c7,cu,j4,dj,m7,jw,mOr,iw,mIf,mOp,mUn,bw,iu,ak,fj,ao,j6,dw,bh,hName,jz,dz,jo,ltT,leT,jx,jk,lq,jj,gb,mj,ni,iy,gw,bf,m8,pt,lim]) rfl rfl rfl (by simp) (fun r hr' pre hp=>by cases hr')
    subst e
    simp
noncomputable def restV (U:List Str) (A:List At) (c:Cl) (rows:List (List Int)):Bool:=match c with
  | .i m=>Cg U A m rows
  | .b _=>false
theorem M4 {c:Cl} {xs:List (T × List Int)} {P N O:T} (u:Uni U) (hU:U.Nodup) (ok:∀ a∈A,Tp U a) (h:leaf xs P) (hb:∀ x∈xs,∀ n∈x.2,Af n=true) (hl:xs.length≤100) (h2:∀ x∈xs,PR x) :
    j5 [N,.tup [.lst (A.map atT),O],.tup [.str "rest",clT c,P]] sto=some (if restV U A c (xs.map (·.2)) then .lst [] else .non,sto):=by
  have ro:eqO (.str "rest") (.str "or")=some (.bl false):=by
    have:=Bm Gm Zj
    rw [show (("rest" : Str)==("or" : Str))=false by decide +kernel] at this; exact this
  have k1:lg [.tup [.str "rest",clT c,P],.str "or",.int 3] sto=some (.bl false,sto):=by simp [gk,j9,sIf,jg,sNew,jh,jt,sNx,dh,sGo,bx,lu,c7,cu,j4,dj,m7,jw,mOr,iw,mIf,mOp,mUn,bw,iu,ak,fj,ao,j6,dw,bh,hName,jz,dz,jo,ltT,leT,jx,jk,lq,jj,gb,mj,ni,iy,gw,bf,m8,lg,qw,isStr,rm,ro]
  have k2:lg [.tup [.str "rest",clT c,P],.str "cut",.int 5] sto=some (.bl false,sto):=by first | exact rfl | simp [gk,j9,sIf,jg,sNew,jh,jt,sNx,dh,sGo,bx,lu,c7,cu,j4,dj,m7,jw,mOr,iw,mIf,mOp,mUn,bw,iu,ak,fj,ao,j6,dw,bh,hName,jz,dz,jo,ltT,leT,jx,jk,lq,jj,gb,mj,ni,iy,gw,bf,m8,lg,qw]
  have k3:lg [.tup [.str "rest",clT c,P],.str "sum",.int 2] sto=some (.bl false,sto):=by first | exact rfl | simp [gk,j9,sIf,jg,sNew,jh,jt,sNx,dh,sGo,bx,lu,c7,cu,j4,dj,m7,jw,mOr,iw,mIf,mOp,mUn,bw,iu,ak,fj,ao,j6,dw,bh,hName,jz,dz,jo,ltT,leT,jx,jk,lq,jj,gb,mj,ni,iy,gw,bf,m8,lg,qw]
  have k4:lg [.tup [.str "rest",clT c,P],.str "rest",.int 3] sto=some (.bl true,sto):=by
    have e:=Bm Gm Gm
    rw [beq_self_eq_true] at e
    simp [gk,j9,sIf,jg,sNew,jh,jt,sNx,dh,sGo,bx,lu,c7,cu,j4,dj,m7,jw,mOr,iw,mIf,mOp,mUn,bw,iu,ak,fj,ao,j6,dw,bh,hName,jz,dz,jo,ltT,leT,jx,jk,lq,jj,gb,mj,ni,iy,gw,bf,m8,lg,qw,isStr,rm,e]
  have wh:=Kz (sto:=sto) (c:=c)
  have lr:=O8 (sto:=sto) h hl h2
  cases c with
  | b k =>
    simp only [clT,isI] at wh k1 k2 k3 k4 ⊢
    unfold restV
    simp [gk,j9,sIf,jg,sNew,jh,jt,sNx,dh,sGo,bx,lu,c7,cu,j4,dj,m7,jw,mOr,iw,mIf,mOp,mUn,bw,iu,ak,fj,ao,j6,dw,bh,hName,jz,dz,jo,ltT,leT,jx,jk,lq,jj,gb,mj,ni,iy,gw,bf,m8,j5,tu,k1,k2,k3,k4,rm,qy,wh]
  | i m =>
    have is:=a5t (sto:=sto) (m:=m) (rows:=xs.map (·.2)) u hU ok (fun l hl' n hn=>by
      obtain ⟨x,hx,rfl⟩:=List.mem_map.mp hl'
      exact hb x hx n hn) (by simpa using hl)
    simp only [clT,isI] at wh k1 k2 k3 k4 ⊢
    unfold restV
    rw [List.map_map] at lr is
    cases hs:Cg U A m (xs.map (·.2)) with
    | true =>
      rw [hs] at is
      simp [gk,j9,sIf,jg,sNew,jh,jt,sNx,dh,sGo,bx,lu,c7,cu,j4,dj,m7,jw,mOr,iw,mIf,mOp,mUn,bw,iu,ak,fj,ao,j6,dw,bh,hName,jz,dz,jo,ltT,leT,jx,jk,lq,jj,gb,mj,ni,iy,gw,bf,m8,j5,tu,k1,k2,k3,k4,rm,qy,G9,wh,W2,lr,is,hs]
    | false =>
      rw [hs] at is
      simp [gk,j9,sIf,jg,sNew,jh,jt,sNx,dh,sGo,bx,lu,c7,cu,j4,dj,m7,jw,mOr,iw,mIf,mOp,mUn,bw,iu,ak,fj,ao,j6,dw,bh,hName,jz,dz,jo,ltT,leT,jx,jk,lq,jj,gb,mj,ni,iy,gw,bf,m8,j5,tu,k1,k2,k3,k4,rm,qy,G9,wh,W2,lr,is,hs]
structure aby (U:List Str) (bs:List Bd) (A2:List At):Prop where
  bd:∀ r∈bs,r.1∈U
  bl:bs.length≤10
  ok:∀ a∈A2,Tp U a
  kd:∀ a∈A2,okA a.k
  len:A2.length≤100
theorem aby.all {bs:List Bd} {A2:List At} (h:aby U bs A2):∀ a∈bounds bs++A2,Tp U a:=fun a ha=>by
  rcases List.mem_append.mp ha with ha | ha -- here
  · exact Z7 h.bd a ha
  · exact h.ok a ha
end
end K
end
noncomputable section
set_option linter.all false
set_option maxRecDepth 100000
set_option maxHeartbeats 1000000
set_option autoImplicit false
namespace K
open C PySem
noncomputable def look (A:List At):List Int→Option (Sm × Int)
  | [n,t]=>if 0≤n∧0<t then (match A[n.toNat]? with
    | some a=>if a.k==("most" : Str) then some (a.s,t) else none
    | none=>none) else none
  | _=>none
noncomputable def fin (s:Sm):Bool:=s.2.isEmpty&&decide (0<s.1)
noncomputable def Fg (U:List Str) (A:List At) (rows:List (List Int)):Bool:=rows.all (fun l=>(look A l).isSome)&&fin (cN (rows.filterMap (look A)),canon U (cF (rows.filterMap (look A))))
noncomputable section
variable {U:List Str} {sto:List SO} {A:List At} {N L:T}
theorem Vi {l:List Int} (ok:∀ a∈A,Tp U a):nj [.lst (A.map atT),ilT l] sto=some (.bl (look A l).isSome,sto):=by
  match l with
  | [n,t] =>
    have ia:=Ld (sto:=sto) (n:=n) Es ok
    unfold isA at ia
    by_cases h:0≤n
    · cases hA:A[n.toNat]? with
      | none =>
        rw [hA] at ia
        simp [gk,j9,sIf,jg,sNew,jh,jt,sNx,dh,sGo,bx,lu,c7,cu,j4,dj,m7,jw,mOr,iw,mIf,mOp,mUn,bw,iu,ak,fj,ao,j6,dw,bh,hName,jz,dz,jo,ltT,leT,jx,jk,lq,jj,gb,mj,ni,iy,gw,bf,m8,nj,ilT,qw,rm,qy,ia,h,look,hA]
      | some a =>
        rw [hA] at ia
        dsimp only at ia
        by_cases hk:(a.k==("most" : Str))=true
        · rw [hk] at ia
          by_cases ht:0<t
          · simp [gk,j9,sIf,jg,sNew,jh,jt,sNx,dh,sGo,bx,lu,c7,cu,j4,dj,m7,jw,mOr,iw,mIf,mOp,mUn,bw,iu,ak,fj,ao,j6,dw,bh,hName,jz,dz,jo,ltT,leT,jx,jk,lq,jj,gb,mj,ni,iy,gw,bf,m8,nj,ilT,qw,rm,qy,ia,h,look,hA,hk,gtT,ht]
          · simp [gk,j9,sIf,jg,sNew,jh,jt,sNx,dh,sGo,bx,lu,c7,cu,j4,dj,m7,jw,mOr,iw,mIf,mOp,mUn,bw,iu,ak,fj,ao,j6,dw,bh,hName,jz,dz,jo,ltT,leT,jx,jk,lq,jj,gb,mj,ni,iy,gw,bf,m8,nj,ilT,qw,rm,qy,ia,h,look,hA,hk,gtT,ht]
        · have hf:(a.k==("most" : Str))=false:=by simpa using hk
          rw [hf] at ia
          simp [gk,j9,sIf,jg,sNew,jh,jt,sNx,dh,sGo,bx,lu,c7,cu,j4,dj,m7,jw,mOr,iw,mIf,mOp,mUn,bw,iu,ak,fj,ao,j6,dw,bh,hName,jz,dz,jo,ltT,leT,jx,jk,lq,jj,gb,mj,ni,iy,gw,bf,m8,nj,ilT,qw,rm,qy,ia,h,look,hA,hf]
    · simp [gk,j9,sIf,jg,sNew,jh,jt,sNx,dh,sGo,bx,lu,c7,cu,j4,dj,m7,jw,mOr,iw,mIf,mOp,mUn,bw,iu,ak,fj,ao,j6,dw,bh,hName,jz,dz,jo,ltT,leT,jx,jk,lq,jj,gb,mj,ni,iy,gw,bf,m8,nj,ilT,qw,rm,qy,ia,h,look]
  | []=>simp [gk,j9,sIf,jg,sNew,jh,jt,sNx,dh,sGo,bx,lu,c7,cu,j4,dj,m7,jw,mOr,iw,mIf,mOp,mUn,bw,iu,ak,fj,ao,j6,dw,bh,hName,jz,dz,jo,ltT,leT,jx,jk,lq,jj,gb,mj,ni,iy,gw,bf,m8,nj,ilT,qw,look]
  | [n]=>simp [gk,j9,sIf,jg,sNew,jh,jt,sNx,dh,sGo,bx,lu,c7,cu,j4,dj,m7,jw,mOr,iw,mIf,mOp,mUn,bw,iu,ak,fj,ao,j6,dw,bh,hName,jz,dz,jo,ltT,leT,jx,jk,lq,jj,gb,mj,ni,iy,gw,bf,m8,nj,ilT,qw,look]
  | a::b::c::r =>
    have hb:(((r.length:Int)+1+1+1)==2)=false:=beq_eq_false_iff_ne.mpr (by omega)
    simp [gk,j9,sIf,jg,sNew,jh,jt,sNx,dh,sGo,bx,lu,c7,cu,j4,dj,m7,jw,mOr,iw,mIf,mOp,mUn,bw,iu,ak,fj,ao,j6,dw,bh,hName,jz,dz,jo,ltT,leT,jx,jk,lq,jj,gb,mj,ni,iy,gw,bf,m8,nj,ilT,qw,look,hb]
theorem Fq {l:List Int} {g:Sm × Int} (h:look A l=some g):∃ n t a,l=[n,t]∧0≤n∧0<t∧A[n.toNat]? = some a∧(a.k==("most" : Str))=true∧g=(a.s,t):=by
  match l,h with
  | [n,t],h =>
    by_cases hc:0≤n∧0<t
    · cases hA:A[n.toNat]? with
      | none=>simp [look,hA] at h
      | some a =>
        by_cases hk:(a.k==("most" : Str))=true
        · simp only [look,hA,hk,hc.1,hc.2,and_self,if_true,Option.some.injEq] at h
          exact ⟨n,t,a,rfl,hc.1,hc.2,hA,hk,h.symm⟩
        · simp [look,hA,hk] at h
    · simp [look,hc] at h
noncomputable def a3w (A:List At) (rows:List (List Int)):Prop:=∀ l∈rows,∃ g,look A l=some g∧Af g.2=true
theorem item_last {n t:Int}:gq (ilT [n,t]) (.int (-1))=some (.int t):=rfl
theorem Uq {n t:Int}:gq (ilT [n,t]) (.int 0)=some (.int n):=rfl
theorem Wk {rows:List (List Int)} (u:Uni U) (ok:∀ a∈A,Tp U a) (hr:a3w A rows) (hl:rows.length≤100) :
    um [.lst (A.map atT),.lst (rows.map ilT)] sto=some (smT (cN (rows.filterMap (look A)),canon U (cF (rows.filterMap (look A)))),sto):=by
  have l1:rows.length<lim:=by show _<1000000; omega
  have allg:∀ {rs:List (List Int)},(∀ l∈rs,l∈rows)→∀ g∈rs.filterMap (look A),Vs U g.1:=fun {rs} hs g hg=>by
    obtain ⟨l,hl,e⟩:=List.mem_filterMap.mp hg
    obtain ⟨n,t,a,_,_,_,ha,_,rfl⟩:=Fq e
    exact (ok a (List.mem_of_getElem? ha)).2.1
  unfold um
  simp [gk,j9,sIf,jg,sNew,jh,jt,sNx,dh,sGo,bx,lu,c7,cu,j4,dj,m7,jw,mOr,iw,mIf,mOp,mUn,bw,iu,ak,fj,ao,j6,dw,bh,hName,jz,dz,jo,ltT,leT,jx,jk,lq,jj,gb,mj,ni,iy,gw,bf,m8,l1]
  generalize hF:forL _ _ _ _=r
  obtain ⟨s',rfl,P⟩:=Rg hF (fun ts s=>∃ (l done:List (List Int)) (o4 o5:Slot),ts=l.map ilT∧rows=done++l∧s=⟨[some (.lst (A.map atT),false),some (.lst (rows.map ilT),false),some (.int (cN (done.filterMap (look A))),false),some (.lst ((yj (done.filterMap (look A))).map pT),true),o4,o5],sto⟩)
    ⟨rows,[],none,none,rfl,rfl,rfl⟩ (by
      rintro t r s ⟨l,done,o4,o5,e1,e2,rfl⟩
      cases l with
      | nil=>cases e1
      | cons x l =>
        cases e1
        obtain ⟨g,hg,hb⟩:=hr x (by rw [e2]; simp)
        obtain ⟨n,t,a,rfl,h0,h1,ha,hk,rfl⟩:=Fq hg
        have hb:Af t=true:=hb
        have sa:=(ok a (List.mem_of_getElem? ha)).2.1
        have la:=Ku u sa
        have ii:=item_at h0 ha
        have hd:∀ l∈done,l∈rows:=fun y hy=>by rw [e2]; exact List.mem_append_left _ hy
        have lp:=Ir u (allg hd)
        have ld:(done.filterMap (look A)).length≤done.length:=List.length_filterMap_le _ _
        have lr:done.length≤rows.length:=by rw [e2,List.length_append]; omega
        have ls:a.s.2.length<lim:=by show _<1000000; omega
        have lt:(yj (done.filterMap (look A))).length+a.s.2.length<lim:=by show _<1000000; omega
        have ef:(done++[[n,t]]).filterMap (look A)=done.filterMap (look A)++[(a.s,t)]:=by rw [List.filterMap_append]; simp [hg]
        refine ⟨⟨[some (.lst (A.map atT),false),some (.lst (rows.map ilT),false),some (.int (cN (done.filterMap (look A))),false),some (.lst ((yj (done.filterMap (look A))).map pT),true),some (ilT [n,t],false),o5],sto⟩,⟨[some (.lst (A.map atT),false),some (.lst (rows.map ilT),false),some (.int (cN ((done++[[n,t]]).filterMap (look A))),false),some (.lst ((yj ((done++[[n,t]]).filterMap (look A))).map pT),true),some (ilT [n,t],false),some (smT a.s,false)],sto⟩,rfl,?_,l,done++[[n,t]],_,_,rfl,by rw [e2]; simp,rfl⟩
        have en:cN ((done++[[n,t]]).filterMap (look A))=cN (done.filterMap (look A))+t * a.s.1:=by
          rw [ef]; unfold cN; rw [List.map_append,List.sum_append]; simp
        have ep:yj ((done++[[n,t]]).filterMap (look A))=yj (done.filterMap (look A))++a.s.2.map fun p=>(p.1,t * p.2):=by
          rw [ef]; unfold yj; rw [List.flatMap_append]; simp
        rw [en,ep]
        simp [gk,j9,sIf,jg,sNew,jh,jt,sNx,dh,sGo,bx,lu,c7,cu,j4,dj,m7,jw,mOr,iw,mIf,mOp,mUn,bw,iu,ak,fj,ao,j6,dw,bh,hName,jz,dz,jo,ltT,leT,jx,jk,lq,jj,gb,mj,ni,iy,gw,bf,m8,Uq,ii,atT,qy,item_last,smT,rm,Ej,hb]
        generalize hG:qp 2 _ _ _ _ _ _=q
        have e:=w6 hG pT (fun p=>pT (p.1,t * p.2)) a.s.2 ⟨[some (.lst (A.map atT),false),some (.lst (rows.map ilT),false),some (.int (cN (done.filterMap (look A))+t * a.s.1),false),some (.lst ((yj (done.filterMap (look A))).map pT),true),some (ilT [n,t],false),some (smT a.s,false)],sto⟩ [some (.lst (A.map atT),false),some (.lst (rows.map ilT),false),some (.int (cN (done.filterMap (look A))+t * a.s.1),false),some (.lst ((yj (done.filterMap (look A))).map pT),true),some (ilT [n,t],false),some (smT a.s,false)] [some (ilT [n,t],false)] (by first | exact rfl | simp [gk,j9,sIf,jg,sNew,jh,jt,sNx,dh,sGo,bx,lu,c7,cu,j4,dj,m7,jw,mOr,iw,mIf,mOp,mUn,bw,iu,ak,fj,ao,j6,dw,bh,hName,jz,dz,jo,ltT,leT,jx,jk,lq,jj,gb,mj,ni,iy,gw,bf,m8,smT,qy,ls]) rfl rfl rfl (Nat.le_of_lt ls) (fun p hp pre hl=>by
          match pre,hl with
          | [p0,p1],_=>exact ⟨[some (.str p.1,false),some (.int p.2,false)],rfl,by first | exact rfl | simp [gk,j9,sIf,jg,sNew,jh,jt,sNx,dh,sGo,bx,lu,c7,cu,j4,dj,m7,jw,mOr,iw,mIf,mOp,mUn,bw,iu,ak,fj,ao,j6,dw,bh,hName,jz,dz,jo,ltT,leT,jx,jk,lq,jj,gb,mj,ni,iy,gw,bf,m8,pT],rfl,by first | exact rfl | simp [gk,j9,sIf,jg,sNew,jh,jt,sNx,dh,sGo,bx,lu,c7,cu,j4,dj,m7,jw,mOr,iw,mIf,mOp,mUn,bw,iu,ak,fj,ao,j6,dw,bh,hName,jz,dz,jo,ltT,leT,jx,jk,lq,jj,gb,mj,ni,iy,gw,bf,m8,item_last,Ej,hb,pT]⟩)
        subst e
        simp [gk,j9,sIf,jg,sNew,jh,jt,sNx,dh,sGo,bx,lu,c7,cu,j4,dj,m7,jw,mOr,iw,mIf,mOp,mUn,bw,iu,ak,fj,ao,j6,dw,bh,hName,jz,dz,jo,ltT,leT,jx,jk,lq,jj,gb,mj,ni,iy,gw,bf,m8,lt]
        rfl)
  obtain ⟨l,done,o4,o5,e1,e2,rfl⟩:=P
  cases l with
  | cons _ _=>cases e1
  | nil =>
    rw [List.append_nil] at e2
    subst e2
    have ag:=allg (rs:=rows) fun _ h=>h
    have lp:=Ir u ag
    have ld:(rows.filterMap (look A)).length≤rows.length:=List.length_filterMap_le _ _
    have so:=Yv (sto:=sto) (n:=cN (rows.filterMap (look A))) (l:=yj (rows.filterMap (look A))) u (.inl rfl) (by omega) (fun b hb=>by
      unfold ks yj at hb
      rw [List.map_flatMap] at hb
      obtain ⟨g,hg,h⟩:=List.mem_flatMap.mp hb
      refine (ag g hg).sub b ?_
      unfold ks
      simpa using h)
    simp [gk,j9,sIf,jg,sNew,jh,jt,sNx,dh,sGo,bx,lu,c7,cu,j4,dj,m7,jw,mOr,iw,mIf,mOp,mUn,bw,iu,ak,fj,ao,j6,dw,bh,hName,jz,dz,jo,ltT,leT,jx,jk,lq,jj,gb,mj,ni,iy,gw,bf,m8,so]
    rw [show tot (yj (rows.filterMap (look A)))=cF (rows.filterMap (look A)) from funext fun b=>Qy ag]
theorem a5z {s:Sm} {T1 T2:Prop} (u:Uni U) (h:Vs U s) {env:List Slot} {i:Nat} (hi:env[i]? = some (some (smT s,false))) :
    iw (jw (dj (mOp eqO (mOp gq (bw i) (ao (.int 1))) (iu (fun l=>some (.tup l)) fj))) (dj (mOp gtT (mOp gq (bw i) (ao (.int 0))) (ao (.int 0))))) ⟨env,sto⟩=some (.bl (fin s),⟨env,sto⟩):=by
  have en:=eq_nil u h.sub
  cases hs:s.2.isEmpty with
  | true =>
    rw [hs] at en
    simp [gk,j9,sIf,jg,sNew,jh,jt,sNx,dh,sGo,bx,lu,c7,cu,j4,dj,m7,jw,mOr,iw,mIf,mOp,mUn,bw,iu,ak,fj,ao,j6,dw,bh,hName,jz,dz,jo,ltT,leT,jx,jk,lq,jj,gb,mj,ni,iy,gw,bf,m8,hi,smT,qy,rm,en,gtT,fin,hs]
  | false =>
    rw [hs] at en
    simp [gk,j9,sIf,jg,sNew,jh,jt,sNx,dh,sGo,bx,lu,c7,cu,j4,dj,m7,jw,mOr,iw,mIf,mOp,mUn,bw,iu,ak,fj,ao,j6,dw,bh,hName,jz,dz,jo,ltT,leT,jx,jk,lq,jj,gb,mj,ni,iy,gw,bf,m8,hi,smT,qy,en,fin,hs]
theorem a84 {rows:List (List Int)} (u:Uni U) (hU:U.Nodup) (ok:∀ a∈A,Tp U a) (hb:∀ l∈rows,∀ n∈l,Af n=true) (hl:rows.length≤100) :
    Cj [.lst (A.map atT),.lst (rows.map ilT)] sto=some (.bl (Fg U A rows),sto):=by
  have l1:rows.length<lim:=by show _<1000000; omega
  have co:qp 1 [0] (hName 0) (jo (bw 1)) gw (dw nj (ak (bw 1) (ak (bw 0) fj))) ⟨[some (.lst (A.map atT),false),some (.lst (rows.map ilT),false),none],sto⟩=some (.lst (rows.map fun l=>T.bl (look A l).isSome),⟨[some (.lst (A.map atT),false),some (.lst (rows.map ilT),false),none],sto⟩):=by
    generalize hF:qp 1 _ _ _ _ _ _=q
    exact w6 hF ilT (fun l=>T.bl (look A l).isSome) rows ⟨[some (.lst (A.map atT),false),some (.lst (rows.map ilT),false),none],sto⟩ [some (.lst (A.map atT),false),some (.lst (rows.map ilT),false),none] [some (.lst (A.map atT),false)] (by first | exact rfl | simp [gk,j9,sIf,jg,sNew,jh,jt,sNx,dh,sGo,bx,lu,c7,cu,j4,dj,m7,jw,mOr,iw,mIf,mOp,mUn,bw,iu,ak,fj,ao,j6,dw,bh,hName,jz,dz,jo,ltT,leT,jx,jk,lq,jj,gb,mj,ni,iy,gw,bf,m8,l1]) rfl rfl rfl (Nat.le_of_lt l1) (fun l hl' pre hp=>by
      have:=Vi (sto:=sto) (l:=l) ok
      match pre,hp with
      | [p0],_=>exact ⟨[some (ilT l,false)],rfl,by first | exact rfl | simp [gk,j9,sIf,jg,sNew,jh,jt,sNx,dh,sGo,bx,lu,c7,cu,j4,dj,m7,jw,mOr,iw,mIf,mOp,mUn,bw,iu,ak,fj,ao,j6,dw,bh,hName,jz,dz,jo,ltT,leT,jx,jk,lq,jj,gb,mj,ni,iy,gw,bf,m8],rfl,by first | exact rfl | simp [gk,j9,sIf,jg,sNew,jh,jt,sNx,dh,sGo,bx,lu,c7,cu,j4,dj,m7,jw,mOr,iw,mIf,mOp,mUn,bw,iu,ak,fj,ao,j6,dw,bh,hName,jz,dz,jo,ltT,leT,jx,jk,lq,jj,gb,mj,ni,iy,gw,bf,m8,this]⟩)
  have ha:=all_map (fun l=>(look A l).isSome) rows
  unfold Cj gk
  rw [show ([T.lst (A.map atT),T.lst (rows.map ilT)].map (fun t=>some (t,false))++List.replicate (3 - [T.lst (A.map atT),T.lst (rows.map ilT)].length) none:List Slot)=[some (.lst (A.map atT),false),some (.lst (rows.map ilT),false),none] from rfl]
  by_cases h:(rows.all fun l=>(look A l).isSome)=true
  · rw [h] at ha
    have hr:a3w A rows:=fun l hl'=>by
      have:=List.all_eq_true.mp h l hl'
      obtain ⟨g,hg⟩:=Option.isSome_iff_exists.mp this
      obtain ⟨n,t,a,rfl,h0,h1,h2,h3,rfl⟩:=Fq hg
      exact ⟨_,hg,hb _ hl' t (by simp)⟩
    have ad:=Wk (sto:=sto) u ok hr hl
    rw [kj (s':=⟨[some (.lst (A.map atT),false),some (.lst (rows.map ilT),false),none],sto⟩) (by first | exact rfl | simp [gk,j9,sIf,jg,sNew,jh,jt,sNx,dh,sGo,bx,lu,c7,cu,j4,dj,m7,jw,mOr,iw,mIf,mOp,mUn,bw,iu,ak,fj,ao,j6,dw,bh,hName,jz,dz,jo,ltT,leT,jx,jk,lq,jj,gb,mj,ni,iy,gw,bf,m8,co,ha])]
    rw [kj (s':=⟨[some (.lst (A.map atT),false),some (.lst (rows.map ilT),false),some (smT (cN (rows.filterMap (look A)),canon U (cF (rows.filterMap (look A)))),false)],sto⟩) (by first | exact rfl | simp [gk,j9,sIf,jg,sNew,jh,jt,sNx,dh,sGo,bx,lu,c7,cu,j4,dj,m7,jw,mOr,iw,mIf,mOp,mUn,bw,iu,ak,fj,ao,j6,dw,bh,hName,jz,dz,jo,ltT,leT,jx,jk,lq,jj,gb,mj,ni,iy,gw,bf,m8,ad])]
    simp only [jh]
    rw [a5z (T1:=True) (T2:=True) (s:=(cN (rows.filterMap (look A)),canon U (cF (rows.filterMap (look A))))) u (M5 hU) rfl]
    simp [Fg,h]
  · have hf:(rows.all fun l=>(look A l).isSome)=false:=by simpa using h
    rw [hf] at ha
    simp [gk,j9,sIf,jg,sNew,jh,jt,sNx,dh,sGo,bx,lu,c7,cu,j4,dj,m7,jw,mOr,iw,mIf,mOp,mUn,bw,iu,ak,fj,ao,j6,dw,bh,hName,jz,dz,jo,ltT,leT,jx,jk,lq,jj,gb,mj,ni,iy,gw,bf,m8,co,ha,Fg,hf]
end
end K
end
noncomputable section
set_option linter.all false
set_option maxRecDepth 100000
set_option maxHeartbeats 1000000
set_option autoImplicit false
namespace K
open C PySem
noncomputable section
variable {U:List Str} {sto:List SO} {A:List At} {N L:T}
theorem eqW {a b:Str} {c:Bool} (h:(PyData.canLay0 (.str a)&&PyData.canLay0 (.str b)&&((a==b)==c))=true):eqO (.str a) (.str b)=some (.bl c):=by
  simp only [Bool.and_eq_true,beq_iff_eq] at h
  rw [Bm h.1.1 h.1.2,h.2]
theorem kind_len {l:List T} {k:Str} {n:Int} (h:((l.length:Int)==n)=false):lg [.tup l,.str k,.int n] sto=some (.bl false,sto):=by
  unfold lg
  simp [gk,j9,sIf,jg,sNew,jh,jt,sNx,dh,sGo,bx,lu,c7,cu,j4,dj,m7,jw,mOr,iw,mIf,mOp,mUn,bw,iu,ak,fj,ao,j6,dw,bh,hName,jz,dz,jo,ltT,leT,jx,jk,lq,jj,gb,mj,ni,iy,gw,bf,m8,qw,h]
theorem Lj {w k:Str} {r:List T} {n:Int} {c:Bool} (h:(((r.length:Int)+1)==n)=true) (e:eqO (.str w) (.str k)=some (.bl c)):lg [.tup (.str w::r),.str k,.int n] sto=some (.bl c,sto):=by
  unfold lg
  simp [gk,j9,sIf,jg,sNew,jh,jt,sNx,dh,sGo,bx,lu,c7,cu,j4,dj,m7,jw,mOr,iw,mIf,mOp,mUn,bw,iu,ak,fj,ao,j6,dw,bh,hName,jz,dz,jo,ltT,leT,jx,jk,lq,jj,gb,mj,ni,iy,gw,bf,m8,qw,h,isStr,rm,e]
theorem Om {n:Int}:su [.int n] sto=some (.bl true,sto):=Kz (c:=.i n)
theorem a4n:eqO (.str "or") (.str "or")=some (.bl true):=eqW (by decide +kernel)
theorem Wa:eqO (.str "sum") (.str "sum")=some (.bl true):=eqW (by decide +kernel)
theorem Xb:eqO (.str "cut") (.str "cut")=some (.bl true):=eqW (by decide +kernel)
theorem pw_sum {xs:List (T × List Int)} {P O:T} (u:Uni U) (hU:U.Nodup) (ok:∀ a∈A,Tp U a) (h:leaf xs P) (hb:∀ x∈xs,∀ n∈x.2,Af n=true) (hl:xs.length≤100) (h2:∀ x∈xs,PR x) :
    j5 [N,.tup [.lst (A.map atT),O],.tup [.str "sum",P]] sto=some (if Fg U A (xs.map (·.2)) then .lst [] else .non,sto):=by
  have k1:lg [.tup [.str "sum",P],.str "or",.int 3] sto=some (.bl false,sto):=kind_len (by simp)
  have k2:lg [.tup [.str "sum",P],.str "cut",.int 5] sto=some (.bl false,sto):=kind_len (by simp)
  have k3:lg [.tup [.str "sum",P],.str "sum",.int 2] sto=some (.bl true,sto):=Lj (by simp) Wa
  have k4:lg [.tup [.str "sum",P],.str "rest",.int 3] sto=some (.bl false,sto):=kind_len (by simp)
  have lr:=O8 (sto:=sto) h hl h2
  have is:=a84 (sto:=sto) (rows:=xs.map (·.2)) u hU ok (fun l hl' n hn=>by
    obtain ⟨x,hx,rfl⟩:=List.mem_map.mp hl'
    exact hb x hx n hn) (by simpa using hl)
  rw [List.map_map] at lr is
  cases hs:Fg U A (xs.map (·.2)) with
  | true =>
    rw [hs] at is
    simp [gk,j9,sIf,jg,sNew,jh,jt,sNx,dh,sGo,bx,lu,c7,cu,j4,dj,m7,jw,mOr,iw,mIf,mOp,mUn,bw,iu,ak,fj,ao,j6,dw,bh,hName,jz,dz,jo,ltT,leT,jx,jk,lq,jj,gb,mj,ni,iy,gw,bf,m8,j5,tu,k1,k2,k3,rm,qy,lr,is,hs]
  | false =>
    rw [hs] at is
    simp [gk,j9,sIf,jg,sNew,jh,jt,sNx,dh,sGo,bx,lu,c7,cu,j4,dj,m7,jw,mOr,iw,mIf,mOp,mUn,bw,iu,ak,fj,ao,j6,dw,bh,hName,jz,dz,jo,ltT,leT,jx,jk,lq,jj,gb,mj,ni,iy,gw,bf,m8,j5,tu,k1,k2,k3,k4,rm,qy,lr,is,hs]
theorem pw_or {n:Int} {b r:T} (h:oh [L,.int n,b] sto=some (r,sto)):j5 [N,L,.tup [.str "or",.int n,b]] sto=some (r,sto):=by
  have k1:lg [.tup [.str "or",.int n,b],.str "or",.int 3] sto=some (.bl true,sto):=Lj (by simp) a4n
  unfold j5
  simp [gk,j9,sIf,jg,sNew,jh,jt,sNx,dh,sGo,bx,lu,c7,cu,j4,dj,m7,jw,mOr,iw,mIf,mOp,mUn,bw,iu,ak,fj,ao,j6,dw,bh,hName,jz,dz,jo,ltT,leT,jx,jk,lq,jj,gb,mj,ni,iy,gw,bf,m8,tu,k1,qy,G9,Om,W2,h]
theorem a0i {n:Int} {b X:T} {O:List (List T)} (h:(decide (0≤n)&&decide (n<O.length))=false):oh [.tup [X,.lst (O.map T.tup)],.int n,b] sto=some (.non,sto):=by
  have ip:=Dr (sto:=sto) (f:=T.tup) (n:=n) (l:=O)
  rw [h] at ip
  unfold oh
  simp [gk,j9,sIf,jg,sNew,jh,jt,sNx,dh,sGo,bx,lu,c7,cu,j4,dj,m7,jw,mOr,iw,mIf,mOp,mUn,bw,iu,ak,fj,ao,j6,dw,bh,hName,jz,dz,jo,ltT,leT,jx,jk,lq,jj,gb,mj,ni,iy,gw,bf,m8,qy,ip]
theorem sl3 {a b c d e:T} {s:Sta} {i:Nat} (h:bw i s=some (.tup [a,b,c,d,e],s)):Gu (bw i) (Ov (ao (.int 3))) a4d s=some (.tup [d,e],s):=by
  unfold Gu
  rw [h]
  rfl
theorem pw_cut {a c d r:T} {k:Int} (h:qz [N,L,a,.int k,.tup [c,d]] sto=some (r,sto)):j5 [N,L,.tup [.str "cut",a,.int k,c,d]] sto=some (r,sto):=by
  have k1:lg [.tup [.str "cut",a,.int k,c,d],.str "or",.int 3] sto=some (.bl false,sto):=kind_len (by simp)
  have k2:lg [.tup [.str "cut",a,.int k,c,d],.str "cut",.int 5] sto=some (.bl true,sto):=Lj (by simp) Xb
  have s3:=sl3 (a:=.str "cut") (b:=a) (c:=.int k) (d:=c) (e:=d) (i:=3) (s:=⟨[some (N,false),some (L,false),some (.tup [.str "cut",a,.int k,c,d],false),some (.tup [.str "cut",a,.int k,c,d],false)],sto⟩) rfl
  unfold j5
  simp [gk,j9,sIf,jg,sNew,jh,jt,sNx,dh,sGo,bx,lu,c7,cu,j4,dj,m7,jw,mOr,iw,mIf,mOp,mUn,bw,iu,ak,fj,ao,j6,dw,bh,hName,jz,dz,jo,ltT,leT,jx,jk,lq,jj,gb,mj,ni,iy,gw,bf,m8,tu,k1,k2,qy,G9,Om,W2,s3,h]
theorem X7 {ns:List Str} {a:T} {q:Str→Bool} {k:Int} {P:T} {o5 o6 o7:Slot} (hl:ns.length≤100)
    (hq:∀ x∈ns,(jw (dj (iu isStr (ak (bw 1) fj))) (dj (mOp eqO (bw 0) (bw 1)))) ⟨[some (.str x,false),some (a,false)],sto⟩=some (q x,⟨[some (.str x,false),some (a,false)],sto⟩)) :
    qp 1 [2] (hName 0) (jo (bw 0)) (jw (dj (iu isStr (ak (bw 1) fj))) (dj (mOp eqO (bw 0) (bw 1)))) (bw 0) ⟨[some (.lst (ns.map T.str),false),some (L,false),some (a,false),some (.int k,false),some (P,false),o5,o6,o7],sto⟩
      = some (.lst ((ns.filter q).map T.str),⟨[some (.lst (ns.map T.str),false),some (L,false),some (a,false),some (.int k,false),some (P,false),o5,o6,o7],sto⟩):=by
  have lm:ns.length<lim:=by show _<1000000; omega
  generalize hF:qp 1 _ _ _ _ _ _=res
  exact Ng hF T.str T.str q ns ⟨[some (.lst (ns.map T.str),false),some (L,false),some (a,false),some (.int k,false),some (P,false),o5,o6,o7],sto⟩ _ [some (a,false)] (by simp [gk,j9,sIf,jg,sNew,jh,jt,sNx,dh,sGo,bx,lu,c7,cu,j4,dj,m7,jw,mOr,iw,mIf,mOp,mUn,bw,iu,ak,fj,ao,j6,dw,bh,hName,jz,dz,jo,ltT,leT,jx,jk,lq,jj,gb,mj,ni,iy,gw,bf,m8,lm]) rfl rfl rfl (Nat.le_of_lt lm) (fun x hx pre hp=>by
    match pre,hp with
    | [p0],_=>exact ⟨[some (.str x,false)],rfl,rfl,hq x hx,fun _=>rfl⟩)
theorem cut_str {x a:Str} (hx:okS x) (ha:okS a):(jw (dj (iu isStr (ak (bw 1) fj))) (dj (mOp eqO (bw 0) (bw 1)))) ⟨[some (.str x,false),some (.str a,false)],sto⟩=some (x==a,⟨[some (.str x,false),some (.str a,false)],sto⟩):=by
  simp [gk,j9,sIf,jg,sNew,jh,jt,sNx,dh,sGo,bx,lu,c7,cu,j4,dj,m7,jw,mOr,iw,mIf,mOp,mUn,bw,iu,ak,fj,ao,j6,dw,bh,hName,jz,dz,jo,ltT,leT,jx,jk,lq,jj,gb,mj,ni,iy,gw,bf,m8,isStr,Bm hx ha]
noncomputable def fA (a:At):Fm:=.atom a.k (smT a.s::a.more)
theorem a9p {a:At}:fmT (fA a)=atT a:=by simp [fA,fmT,atT]
theorem Lq:okA "most" := ⟨Es,by decide +kernel,by decide +kernel⟩
noncomputable def oT (ms:List Fm):T:=.tup (ms.map fmT)
theorem a5l {A:List T} {O:List (List Fm)} {n:Nat} {ms:List Fm} {ps:List T} (hn:O[n]? = some ms) (hl:¬ ps.length=ms.length) :
    oh [.tup [.lst A,.lst (O.map oT)],.int (n:Int),.tup ps] sto=some (.non,sto):=by
  have hlt:n<O.length:=(List.getElem?_eq_some_iff.mp hn).1
  have ip:=Dr (sto:=sto) (f:=oT) (n:=(n:Int)) (l:=O)
  rw [decide_eq_true (show (0:Int)≤(n:Int) by omega),decide_eq_true (show (n:Int)<(O.length:Int) by omega)] at ip
  have i0:gq (.lst (O.map oT)) (.int (n:Int))=some (.tup (ms.map fmT)):=by
    have:=Cm oT O hlt
    rw [(List.getElem?_eq_some_iff.mp hn).2] at this
    exact this
  have hne:(((ps.length:Int))==((ms.length:Int)))=false:=by rw [beq_eq_false_iff_ne]; omega
  unfold oh
  simp [gk,j9,sIf,jg,sNew,jh,jt,sNx,dh,sGo,bx,lu,c7,cu,j4,dj,m7,jw,mOr,iw,mIf,mOp,mUn,bw,iu,ak,fj,ao,j6,dw,bh,hName,jz,dz,jo,ltT,leT,jx,jk,lq,jj,gb,mj,ni,iy,gw,bf,m8,qy,ip,isTup,i0,tu,Ay,hne]
theorem a9a {A:List T} {O:List (List Fm)} {n:Nat} {ms:List Fm} {ps:List T} (hn:O[n]? = some ms) (hl:ps.length=ms.length) (lm:ms.length≤100) (ok:∀ f∈ms,okF f∧fsz f<900) (hA:A.length<1000) (hO:O.length<1000) :
    oh [.tup [.lst A,.lst (O.map oT)],.int (n:Int),.tup ps] sto=some (.lst ((ms.zip ps).map fun x=>.tup [.tup [.lst (A++flA x.1),.lst (O.map oT++flO x.1)],x.2]),sto):=by
  have hlt:n<O.length:=(List.getElem?_eq_some_iff.mp hn).1
  have ip:=Dr (sto:=sto) (f:=oT) (n:=(n:Int)) (l:=O)
  rw [decide_eq_true (show (0:Int)≤(n:Int) by omega),decide_eq_true (show (n:Int)<(O.length:Int) by omega)] at ip
  have i0:gq (.lst (O.map oT)) (.int (n:Int))=some (.tup (ms.map fmT)):=by
    have:=Cm oT O hlt
    rw [(List.getElem?_eq_some_iff.mp hn).2] at this
    exact this
  have hne:(((ps.length:Int))==((ms.length:Int)))=true:=by rw [beq_iff_eq]; omega
  obtain ⟨LL,hLL⟩:∃ LL:T,LL=.tup [.lst A,.lst (O.map oT)]:=⟨_,rfl⟩
  have l1:ms.length<lim:=by show _<1000000; omega
  have l2:ps.length<lim:=by show _<1000000; omega
  have co:qp 2 [0] (jz [0,1]) (a4c (bw 3) (bw 4)) gw (iu (fun l=>some (.tup l)) (ak (dw uh (ak (bw 2) (ak (iu (fun l=>some (.lst l)) (ak (bw 0) fj)) fj))) (ak (bw 1) fj))) ⟨[some (LL,false),some (.int (n:Int),false),some (.tup ps,false),some (.tup (ms.map fmT),false),some (.tup ps,false)],sto⟩
      = some (.lst ((ms.zip ps).map fun x=>.tup [.tup [.lst (A++flA x.1),.lst (O.map oT++flO x.1)],x.2]),⟨[some (LL,false),some (.int (n:Int),false),some (.tup ps,false),some (.tup (ms.map fmT),false),some (.tup ps,false)],sto⟩):=by
    have iz:a4c (bw 3) (bw 4) ⟨[some (LL,false),some (.int (n:Int),false),some (.tup ps,false),some (.tup (ms.map fmT),false),some (.tup ps,false)],sto⟩=some ((ms.zip ps).map (fun x:Fm × T=>T.tup [fmT x.1,x.2]),⟨[some (LL,false),some (.int (n:Int),false),some (.tup ps,false),some (.tup (ms.map fmT),false),some (.tup ps,false)],sto⟩):=by
      have e:a3i (ms.map fmT) ps=(ms.zip ps).map (fun x:Fm × T=>T.tup [fmT x.1,x.2]):=by
        unfold a3i
        rw [List.zip_map_left,List.map_map]
        rfl
      have h1:(ms.map fmT).length<lim∧ps.length<lim:=⟨by rw [List.length_map]; exact l1,l2⟩
      rw [← e]
      exact if_pos h1
    refine Bv (fun x:Fm × T=>T.tup [fmT x.1,x.2]) _ (ms.zip ps) (s1:=⟨[some (LL,false),some (.int (n:Int),false),some (.tup ps,false),some (.tup (ms.map fmT),false),some (.tup ps,false)],sto⟩) _ [some (LL,false)] iz rfl rfl rfl (by rw [List.length_zip]; show _≤1000000; omega) ?_
    intro x hx pre hp
    have hm:x.1∈ms:=(List.of_mem_zip (a:=x.1) (b:=x.2) hx).1
    obtain ⟨o1,o2⟩:=ok x.1 hm
    have la:=J8 (sto:=sto) (A:=A) (O:=O.map oT) (l:=[x.1]) (by simp only [Gw]; omega) ⟨o1,trivial⟩ (by omega) (by rw [List.length_map]; omega)
    simp only [List.map_cons,List.map_nil,Gz,Ba,List.append_nil] at la
    rw [← hLL] at la
    match pre,hp with
    | [p0,p1],_=>exact ⟨[some (fmT x.1,false),some (x.2,false)],rfl,Vf,rfl,zm (zc (zf0 (zc rfl (zc (zm (zc rfl rfl) rfl) rfl)) la) (zc rfl rfl)) rfl⟩
  rw [← hLL]
  have e0:gq LL (.int 1)=some (.lst (O.map oT)):=by rw [hLL]; exact qy
  unfold oh
  generalize hm:qp 2 [0] _ _ _ _=M1 at co ⊢
  simp [gk,j9,sIf,jg,sNew,jh,jt,sNx,dh,sGo,bx,lu,c7,cu,j4,dj,m7,jw,mOr,iw,mIf,mOp,mUn,bw,iu,ak,fj,ao,j6,dw,bh,hName,jz,dz,jo,ltT,leT,jx,jk,lq,jj,gb,mj,ni,iy,gw,bf,m8,e0,ip,isTup,i0,tu,Ay,hne,co]
theorem a4m {ns:List Str} {A O:List T} {k:Int} {p q:T} {b:Str} (hl:ns.length≤100) (ok:∀ x∈ns,okS x) (ob:okS b) (h1:ns.filter (fun x=>x==b)=[b]) (hA:A.length<1000) (hO:O.length<1000) :
    qz [.lst (ns.map T.str),.tup [.lst A,.lst O],.str b,.int k,.tup [p,q]] sto
      = some (.lst [.tup [.tup [.lst (A++[atT (aM b k)]),.lst O],p],.tup [.tup [.lst (A++[atT (aL b (k+1))]),.lst O],q]],sto):=by
  have cb:=X7 (L:=.tup [.lst A,.lst O]) (k:=k) (P:=.tup [p,q]) (o5:=none) (o6:=none) (o7:=none) hl (fun x hx=>cut_str (sto:=sto) (ok x hx) ob)
  rw [h1] at cb
  have la:=J8 (sto:=sto) (A:=A) (O:=O) (l:=[fA (aM b k)]) (by simp [Gw,fA,fsz]) ⟨Lq,trivial⟩ (by omega) (by omega)
  have lb:=J8 (sto:=sto) (A:=A) (O:=O) (l:=[fA (aL b (k+1))]) (by simp [Gw,fA,fsz]) ⟨Lq,trivial⟩ (by omega) (by omega)
  have e1:∀ a:At,Gz [fA a]=[atT a]:=fun a=>by simp [Gz,flA,fA,atT]
  have e2:∀ a:At,Ba [fA a]=[]:=fun a=>by simp [Ba,flO,fA]
  simp only [List.map_cons,List.map_nil,e1,e2,a9p,List.append_nil] at la lb
  have i0:gq (.lst [.str b]) (.int 0)=some (.str b):=rfl
  unfold qz
  generalize hm:qp 1 [2] _ _ _ _=M1 at cb ⊢
  simp [gk,j9,sIf,jg,sNew,jh,jt,sNx,dh,sGo,bx,lu,c7,cu,j4,dj,m7,jw,mOr,iw,mIf,mOp,mUn,bw,iu,ak,fj,ao,j6,dw,bh,hName,jz,dz,jo,ltT,leT,jx,jk,lq,jj,gb,mj,ni,iy,gw,bf,m8,cb,Ay,i0,Ze,Tc,la,lb,rm,qy]
end
end K
end
noncomputable section
set_option linter.all false
set_option maxRecDepth 100000
set_option maxHeartbeats 1000000
set_option autoImplicit false
namespace K
open C PySem
noncomputable def cT (c:T × T):T:=.tup [c.1,c.2]
noncomputable def wT (x:T × T × Nat):T:=.tup [x.1,x.2.1,.int (x.2.2:Int)]
noncomputable def dn (d:Nat) (cs:List (T × T)):List (T × T × Nat):=cs.map fun c=>(c.1,c.2,d)
mutual
inductive J (sto:List SO) (N:T):T→T→Nat→Bool→Nat→Prop where
  | none {L p:T} {d:Nat}:j5 [N,L,p] sto=some (.non,sto)→J sto N L p d false 1
  | many {L p:T} {d:Nat} {cs:List (T × T)} {b:Bool} {n:Nat}:d≤90→cs.length≤100→j5 [N,L,p] sto=some (.lst (cs.map cT),sto)→WJ sto N (dn (d+1) cs) b n→J sto N L p d b (n+1)
inductive WJ (sto:List SO) (N:T):List (T × T × Nat)→Bool→Nat→Prop where
  | nil:WJ sto N [] true 0
  | cons {L p:T} {d:Nat} {W:List (T × T × Nat)} {b b':Bool} {n n':Nat}:J sto N L p d b n→WJ sto N W b' n'→WJ sto N ((L,p,d)::W) (b&&b') (n+n')
end
noncomputable section
variable {U:List Str} {sto:List SO} {A:List At} {N L:T}
noncomputable abbrev lC:M Bool:=(dj (mOp gtT (yh 4) (ao (.int 0))))
noncomputable abbrev lB:S:=(j9 (Xp 4 5)
  (j9 (jg 6 (ao .non))
  (j9 (sIf (dj (mOp leT (mOp gq (bw 5) (ao (.int 2))) (ao (.int 90))))
  (jg 6 (dw j5 (ak (bw 3) (ak (mOp gq (bw 5) (ao (.int 0))) (ak (mOp gq (bw 5) (ao (.int 1))) fj)))))
  jt)
  (j9 (sIf (dj (mOp a3q (bw 6) (ao .non)))
  (jh (ao (.bl false)))
  jt)
  (cu 4 (qp 2 [5] (jz [0,1]) (jo (bw 6)) gw (iu (fun l=>some (.tup l)) (ak (bw 0) (ak (bw 1) (ak (mOp jk (mOp gq (bw 2) (ao (.int 2))) (ao (.int 1))) fj))))))))))
noncomputable abbrev sE (o0 o1 o2:Slot) (N:T) (W:List (T × T × Nat)) (o5 o6:Slot):List Slot:=[o0,o1,o2,some (N,false),some (.lst (W.reverse.map wT),true),o5,o6]
theorem a97:∀ {W:List (T × T × Nat)} {b:Bool} {n:Nat},WJ sto N W b n→W.length≤n
  | [],_,_,_=>Nat.zero_le _
  | x::W,_,_,.cons hj hr=>by
    have:=a97 hr
    rw [List.length_cons]
    cases hj <;> omega
theorem WJ.app:∀ {W V:List (T × T × Nat)} {b c:Bool} {n m:Nat},WJ sto N W b n→WJ sto N V c m→WJ sto N (W++V) (b&&c) (n+m)
  | [],V,_,c,_,m,.nil,h=>by rw [Bool.true_and,Nat.zero_add]; exact h
  | x::W,V,_,c,_,m,.cons hj hr,h=>by
    rw [Bool.and_assoc,Nat.add_assoc]
    exact .cons hj (WJ.app hr h)
theorem WJ.rev:∀ {W:List (T × T × Nat)} {b:Bool} {n:Nat},WJ sto N W b n→WJ sto N W.reverse b n
  | [],_,_,.nil=>.nil
  | (L,p,d)::W,_,_,.cons hj hr=>by
    rw [List.reverse_cons,Bool.and_comm,Nat.add_comm]
    have:=WJ.app (WJ.rev hr) (.cons hj .nil)
    rwa [Bool.and_true,Nat.add_zero] at this
theorem pop_at {o0 o1 o2 o5 o6:Slot} {x:T × T × Nat} {W:List (T × T × Nat)}:Xp 4 5 ⟨sE o0 o1 o2 N (x::W) o5 o6,sto⟩=some (.next,⟨sE o0 o1 o2 N W (some (wT x,false)) o6,sto⟩):=by
  simp [Xp,bh]
theorem a6b {o0 o1 o2:Slot} {L p:T} {d:Nat} {W:List (T × T × Nat)} {cs:List (T × T)} (hW:W.length<90000) (hc:cs.length≤100) :
    cu 4 (qp 2 [5] (jz [0,1]) (jo (bw 6)) gw (iu (fun l=>some (.tup l)) (ak (bw 0) (ak (bw 1) (ak (mOp jk (mOp gq (bw 2) (ao (.int 2))) (ao (.int 1))) fj))))) ⟨sE o0 o1 o2 N W (some (wT (L,p,d),false)) (some (.lst (cs.map cT),false)),sto⟩
      = some (.next,⟨sE o0 o1 o2 N ((dn (d+1) cs).reverse++W) (some (wT (L,p,d),false)) (some (.lst (cs.map cT),false)),sto⟩):=by
  have co:qp 2 [5] (jz [0,1]) (jo (bw 6)) gw (iu (fun l=>some (.tup l)) (ak (bw 0) (ak (bw 1) (ak (mOp jk (mOp gq (bw 2) (ao (.int 2))) (ao (.int 1))) fj)))) ⟨sE o0 o1 o2 N W (some (wT (L,p,d),false)) (some (.lst (cs.map cT),false)),sto⟩
      = some (.lst (cs.map fun c=>wT (c.1,c.2,d+1)),⟨sE o0 o1 o2 N W (some (wT (L,p,d),false)) (some (.lst (cs.map cT),false)),sto⟩):=by
    refine Bv cT _ cs (s1:=⟨sE o0 o1 o2 N W (some (wT (L,p,d),false)) (some (.lst (cs.map cT),false)),sto⟩) _ [some (wT (L,p,d),false)] (zis rfl (by show _<1000000; omega)) rfl rfl rfl (by show _≤1000000; omega) ?_
    intro c hc pre hp
    match pre,hp with
    | [p0,p1],_=>exact ⟨[some (c.1,false),some (c.2,false)],rfl,Vf,rfl,zm (zc rfl (zc rfl (zc (zo (zo rfl rfl G9) rfl rfl) rfl))) rfl⟩
  refine zex co rfl rfl ?_ rfl ?_
  · rw [List.length_map,List.length_map,List.length_reverse]; show _<1000000; omega
  · unfold sE dn
    rw [List.reverse_append,List.reverse_reverse,List.map_append,List.map_map]
    rfl
theorem Y4 {o0 o1 o2:Slot} {L p r:T} {d:Nat} {W:List (T × T × Nat)} (hd:d≤90) (h:j5 [N,L,p] sto=some (r,sto)) :
    (sIf (dj (mOp leT (mOp gq (bw 5) (ao (.int 2))) (ao (.int 90)))) (jg 6 (dw j5 (ak (bw 3) (ak (mOp gq (bw 5) (ao (.int 0))) (ak (mOp gq (bw 5) (ao (.int 1))) fj))))) jt) ⟨sE o0 o1 o2 N W (some (wT (L,p,d),false)) (some (.non,false)),sto⟩=some (.next,⟨sE o0 o1 o2 N W (some (wT (L,p,d),false)) (some (r,false)),sto⟩):=by
  have h90:(d:Int)≤90:=by omega
  have i2:gq (wT (L,p,d)) (.int 2)=some (.int (d:Int)):=rfl
  have i0:gq (wT (L,p,d)) (.int 0)=some L:=rfl
  have i1:gq (wT (L,p,d)) (.int 1)=some p:=rfl
  simp [gk,j9,sIf,jg,sNew,jh,jt,sNx,dh,sGo,bx,lu,c7,cu,j4,dj,m7,jw,mOr,iw,mIf,mOp,mUn,bw,iu,ak,fj,ao,j6,dw,bh,hName,jz,dz,jo,ltT,leT,jx,jk,lq,jj,gb,mj,ni,iy,gw,bf,m8,i2,h90,i0,i1,h]
theorem a4f {o0 o1 o2:Slot} {L p:T} {d:Nat} {W:List (T × T × Nat)} (hd:90<d) :
    (sIf (dj (mOp leT (mOp gq (bw 5) (ao (.int 2))) (ao (.int 90)))) (jg 6 (dw j5 (ak (bw 3) (ak (mOp gq (bw 5) (ao (.int 0))) (ak (mOp gq (bw 5) (ao (.int 1))) fj))))) jt) ⟨sE o0 o1 o2 N W (some (wT (L,p,d),false)) (some (.non,false)),sto⟩=some (.next,⟨sE o0 o1 o2 N W (some (wT (L,p,d),false)) (some (.non,false)),sto⟩):=by
  have h90:¬ (d:Int)≤90:=by omega
  have i2:gq (wT (L,p,d)) (.int 2)=some (.int (d:Int)):=rfl
  simp [gk,j9,sIf,jg,sNew,jh,jt,sNx,dh,sGo,bx,lu,c7,cu,j4,dj,m7,jw,mOr,iw,mIf,mOp,mUn,bw,iu,ak,fj,ao,j6,dw,bh,hName,jz,dz,jo,ltT,leT,jx,jk,lq,jj,gb,mj,ni,iy,gw,bf,m8,i2,h90]
theorem a5u {l:List T}:a3q (.lst l) .non=some (.bl false):=rfl
theorem a5d:a3q .non .non=some (.bl true):=rfl
theorem loop {o0 o1 o2:Slot}:∀ (fuel:Nat) (W:List (T × T × Nat)) (b:Bool) (n:Nat) (o5 o6:Slot),WJ sto N W b n→n<fuel→n<50000 →
    ∃ fl s',wk fuel lC lB ⟨sE o0 o1 o2 N W o5 o6,sto⟩=some (fl,s')∧s'.sto=sto∧(b=true→fl=.next)∧(b=false→fl=.ret (.bl false))
  | 0,W,b,n,o5,o6,_,h,_=>by omega
  | fuel+1,W,b,n,o5,o6,hW,hf,hn=>by
    have lw:=a97 hW
    cases hW with
    | nil =>
      refine ⟨.next,_,Kh (s1:=⟨sE o0 o1 o2 N [] o5 o6,sto⟩) (by simp [gk,j9,sIf,jg,sNew,jh,jt,sNx,dh,sGo,bx,lu,c7,cu,j4,dj,m7,jw,mOr,iw,mIf,mOp,mUn,bw,iu,ak,fj,ao,j6,dw,bh,hName,jz,dz,jo,ltT,leT,jx,jk,lq,jj,gb,mj,ni,iy,gw,bf,m8,yh,gtT]),rfl,fun _=>rfl,fun h=>by cases h⟩
    | @cons L p d W b1 b2 n1 n2 hj hr =>
      have c1:lC ⟨sE o0 o1 o2 N ((L,p,d)::W) o5 o6,sto⟩=some (true,⟨sE o0 o1 o2 N ((L,p,d)::W) o5 o6,sto⟩):=by
        simp [gk,j9,sIf,jg,sNew,jh,jt,sNx,dh,sGo,bx,lu,c7,cu,j4,dj,m7,jw,mOr,iw,mIf,mOp,mUn,bw,iu,ak,fj,ao,j6,dw,bh,hName,jz,dz,jo,ltT,leT,jx,jk,lq,jj,gb,mj,ni,iy,gw,bf,m8,yh,gtT]
        try omega
      have s0:(jg 6 (ao .non)) ⟨sE o0 o1 o2 N W (some (wT (L,p,d),false)) o6,sto⟩=some (.next,⟨sE o0 o1 o2 N W (some (wT (L,p,d),false)) (some (.non,false)),sto⟩):=rfl
      have bad:∀ {x:Slot},(sIf (dj (mOp leT (mOp gq (bw 5) (ao (.int 2))) (ao (.int 90)))) (jg 6 (dw j5 (ak (bw 3) (ak (mOp gq (bw 5) (ao (.int 0))) (ak (mOp gq (bw 5) (ao (.int 1))) fj))))) jt) ⟨sE o0 o1 o2 N W (some (wT (L,p,d),false)) (some (.non,false)),sto⟩=some (.next,⟨sE o0 o1 o2 N W (some (wT (L,p,d),false)) (some (.non,false)),sto⟩)→lB ⟨sE o0 o1 o2 N ((L,p,d)::W) o5 o6,sto⟩=some (.ret (.bl false),⟨sE o0 o1 o2 N W (some (wT (L,p,d),false)) (some (.non,false)),sto⟩):=fun {x} h=>by
        unfold lB
        rw [kj pop_at,kj s0,kj h]
        rw [M9 (s':=⟨sE o0 o1 o2 N W (some (wT (L,p,d),false)) (some (.non,false)),sto⟩) (v:=.bl false) (by simp [gk,j9,sIf,jg,sNew,jh,jt,sNx,dh,sGo,bx,lu,c7,cu,j4,dj,m7,jw,mOr,iw,mIf,mOp,mUn,bw,iu,ak,fj,ao,j6,dw,bh,hName,jz,dz,jo,ltT,leT,jx,jk,lq,jj,gb,mj,ni,iy,gw,bf,m8,a5d])]
      cases hj with
      | none hp =>
        by_cases hd:d≤90
        · exact ⟨_,_,J5 c1 (bad (x:=none) (Y4 hd hp)),rfl,(fun h=>by cases h),fun _=>rfl⟩
        · exact ⟨_,_,J5 c1 (bad (x:=none) (a4f (by omega))),rfl,(fun h=>by cases h),fun _=>rfl⟩
      | @many _ _ _ cs _ m hd hc hp hw =>
        have hz:=WJ.app hw.rev hr
        obtain ⟨fl,s',e,h1,h2,h3⟩:=loop (o0:=o0) (o1:=o1) (o2:=o2) fuel ((dn (d+1) cs).reverse++W) (b1&&b2) (m+n2) (some (wT (L,p,d),false)) (some (.lst (cs.map cT),false)) hz (by omega) (by omega)
        refine ⟨fl,s',?_,h1,h2,h3⟩
        rw [Bw c1 (s2:=⟨sE o0 o1 o2 N ((dn (d+1) cs).reverse++W) (some (wT (L,p,d),false)) (some (.lst (cs.map cT),false)),sto⟩) ?_,e]
        unfold lB
        simp only [List.length_cons] at lw
        rw [kj pop_at,kj s0,kj (Y4 hd hp)]
        rw [kj (s':=⟨sE o0 o1 o2 N W (some (wT (L,p,d),false)) (some (.lst (cs.map cT),false)),sto⟩) (by simp [gk,j9,sIf,jg,sNew,jh,jt,sNx,dh,sGo,bx,lu,c7,cu,j4,dj,m7,jw,mOr,iw,mIf,mOp,mUn,bw,iu,ak,fj,ao,j6,dw,bh,hName,jz,dz,jo,ltT,leT,jx,jk,lq,jj,gb,mj,ni,iy,gw,bf,m8,a5u]),a6b (by omega) hc]
end
noncomputable section
variable {sto:List SO} {bs:List Bd}
theorem a5x {f:List Fm} {Q:T} {b:Bool} {n:Nat} (hf:Ss f) (hz:Gw f<1000) (h3:bs.length≤100)
    (j:J sto (.lst ((bs.map (·.1)).map T.str)) (.tup [.lst ((bounds bs).map atT++Gz f),.lst ([]++Ba f)]) Q 1 b n) (hn:n<1000) :
    qu [.lst (bs.map bdT),.lst (f.map fmT),Q] sto=some (.bl b,sto):=by
  have l1:bs.length<lim:=by show _<1000000; omega
  have fl:=Ip (sto:=sto) h3
  have bl:=Ao bs
  have li:=J8 (sto:=sto) (A:=(bounds bs).map atT) (O:=[]) hz hf (by rw [List.length_map]; omega) (by simp)
  have co:qp 3 [] (jz [0,1,2]) (jo (bw 0)) gw (bw 0) ⟨[some (.lst (bs.map bdT),false),some (.lst (f.map fmT),false),some (Q,false),none,none,none,none],sto⟩=some (.lst ((bs.map (·.1)).map T.str),⟨[some (.lst (bs.map bdT),false),some (.lst (f.map fmT),false),some (Q,false),none,none,none,none],sto⟩):=by
    rw [List.map_map]
    generalize hF:qp 3 _ _ _ _ _ _=q
    exact w6 hF bdT (fun r=>T.str r.1) bs ⟨[some (.lst (bs.map bdT),false),some (.lst (f.map fmT),false),some (Q,false),none,none,none,none],sto⟩ [some (.lst (bs.map bdT),false),some (.lst (f.map fmT),false),some (Q,false),none,none,none,none] [] (by first | exact rfl | simp [gk,j9,sIf,jg,sNew,jh,jt,sNx,dh,sGo,bx,lu,c7,cu,j4,dj,m7,jw,mOr,iw,mIf,mOp,mUn,bw,iu,ak,fj,ao,j6,dw,bh,hName,jz,dz,jo,ltT,leT,jx,jk,lq,jj,gb,mj,ni,iy,gw,bf,m8,l1]) rfl rfl rfl (Nat.le_of_lt l1) (fun r hr pre hp=>by
      match pre,hp with
      | [p0,p1,p2],_=>exact ⟨[some (.str r.1,false),some (.int r.2.1,false),some (.int r.2.2,false)],rfl,by rw [bdT,a1k]; rfl,rfl,by first | exact rfl | simp [gk,j9,sIf,jg,sNew,jh,jt,sNx,dh,sGo,bx,lu,c7,cu,j4,dj,m7,jw,mOr,iw,mIf,mOp,mUn,bw,iu,ak,fj,ao,j6,dw,bh,hName,jz,dz,jo,ltT,leT,jx,jk,lq,jj,gb,mj,ni,iy,gw,bf,m8]⟩)
  obtain ⟨fl',s',e,h1,h2,h3'⟩:=loop (sto:=sto) (N:=.lst ((bs.map (·.1)).map T.str)) (o0:=some (.lst (bs.map bdT),false)) (o1:=some (.lst (f.map fmT),false)) (o2:=some (Q,false)) 1000 [(.tup [.lst ((bounds bs).map atT++Gz f),.lst ([]++Ba f)],Q,1)] (b&&true) (n+0) none none (.cons j .nil) (by omega) (by omega)
  unfold qu gk
  rw [show ([T.lst (bs.map bdT),.lst (f.map fmT),Q].map (fun t=>some (t,false))++List.replicate (7 - [T.lst (bs.map bdT),.lst (f.map fmT),Q].length) none:List Slot)=[some (.lst (bs.map bdT),false),some (.lst (f.map fmT),false),some (Q,false),none,none,none,none] from rfl]
  rw [kj (s':=⟨[some (.lst (bs.map bdT),false),some (.lst (f.map fmT),false),some (Q,false),some (.lst ((bs.map (·.1)).map T.str),false),none,none,none],sto⟩) (by unfold jg; rw [co]; rfl)]
  rw [kj (s':=⟨sE (some (.lst (bs.map bdT),false)) (some (.lst (f.map fmT),false)) (some (Q,false)) (.lst ((bs.map (·.1)).map T.str)) [(.tup [.lst ((bounds bs).map atT++Gz f),.lst ([]++Ba f)],Q,1)] none none,sto⟩) (by
    generalize T.lst ((bs.map (·.1)).map T.str)=NN'
    simp [gk,j9,sIf,jg,sNew,jh,jt,sNx,dh,sGo,bx,lu,c7,cu,j4,dj,m7,jw,mOr,iw,mIf,mOp,mUn,bw,iu,ak,fj,ao,j6,dw,bh,hName,jz,dz,jo,ltT,leT,jx,jk,lq,jj,gb,mj,ni,iy,gw,bf,m8,fl,li,wT])]
  cases b with
  | true =>
    have z:=h2 rfl
    subst z
    rw [kj e]
    show some (T.bl true,s'.sto)=_
    rw [h1]
  | false =>
    have z:=h3' rfl
    subst z
    rw [M9 e]
    show some (T.bl false,s'.sto)=_
    rw [h1]
end
end K
end
noncomputable section
set_option linter.all false
set_option maxRecDepth 100000
set_option maxHeartbeats 1000000
set_option autoImplicit false
namespace K
open C PySem
noncomputable def val (B:Str→Int) (s:Sm):Int:=s.1+(U4.map fun b=>gt s.2 b * B b).sum
structure TrA (B:Str→Int) (a:At):Prop where
  m:(a.k==("most" : Str))=true→val B a.s≤0
  r:(a.k==("rest" : Str))=true→val B a.s%fac a=0
theorem nd4:U4.Nodup:=by decide +kernel
noncomputable section
variable {B:Str→Int} {A:List At}
theorem Vz {f:Str→Int}:(U4.map f).sum=f "@p" + (f "x" + (f "y" + (f "z1" + 0))):=by unfold U4; simp only [List.map_cons,List.map_nil,List.sum_cons,List.sum_nil]
theorem lin:∀ gs:List (Sm × Int),(gs.map fun g=>g.2 * val B g.1).sum=cN gs+(U4.map fun b=>cF gs b * B b).sum
  | []=>by unfold cN cF; rw [Vz]; simp
  | g::gs=>by
    have ih:=lin gs
    rw [List.map_cons,List.sum_cons,ih]
    have e1:cN (g::gs)=g.2 * g.1.1+cN gs:=by unfold cN; rw [List.map_cons,List.sum_cons]
    have e2:∀ b,cF (g::gs) b=g.2 * gt g.1.2 b+cF gs b:=fun b=>by unfold cF; rw [List.map_cons,List.sum_cons]
    unfold val
    rw [Vz,Vz,Vz,e1,e2,e2,e2,e2]
    simp only [Int.mul_add,Int.add_mul,Int.mul_assoc,Int.mul_zero]
    omega
theorem Nb {f:Str→Int} (h:(canon U4 f).isEmpty=true):∀ b∈U4,f b=0:=fun b hb=>by
  have e:canon U4 f=[]:=List.isEmpty_iff.mp h
  unfold canon at e
  have e2:=List.map_eq_nil_iff.mp e
  have:=List.filter_eq_nil_iff.mp e2 b hb
  simpa using this
theorem a2o {f:Str→Int} (h:∀ b∈U4,f b=0):(U4.map fun b=>f b * B b).sum=0:=by
  rw [Vz,h "@p" (by decide +kernel),h "x" (by decide +kernel),h "y" (by decide +kernel),h "z1" (by decide +kernel)]
  simp
theorem a8a {gs:List (Sm × Int)}:(∀ g∈gs,g.2 * val B g.1≤0)→(gs.map fun g=>g.2 * val B g.1).sum≤0:=by
  induction gs with
  | nil=>intro _; simp
  | cons g gs ih =>
    intro h
    rw [List.map_cons,List.sum_cons] -- here
    have:=h g List.mem_cons_self
    have:=ih fun x hx=>h x (List.mem_cons_of_mem _ hx)
    omega
theorem a4j {m:Int} {gs:List (Sm × Int)}:(∀ g∈gs,m ∣ g.2 * val B g.1)→m ∣ (gs.map fun g=>g.2 * val B g.1).sum:=by
  induction gs with
  | nil=>intro _; exact Int.dvd_zero _
  | cons g gs ih =>
    intro h
    rw [List.map_cons,List.sum_cons] -- here
    exact Int.dvd_add (h g List.mem_cons_self) (ih fun x hx=>h x (List.mem_cons_of_mem _ hx))
theorem Yl {rows:List (List Int)} (h:Fg U4 A rows=true) (t:∀ a∈A,TrA B a):False:=by
  unfold Fg fin at h
  rw [Bool.and_eq_true,Bool.and_eq_true,decide_eq_true_eq] at h
  obtain ⟨_,h2,h3⟩:=h
  have z:=a2o (B:=B) (Nb h2)
  have l:=lin (B:=B) (rows.filterMap (look A))
  have s:=a8a (B:=B) (gs:=rows.filterMap (look A)) fun g hg=>by
    obtain ⟨r,_,e⟩:=List.mem_filterMap.mp hg
    obtain ⟨n,t',a,_,_,ht,ha,hk,rfl⟩:=Fq e
    have:=(t a (List.mem_of_getElem? ha)).m hk
    exact Int.mul_nonpos_of_nonneg_of_nonpos (Int.le_of_lt ht) this
  have h3':0<cN (rows.filterMap (look A)):=h3
  omega
theorem Vp {rows:List (List Int)} {m:Int} (h:Cg U4 A m rows=true) (t:∀ a∈A,TrA B a):False:=by
  unfold Cg a9s at h
  rw [Bool.and_eq_true,Bool.and_eq_true,Bool.and_eq_true,decide_eq_true_eq] at h
  obtain ⟨hm,h1,h2,h3⟩:=h
  have l:=lin (B:=B) (rows.map (gv A))
  have d1:=a4j (B:=B) (m:=m) (gs:=rows.map (gv A)) fun g hg=>by
    obtain ⟨r,hr,rfl⟩:=List.mem_map.mp hg
    have ro:=List.all_eq_true.mp h1 r hr
    match r,ro with
    | [n,v],ro =>
      simp only [Ac,Bool.and_eq_true] at ro
      obtain ⟨r1,_,r3⟩:=ro
      obtain ⟨_,e1,e2⟩:=Bc r1
      have tr:=(t (sA A n) (List.mem_of_getElem? e1)).r e2
      have r3':v * fac (sA A n)%m=0:=by simpa using r3
      show m ∣ v * val B (sA A n).s
      obtain ⟨q,hq⟩:=Int.dvd_of_emod_eq_zero tr
      rw [hq,← Int.mul_assoc]
      exact Int.dvd_mul_of_dvd_left (Int.dvd_of_emod_eq_zero r3')
    | [n,o,v],ro =>
      simp only [Ac,Bool.and_eq_true] at ro
      obtain ⟨r1,r2,r3,_⟩:=ro
      obtain ⟨_,e1,e2⟩:=Bc r1
      obtain ⟨_,f1,f2⟩:=Bc r2
      have t1:=(t (sA A n) (List.mem_of_getElem? e1)).m e2
      have t2:=(t (sA A o) (List.mem_of_getElem? f1)).m f2
      unfold zrU at r3
      rw [Bool.and_eq_true] at r3
      have z:=Nb r3.2
      have z1:(sA A n).s.1+(sA A o).s.1=0:=by simpa using r3.1
      have e:val B (sA A n).s+val B (sA A o).s=0:=by
        unfold val
        rw [Vz,Vz]
        have z2:=z "@p" (by decide +kernel)
        have z3:=z "x" (by decide +kernel)
        have z4:=z "y" (by decide +kernel)
        have z5:=z "z1" (by decide +kernel)
        have g2:gt (sA A o).s.2 "@p" = -(gt (sA A n).s.2 "@p"):=by omega
        have g3:gt (sA A o).s.2 "x" = -(gt (sA A n).s.2 "x"):=by omega
        have g4:gt (sA A o).s.2 "y" = -(gt (sA A n).s.2 "y"):=by omega
        have g5:gt (sA A o).s.2 "z1" = -(gt (sA A n).s.2 "z1"):=by omega
        rw [g2,g3,g4,g5]
        simp only [Int.neg_mul]
        omega
      have v0:val B (sA A n).s=0:=by omega
      show m ∣ v * val B (sA A n).s
      rw [v0,Int.mul_zero]
      exact Int.dvd_zero _
    | [],ro=>simp [Ac] at ro
    | [_],ro=>simp [Ac] at ro
    | _::_::_::_::_,ro=>simp [Ac] at ro
  have d2:m ∣ (U4.map fun b=>cF (rows.map (gv A)) b * B b).sum:=by
    have each:∀ b∈U4,m ∣ cF (rows.map (gv A)) b * B b:=fun b hb=>by
      by_cases hz:cF (rows.map (gv A)) b=0
      · rw [hz,Int.zero_mul]; exact Int.dvd_zero _
      · have:=List.all_eq_true.mp h3 (b,cF (rows.map (gv A)) b) (List.mem_map.mpr ⟨b,List.mem_filter.mpr ⟨hb,by simpa using hz⟩,rfl⟩)
        have h':cF (rows.map (gv A)) b%m=0:=by simpa using this
        exact Int.dvd_mul_of_dvd_left (Int.dvd_of_emod_eq_zero h')
    rw [Vz]
    exact Int.dvd_add (each "@p" (by decide +kernel)) (Int.dvd_add (each "x" (by decide +kernel)) (Int.dvd_add (each "y" (by decide +kernel)) (Int.dvd_add (each "z1" (by decide +kernel)) (Int.dvd_zero _))))
  rw [l] at d1
  have d3:m ∣ cN (rows.map (gv A)):=(Int.dvd_iff_dvd_of_dvd_add d1).mpr d2
  have:cN (rows.map (gv A))%m=0:=Int.emod_eq_zero_of_dvd d3
  have h2':(cN (rows.map (gv A))%m != 0)=true:=h2
  rw [this] at h2'
  cases h2'
end
end K
end
noncomputable section
set_option linter.all false
set_option maxRecDepth 100000
set_option maxHeartbeats 1000000
set_option autoImplicit false
namespace K
open C PySem
inductive Fo where
  | at (a:At) | no | yes
noncomputable def foF:Fo→Fm
  | .at a=>fA a
  | .no=>.any []
  | .yes=>.all []
noncomputable def Zg (a:At):Prop:=Tp U4 a∧okA a.k
noncomputable def a8j:Fo→Prop
  | .at a=>Zg a
  | _=>True
noncomputable def TrF (B:Str→Int):Fo→Prop
  | .at a=>TrA B a
  | .no=>False
  | .yes=>True
noncomputable def foA:Fo→List At
  | .at a=>[a]
  | _=>[]
noncomputable def foO:Fo→List (List Fo)
  | .no=>[[]]
  | _=>[]
noncomputable def oF (O:List (List Fo)):List (List Fm):=O.map fun ms=>ms.map foF
noncomputable def LT (A:List At) (O:List (List Fo)):T:=.tup [.lst (A.map atT),.lst ((oF O).map oT)]
theorem ace {f:Fo}:flA (foF f)=(foA f).map atT:=by
  cases f with
  | «at» a=>simp [foF,fA,flA,foA,atT]
  | no=>simp [foF,flA,foA]
  | yes=>simp [foF,flA,Gz,foA]
theorem acj {f:Fo}:flO (foF f)=(oF (foO f)).map oT:=by
  cases f with
  | «at» a=>simp [foF,fA,flO,foO,oF]
  | no=>simp [foF,flO,foO,oF,oT]
  | yes=>simp [foF,flO,Ba,foO,oF]
theorem aa5 {f:Fo} (h:a8j f):okF (foF f)∧fsz (foF f)<900:=by
  cases f with
  | «at» a=>exact ⟨h.2,by simp [foF,fA,fsz]⟩
  | no=>exact ⟨by simp [foF,okF],by simp [foF,fsz]⟩
  | yes=>exact ⟨by simp [foF,okF,Ss],by simp [foF,fsz,Gw]⟩
theorem a9c {A:List At} {O:List (List Fo)} {f:Fo}:(.tup [.lst (A.map atT++flA (foF f)),.lst ((oF O).map oT++flO (foF f))]:T)=LT (A++foA f) (O++foO f):=by
  unfold LT
  rw [ace,acj,List.map_append]
  unfold oF
  rw [List.map_append,List.map_append]
inductive P where
  | sum (rows:List (List Int)) | rest (m:Int) (rows:List (List Int)) | cut (b:Str) (k:Int) (p q:P) | orp (n:Nat) (ps:List P)
noncomputable def rsT (rows:List (List Int)):T:=.tup (rows.map ilT)
mutual
noncomputable def paT:P→T
  | .sum rows=>.tup [.str "sum",rsT rows]
  | .rest m rows=>.tup [.str "rest",.int m,rsT rows]
  | .cut b k p q=>.tup [.str "cut",.str b,.int k,paT p,paT q]
  | .orp n ps=>.tup [.str "or",.int (n:Int),.tup (a7w ps)]
noncomputable def a7w:List P→List T
  | []=>[]
  | p::ps=>paT p::a7w ps
end
mutual
noncomputable def sz:P→Nat
  | .sum _=>1
  | .rest _ _=>1
  | .cut _ _ p q=>1+sz p+sz q
  | .orp _ ps=>1+szs ps
noncomputable def szs:List P→Nat
  | []=>0
  | p::ps=>sz p+szs ps
end
mutual
noncomputable def dep:P→Nat
  | .sum _=>0
  | .rest _ _=>0
  | .cut _ _ p q=>1+max (dep p) (dep q)
  | .orp _ ps=>1+deps ps
noncomputable def deps:List P→Nat
  | []=>0
  | p::ps=>max (dep p) (deps ps)
end
noncomputable def a3s (rows:List (List Int)):Prop:=rows.length≤100∧∀ l∈rows,l.length≤100∧∀ n∈l,Af n=true
mutual
noncomputable def okP (ns:List Str):P→Prop
  | .sum rows=>a3s rows
  | .rest _ rows=>a3s rows
  | .cut b _ p q=>b∈ns∧okP ns p∧okP ns q
  | .orp _ ps=>ps.length≤100∧a2q ns ps
noncomputable def a2q (ns:List Str):List P→Prop
  | []=>True
  | p::ps=>okP ns p∧a2q ns ps
end
theorem Ls:∀ l:List P,a7w l=l.map paT
  | []=>rfl
  | p::l=>by rw [a7w,Ls l]; rfl
theorem a8s {p:P}:1≤sz p:=by cases p <;> simp only [sz] <;> omega
structure Sat (B:Str→Int) (A:List At) (O:List (List Fo)):Prop where
  a:∀ a∈A,TrA B a
  o:∀ ms∈O,∃ f∈ms,TrF B f
structure LOk (A:List At) (O:List (List Fo)):Prop where
  a:∀ a∈A,Zg a
  o:∀ ms∈O,ms.length≤100∧∀ f∈ms,a8j f
noncomputable section
variable {B:Str→Int} {A:List At} {O:List (List Fo)} {sto:List SO} {ns:List Str}
theorem LOk.add {f:Fo} (h:LOk A O) (hf:a8j f):LOk (A++foA f) (O++foO f):=by
  cases f with
  | «at» a =>
    refine ⟨fun x hx=>?_,by simpa [foO] using h.o⟩
    rcases List.mem_append.mp hx with z | z
    · exact h.a x z
    · rw [show foA (.at a)=[a] from rfl,List.mem_singleton] at z; subst z; exact hf
  | no =>
    refine ⟨by simpa [foA] using h.a,fun ms hm=>?_⟩
    rcases List.mem_append.mp hm with z | z
    · exact h.o ms z
    · rw [show foO .no=[[]] from rfl,List.mem_singleton] at z; subst z; exact ⟨by simp,fun f hf=>by cases hf⟩
  | yes=>simpa [foA,foO] using h
theorem Sat.add {f:Fo} (h:Sat B A O) (hf:TrF B f):Sat B (A++foA f) (O++foO f):=by
  cases f with
  | «at» a =>
    refine ⟨fun x hx=>?_,by simpa [foO] using h.o⟩
    rcases List.mem_append.mp hx with z | z
    · exact h.a x z
    · rw [show foA (.at a)=[a] from rfl,List.mem_singleton] at z; subst z; exact hf
  | no=>exact hf.elim
  | yes=>simpa [foA,foO] using h
theorem abt {b:Str} {n v:Int} (hb:b∈U4):val B (n,[(b,v)])=n+v * B b:=by
  unfold val
  simp only [U4,List.mem_cons,List.not_mem_nil,or_false] at hb
  have n1:¬ (Str.ofString "@p" = Str.ofString "x"):=by decide +kernel
  have n2:¬ (Str.ofString "@p" = Str.ofString "y"):=by decide +kernel
  have n3:¬ (Str.ofString "@p" = Str.ofString "z1"):=by decide +kernel
  have n4:¬ (Str.ofString "x" = Str.ofString "y"):=by decide +kernel
  have n5:¬ (Str.ofString "x" = Str.ofString "z1"):=by decide +kernel
  have n6:¬ (Str.ofString "y" = Str.ofString "z1"):=by decide +kernel
  rw [Vz]
  rcases hb with rfl | rfl | rfl | rfl <;> simp [gt,n1,n2,n3,n4,n5,n6,Ne.symm n1,Ne.symm n2,Ne.symm n3,Ne.symm n4,Ne.symm n5,Ne.symm n6]
theorem a7t {b:Str} {k:Int} (hb:b∈U4) (h:B b≤k):TrA B (aM b k):=⟨fun _=>by
  unfold aM; dsimp only; rw [abt hb]; omega,fun h'=>by
  have:(("most" : Str)==("rest" : Str))=false:=by decide +kernel
  rw [show (aM b k).k = "most" from rfl,this] at h'; cases h'⟩
theorem a78 {b:Str} {k:Int} (hb:b∈U4) (h:k≤B b):TrA B (aL b k):=⟨fun _=>by
  unfold aL; dsimp only; rw [abt hb]; omega,fun h'=>by
  have:(("most" : Str)==("rest" : Str))=false:=by decide +kernel
  rw [show (aL b k).k = "most" from rfl,this] at h'; cases h'⟩
theorem Uh {b:Str} {n v:Int} (hb:b∈U4):Vs U4 (n,[(b,v)]):=⟨by simp [ks],fun x hx=>by simp [ks] at hx; rw [hx]; exact hb⟩
theorem N5:(("most" : Str)==("rest" : Str))=false:=by decide +kernel
theorem Ey {s:Sm} (h:Vs U4 s):Zg ⟨"most",s,[]⟩:=⟨⟨Es,h,fun h'=>by rw [N5] at h'; cases h'⟩,Lq⟩
theorem aak (l:List Int):rwT (l.map Cl.i)=ilT l:=by unfold rwT ilT; rw [List.map_map]; rfl
theorem abe (l:List Int):pr (l.map Cl.i)=l:=by
  unfold pr
  have:(l.map Cl.i).all isI=true:=by rw [List.all_map]; exact List.all_eq_true.mpr fun x _=>rfl
  rw [if_pos this,List.map_map]
  exact (List.map_congr_left (g:=id) fun x _=>rfl).trans (List.map_id _)
theorem a86 {l:List Int} (h:l.length≤100):PR (ilT l,l):=by
  have:=a9y (r:=l.map Cl.i) (by simpa using h)
  rwa [aak,abe] at this
theorem Wg {rows:List (List Int)}:leaf (rows.map fun l=>(ilT l,l)) (rsT rows):=.inl (by unfold rsT; rw [List.map_map]; rfl)
theorem a3n {rows:List (List Int)}:(rows.map fun l=>(ilT l,l)).map (·.2)=rows:=by
  rw [List.map_map]; exact (List.map_congr_left (g:=id) fun x _=>rfl).trans (List.map_id _)
noncomputable abbrev nsT (ns:List Str):T:=.lst (ns.map T.str)
theorem a7e {rows:List (List Int)} {d:Nat} (h:LOk A O) (hr:a3s rows) (hd:d≤90):∃ b n,J sto (nsT ns) (LT A O) (paT (.sum rows)) d b n∧n≤1∧b=Fg U4 A rows:=by
  have e:=pw_sum (sto:=sto) (N:=nsT ns) (O:=.lst ((oF O).map oT)) ac2 nd4 (A:=A) (fun a ha=>(h.a a ha).1) (Wg (rows:=rows)) (fun x hx n hn=>by
    obtain ⟨l,hl,rfl⟩:=List.mem_map.mp hx
    exact (hr.2 l hl).2 n hn) (by rw [List.length_map]; exact hr.1) (fun x hx=>by
    obtain ⟨l,hl,rfl⟩:=List.mem_map.mp hx
    exact a86 (hr.2 l hl).1)
  rw [a3n] at e
  have pe:paT (.sum rows)=.tup [.str "sum",rsT rows]:=by simp only [paT]
  rw [pe]
  cases hs:Fg U4 A rows with
  | true =>
    rw [hs,if_pos rfl] at e
    exact ⟨true,1,.many (cs:=[]) hd (by simp) e .nil,Nat.le_refl _,rfl⟩
  | false =>
    rw [hs,if_neg (by simp)] at e
    exact ⟨false,1,.none e,Nat.le_refl _,rfl⟩
theorem a83 {rows:List (List Int)} {m:Int} {d:Nat} (h:LOk A O) (hr:a3s rows) (hd:d≤90):∃ b n,J sto (nsT ns) (LT A O) (paT (.rest m rows)) d b n∧n≤1∧b=Cg U4 A m rows:=by
  have e:=M4 (sto:=sto) (N:=nsT ns) (O:=.lst ((oF O).map oT)) ac2 nd4 (c:=.i m) (A:=A) (fun a ha=>(h.a a ha).1) (Wg (rows:=rows)) (fun x hx n hn=>by
    obtain ⟨l,hl,rfl⟩:=List.mem_map.mp hx
    exact (hr.2 l hl).2 n hn) (by rw [List.length_map]; exact hr.1) (fun x hx=>by
    obtain ⟨l,hl,rfl⟩:=List.mem_map.mp hx
    exact a86 (hr.2 l hl).1)
  rw [a3n,show restV U4 A (.i m) rows=Cg U4 A m rows from rfl] at e
  have pe:paT (.rest m rows)=.tup [.str "rest",clT (.i m),rsT rows]:=by simp only [paT]; rfl
  rw [pe]
  cases hs:Cg U4 A m rows with
  | true =>
    rw [hs,if_pos rfl] at e
    exact ⟨true,1,.many (cs:=[]) hd (by simp) e .nil,Nat.le_refl _,rfl⟩
  | false =>
    rw [hs,if_neg (by simp)] at e
    exact ⟨false,1,.none e,Nat.le_refl _,rfl⟩
structure a6l (ns:List Str):Prop where
  l:ns.length≤100
  n:ns.Nodup
  u:∀ x∈ns,x∈U4
theorem ok4:∀ x∈U4,okS x:=by unfold okS; decide +kernel
theorem Kf {b:Str}:∀ {l:List Str},l.Nodup→b∈l→l.filter (fun x=>x==b)=[b]
  | [],_,h=>by cases h
  | x::l,nd,h=>by
    have nd':=List.nodup_cons.mp nd
    by_cases e:x=b
    · subst e
      rw [List.filter_cons,if_pos (by simp)]
      congr 1
      exact List.filter_eq_nil_iff.mpr fun y hy=>by
        intro z
        have:y=x:=by simpa using z
        exact nd'.1 (this ▸ hy)
    · rw [List.filter_cons,if_neg (by simpa using e)]
      rcases List.mem_cons.mp h with z | z
      · exact absurd z.symm e
      · exact Kf nd'.2 z
noncomputable def Snd (B:Str→Int) (sto:List SO) (ns:List Str) (p:P):Prop:=∀ (A:List At) (O:List (List Fo)) (d:Nat),LOk A O→okP ns p→A.length+sz p<900→O.length+sz p<900→d+dep p≤90→∃ b n,J sto (nsT ns) (LT A O) (paT p) d b n∧n≤sz p∧(Sat B A O→b=false)
theorem Tj (h:LOk A O):∀ (ms:List Fo) (ps:List P) (d:Nat),(∀ p∈ps,Snd B sto ns p)→ms.length=ps.length→(∀ f∈ms,a8j f)→a2q ns ps→A.length+szs ps<899→O.length+szs ps<899→d+deps ps≤90 →
    ∃ b n,WJ sto (nsT ns) (dn d ((ms.zip ps).map fun x=>(LT (A++foA x.1) (O++foO x.1),paT x.2))) b n∧n≤szs ps∧(Sat B A O→(∃ f∈ms,TrF B f)→b=false)
  | [],[],d,_,_,_,_,_,_,_=>⟨true,0,.nil,Nat.zero_le _,fun _ ⟨f,hf,_⟩=>by cases hf⟩
  | [],p::ps,d,_,hl,_,_,_,_,_=>by simp at hl
  | f::ms,[],d,_,hl,_,_,_,_,_=>by simp at hl
  | f::ms,p::ps,d,ih,hl,hf,hp,z1,z2,hd=>by
    simp only [szs] at z1 z2
    simp only [deps] at hd
    have fa:(foA f).length≤1:=by cases f <;> simp [foA]
    have fo:(foO f).length≤1:=by cases f <;> simp [foO]
    obtain ⟨b1,n1,j1,l1,s1⟩:=ih p List.mem_cons_self (A++foA f) (O++foO f) d (h.add (hf f List.mem_cons_self)) hp.1 (by rw [List.length_append]; omega) (by rw [List.length_append]; omega) (by omega)
    obtain ⟨b2,n2,j2,l2,s2⟩:=Tj h ms ps d (fun q hq=>ih q (List.mem_cons_of_mem _ hq)) (by simpa using hl) (fun g hg=>hf g (List.mem_cons_of_mem _ hg)) hp.2 (by omega) (by omega) (by omega)
    refine ⟨b1&&b2,n1+n2,.cons j1 j2,by simp only [szs]; omega,fun hs z0=>?_⟩
    obtain ⟨g,hg,tg⟩:=z0
    rcases List.mem_cons.mp hg with rfl | hg
    · rw [s1 (hs.add tg)]; rfl
    · rw [s2 hs ⟨g,hg,tg⟩,Bool.and_false]
theorem Lr (hN:a6l ns):∀ (k:Nat) (p:P),sz p≤k→Snd B sto ns p
  | 0,p,h=>by have:=a8s (p:=p); omega
  | k+1,p,hk=>by
    intro A O d h hp z1 z2 hd
    cases p with
    | sum rows =>
      obtain ⟨b,n,j,hn,hb⟩:=a7e (sto:=sto) (ns:=ns) (rows:=rows) (d:=d) h (by simpa only [okP] using hp) (by omega)
      refine ⟨b,n,j,by simp only [sz]; exact hn,fun s=>?_⟩
      cases hs:Fg U4 A rows with
      | false=>rw [hb,hs]
      | true=>exact (Yl hs s.a).elim
    | rest m rows =>
      obtain ⟨b,n,j,hn,hb⟩:=a83 (sto:=sto) (ns:=ns) (rows:=rows) (m:=m) (d:=d) h (by simpa only [okP] using hp) (by omega)
      refine ⟨b,n,j,by simp only [sz]; exact hn,fun s=>?_⟩
      cases hs:Cg U4 A m rows with
      | false=>rw [hb,hs]
      | true=>exact (Vp hs s.a).elim
    | cut b k' p q =>
      simp only [okP] at hp
      simp only [sz] at hk z1 z2 ⊢
      simp only [dep] at hd
      obtain ⟨hb,hp1,hp2⟩:=hp
      have hu:=hN.u b hb
      have a1:Zg (aM b k'):=Ey (Uh hu)
      have a2:Zg (aL b (k'+1)):=Ey (Uh hu)
      have o1:LOk (A++[aM b k']) O:=by simpa [foA,foO] using h.add (f:=.at (aM b k')) a1
      have o2:LOk (A++[aL b (k'+1)]) O:=by simpa [foA,foO] using h.add (f:=.at (aL b (k'+1))) a2
      obtain ⟨b1,n1,j1,l1,s1⟩:=Lr hN k p (by omega) (A++[aM b k']) O (d+1) o1 hp1 (by rw [List.length_append,List.length_singleton]; omega) (by omega) (by omega)
      obtain ⟨b2,n2,j2,l2,s2⟩:=Lr hN k q (by omega) (A++[aL b (k'+1)]) O (d+1) o2 hp2 (by rw [List.length_append,List.length_singleton]; omega) (by omega) (by omega)
      have e:=a4m (sto:=sto) (A:=A.map atT) (O:=(oF O).map oT) (k:=k') (p:=paT p) (q:=paT q) hN.l (fun x hx=>ok4 x (hN.u x hx)) (ok4 b hu) (Kf hN.n hb) (by rw [List.length_map]; omega) (by unfold oF; rw [List.length_map,List.length_map]; omega)
      have e2:=pw_cut (N:=nsT ns) e
      have pe:paT (.cut b k' p q)=.tup [.str "cut",.str b,.int k',paT p,paT q]:=by simp only [paT]
      refine ⟨b1&&(b2&&true),n1+(n2+0)+1,?_,by omega,fun s=>?_⟩
      · rw [pe]
        refine .many (cs:=[(LT (A++[aM b k']) O,paT p),(LT (A++[aL b (k'+1)]) O,paT q)]) (by omega) (by simp) ?_ (.cons j1 (.cons j2 .nil))
        rw [show LT A O=.tup [.lst (A.map atT),.lst ((oF O).map oT)] from rfl,e2]
        unfold LT
        simp only [List.map_append,List.map_cons,List.map_nil,cT]
      · by_cases hc:B b≤k'
        · have:=s1 (by simpa [foA,foO] using s.add (f:=.at (aM b k')) (a7t hu hc))
          rw [this]; rfl
        · have:=s2 (by simpa [foA,foO] using s.add (f:=.at (aL b (k'+1))) (a78 hu (by omega)))
          rw [this,Bool.false_and,Bool.and_false]
    | orp n ps =>
      simp only [okP] at hp
      simp only [sz] at hk z1 z2 ⊢
      simp only [dep] at hd
      have pe:paT (.orp n ps)=.tup [.str "or",.int (n:Int),.tup (ps.map paT)]:=by simp only [paT]; rw [Ls]
      rw [pe]
      cases hO:O[n]? with
      | none =>
        refine ⟨false,1,.none (pw_or ?_),by omega,fun _=>rfl⟩
        have hn:¬ n<O.length:=by
          intro z; rw [List.getElem?_eq_getElem z] at hO; cases hO
        have:=a0i (sto:=sto) (X:=.lst (A.map atT)) (n:=(n:Int)) (b:=.tup (ps.map paT)) (O:=(oF O).map fun ms=>ms.map fmT) (by
          rw [decide_eq_false (p:=(n:Int)<_) (by unfold oF; rw [List.length_map,List.length_map]; omega),Bool.and_false])
        rw [List.map_map] at this
        exact this
      | some ms =>
        have hm:=List.mem_of_getElem? hO
        have hF:(oF O)[n]? = some (ms.map foF):=by unfold oF; rw [List.getElem?_map,hO]; rfl
        by_cases hl:ps.length=ms.length
        · have e:=a9a (sto:=sto) (A:=A.map atT) (O:=oF O) (n:=n) (ps:=ps.map paT) hF (by rw [List.length_map,List.length_map]; exact hl) (by rw [List.length_map]; exact (h.o ms hm).1) (fun f hf=>by
            obtain ⟨g,hg,rfl⟩:=List.mem_map.mp hf
            exact aa5 ((h.o ms hm).2 g hg)) (by rw [List.length_map]; omega) (by unfold oF; rw [List.length_map]; omega)
          have ihs:∀ q∈ps,Snd B sto ns q:=fun q hq=>Lr hN k q (by
            have:∀ (l:List P),q∈l→sz q≤szs l:=by
              intro l
              induction l with
              | nil=>intro z; cases z
              | cons a l ih =>
                intro z
                simp only [szs]
                rcases List.mem_cons.mp z with rfl | z
                · omega
                · have:=ih z; omega
            have:=this ps hq
            omega)
          obtain ⟨b,m,w,hm2,hs⟩:=Tj (B:=B) (sto:=sto) (ns:=ns) h ms ps (d+1) ihs hl.symm (h.o ms hm).2 hp.2 (by omega) (by omega) (by omega)
          refine ⟨b,m+1,.many (cs:=(ms.zip ps).map fun x=>(LT (A++foA x.1) (O++foO x.1),paT x.2)) (by omega) (by rw [List.length_map,List.length_zip]; have:=hp.1; omega) ?_ w,by omega,fun s=>hs s (s.o ms hm)⟩
          rw [show LT A O=.tup [.lst (A.map atT),.lst ((oF O).map oT)] from rfl,pw_or e]
          congr 3
          rw [List.zip_map,List.map_map,List.map_map]
          refine List.map_congr_left fun x hx=>?_
          show (.tup [.tup [.lst (A.map atT++flA (foF x.1)),.lst ((oF O).map oT++flO (foF x.1))],paT x.2]:T)=cT (LT (A++foA x.1) (O++foO x.1),paT x.2)
          rw [a9c]; rfl
        · refine ⟨false,1,.none (pw_or (a5l hF (by rw [List.length_map,List.length_map]; exact hl))),by omega,fun _=>rfl⟩
end
end K
end
noncomputable section
set_option linter.all false
set_option maxRecDepth 100000
set_option maxHeartbeats 1000000
set_option autoImplicit false
namespace K
open C PySem
inductive Tf where
  | at (a:At) | and2 (a b:At) | or (ms:List Fo)
noncomputable def tfF:Tf→Fm
  | .at a=>fA a
  | .and2 a b=>.all [fA a,fA b]
  | .or ms=>.any ((ms.map foF).map fmT)
noncomputable def tfA:Tf→List At
  | .at a=>[a]
  | .and2 a b=>[a,b]
  | .or _=>[]
noncomputable def tfO:Tf→List (List Fo)
  | .or ms=>[ms]
  | _=>[]
noncomputable def Z0:Tf→Prop
  | .at a=>Zg a
  | .and2 a b=>Zg a∧Zg b
  | .or ms=>ms.length≤100∧∀ f∈ms,a8j f
noncomputable def TrT (B:Str→Int):Tf→Prop
  | .at a=>TrA B a
  | .and2 a b=>TrA B a∧TrA B b
  | .or ms=>∃ f∈ms,TrF B f
noncomputable def tfT (t:Tf):T:=fmT (tfF t)
theorem abq:∀ l:List Tf,Gz (l.map tfF)=(l.flatMap tfA).map atT
  | []=>by simp [Gz]
  | t::l=>by
    rw [List.map_cons,Gz,abq l,List.flatMap_cons,List.map_append]
    congr 1
    cases t <;> simp [tfF,flA,Gz,tfA,fA,atT]
theorem abx:∀ l:List Tf,Ba (l.map tfF)=(oF (l.flatMap tfO)).map oT
  | []=>by simp [Ba,oF]
  | t::l=>by
    rw [List.map_cons,Ba,abx l,List.flatMap_cons]
    unfold oF
    rw [List.map_append,List.map_append]
    congr 1
    cases t <;> simp [tfF,flO,Ba,tfO,fA,oT]
theorem a9f:∀ l:List Tf,(∀ t∈l,Z0 t)→Ss (l.map tfF)
  | [],_=>by simp [Ss]
  | t::l,h=>by
    have h1:=h t List.mem_cons_self
    rw [List.map_cons,Ss]
    refine ⟨?_,a9f l fun x hx=>h x (List.mem_cons_of_mem _ hx)⟩
    cases t with
    | «at» a=>exact h1.2
    | and2 a b=>exact ⟨h1.1.2,h1.2.2,trivial⟩
    | or ms=>simp [tfF,okF]
theorem a8v:∀ l:List Tf,Gw (l.map tfF)≤3 * l.length
  | []=>by simp [Gw]
  | t::l=>by
    have:=a8v l
    rw [List.map_cons,Gw,List.length_cons]
    have:fsz (tfF t)≤3:=by cases t <;> simp [tfF,fsz,Gw,fA]
    omega
theorem Zf:∀ l:List Tf,(l.flatMap tfA).length≤2 * l.length∧(l.flatMap tfO).length≤l.length
  | []=>by simp
  | t::l=>by
    have:=Zf l
    rw [List.flatMap_cons,List.flatMap_cons,List.length_append,List.length_append,List.length_cons]
    have h1:(tfA t).length≤2:=by cases t <;> simp [tfA]
    have h2:(tfO t).length≤1:=by cases t <;> simp [tfO]
    omega
noncomputable section
variable {B:Str→Int} {sto:List SO} {bs:List Bd} {fs:List Tf}
theorem ac1 (hN:a6l (bs.map (·.1))) (hf:∀ t∈fs,Z0 t):LOk (bounds bs++fs.flatMap tfA) (fs.flatMap tfO):=by
  refine ⟨fun a ha=>?_,fun ms hm=>?_⟩
  · rcases List.mem_append.mp ha with z | z
    · obtain ⟨r,hr,e⟩:=List.mem_flatMap.mp z
      have hu:=hN.u r.1 (List.mem_map.mpr ⟨r,hr,rfl⟩)
      simp only [List.mem_cons,List.not_mem_nil,or_false] at e
      rcases e with rfl | rfl
      · exact Ey (Uh hu)
      · exact Ey (Uh hu)
    · obtain ⟨t,ht,e⟩:=List.mem_flatMap.mp z
      have:=hf t ht
      cases t with
      | «at» b=>rw [show tfA (.at b)=[b] from rfl,List.mem_singleton] at e; subst e; exact this
      | and2 b c =>
        simp only [tfA,List.mem_cons,List.not_mem_nil,or_false] at e
        rcases e with rfl | rfl
        · exact this.1
        · exact this.2
      | or ms=>cases e
  · obtain ⟨t,ht,e⟩:=List.mem_flatMap.mp hm
    have:=hf t ht
    cases t with
    | «at» b=>cases e
    | and2 b c=>cases e
    | or ms'=>rw [show tfO (.or ms')=[ms'] from rfl,List.mem_singleton] at e; subst e; exact this
theorem ab7 (hN:a6l (bs.map (·.1))) (hb:∀ r∈bs,r.2.1≤B r.1∧B r.1≤r.2.2) (hf:∀ t∈fs,TrT B t):Sat B (bounds bs++fs.flatMap tfA) (fs.flatMap tfO):=by
  refine ⟨fun a ha=>?_,fun ms hm=>?_⟩
  · rcases List.mem_append.mp ha with z | z
    · obtain ⟨r,hr,e⟩:=List.mem_flatMap.mp z
      have hu:=hN.u r.1 (List.mem_map.mpr ⟨r,hr,rfl⟩)
      simp only [List.mem_cons,List.not_mem_nil,or_false] at e
      rcases e with rfl | rfl
      · exact a78 hu (hb r hr).1
      · exact a7t hu (hb r hr).2
    · obtain ⟨t,ht,e⟩:=List.mem_flatMap.mp z
      have:=hf t ht
      cases t with
      | «at» b=>rw [show tfA (.at b)=[b] from rfl,List.mem_singleton] at e; subst e; exact this
      | and2 b c =>
        simp only [tfA,List.mem_cons,List.not_mem_nil,or_false] at e
        rcases e with rfl | rfl
        · exact this.1
        · exact this.2
      | or ms=>cases e
  · obtain ⟨t,ht,e⟩:=List.mem_flatMap.mp hm
    have:=hf t ht
    cases t with
    | «at» b=>cases e
    | and2 b c=>cases e
    | or ms'=>rw [show tfO (.or ms')=[ms'] from rfl,List.mem_singleton] at e; subst e; exact this
theorem a2s {p:P} {b:Bool} {n:Nat} (hN:a6l (bs.map (·.1))) (lb:bs.length≤10) (hf:∀ t∈fs,Z0 t) (lf:fs.length≤20) (hn:n<1000)
    (j:J sto (nsT (bs.map (·.1))) (LT (bounds bs++fs.flatMap tfA) (fs.flatMap tfO)) (paT p) 1 b n):qu [.lst (bs.map bdT),.lst (fs.map tfT),paT p] sto=some (.bl b,sto):=by
  have e:(fs.map tfF).map fmT=fs.map tfT:=by rw [List.map_map]; rfl
  rw [← e]
  refine a5x (n:=n) (a9f fs hf) (by have:=a8v fs; omega) (by omega) ?_ hn
  rw [abq,abx,List.nil_append]
  unfold LT at j
  rw [List.map_append] at j
  exact j
theorem Mw {p:P} (hN:a6l (bs.map (·.1))) (lb:bs.length≤10) (hf:∀ t∈fs,Z0 t) (lf:fs.length≤20) (hb:∀ r∈bs,r.2.1≤B r.1∧B r.1≤r.2.2) (ht:∀ t∈fs,TrT B t) (hp:okP (bs.map (·.1)) p) (hz:sz p≤500) (hd:dep p≤50) :
    qu [.lst (bs.map bdT),.lst (fs.map tfT),paT p] sto=some (.bl false,sto):=by
  have ll:=Zf fs
  have bl:=Ao bs
  obtain ⟨b,n,j,hn,hs⟩:=Lr (B:=B) (sto:=sto) hN (sz p) p (Nat.le_refl _) (bounds bs++fs.flatMap tfA) (fs.flatMap tfO) 1 (ac1 hN hf) hp (by rw [List.length_append]; omega) (by omega) (by omega)
  rw [hs (ab7 hN hb ht)] at j
  exact a2s hN lb hf lf (by omega) j
theorem a5g {rows:List (List Int)} (hN:a6l (bs.map (·.1))) (lb:bs.length≤10) (hf:∀ t∈fs,Z0 t) (lf:fs.length≤20) (hr:a3s rows) :
    qu [.lst (bs.map bdT),.lst (fs.map tfT),paT (.sum rows)] sto=some (.bl (Fg U4 (bounds bs++fs.flatMap tfA) rows),sto):=by
  obtain ⟨b,n,j,hn,hs⟩:=a7e (sto:=sto) (ns:=bs.map (·.1)) (A:=bounds bs++fs.flatMap tfA) (O:=fs.flatMap tfO) (d:=1) (ac1 hN hf) hr (by decide)
  rw [← hs]
  exact a2s hN lb hf lf (by omega) j
end
end K
end
noncomputable section
set_option linter.all false
set_option maxRecDepth 100000
set_option maxHeartbeats 1000000
set_option autoImplicit false
namespace K
open C PySem PySem.W PyProof.Rows
noncomputable def Ry {α:Type} (P:α→Bool):KasT α→Bool
  | .ret a=>P a
  | .ask i j k=>Ry P (k true)&&Ry P (k false)
theorem T7 {α:Type} {P:α→Bool} {lt:Nat→Nat→Bool}:∀ t:KasT α,Ry P t=true→P (J2 lt t)=true
  | .ret a,h=>h
  | .ask i j k,h=>by
    simp only [Ry,Bool.and_eq_true] at h
    refine T7 (k (lt i j)) ?_
    cases lt i j
    · exact h.2
    · exact h.1
theorem Qf:Ry (fun p:Array Nat=>p.toList.isPerm (List.range 2)) (kas_sort 2)=true∧Ry (fun p:Array Nat=>p.toList.isPerm (List.range 3)) (kas_sort 3)=true∧Ry (fun p:Array Nat=>p.toList.isPerm (List.range 4)) (kas_sort 4)=true:=by decide +kernel
theorem Vl {l:List Str} (h:l.length≤4):(order l).Perm (List.range l.length):=by
  unfold order
  split
  · exact List.Perm.refl _
  · have:l.length=2∨l.length=3∨l.length=4:=by omega
    rcases this with e | e | e
    · rw [e]; exact List.isPerm_iff.mp (T7 _ Qf.1)
    · rw [e]; exact List.isPerm_iff.mp (T7 _ Qf.2.1)
    · rw [e]; exact List.isPerm_iff.mp (T7 _ Qf.2.2)
theorem Oc:∀ l:List Pr,firsts (l.map pT)=some (ks l)
  | []=>rfl
  | p::l=>by
    show (firsts (l.map pT)).map (p.1 :: ·)=_
    rw [Oc l]; rfl
theorem a6j {l:List Pr} (hl:l.length≤4) (nd:(ks l).Nodup):∃ l':List Pr,Et [.lst (l.map pT)]=some (.lst (l'.map pT))∧l'.Perm l:=by
  have kl:(ks l).length=l.length:=by unfold ks; rw [List.length_map]
  have op:=Vl (l:=ks l) (by omega)
  rw [kl] at op
  refine ⟨(order (ks l)).map fun i=>l.getD i (("" : Str),0),?_,?_⟩
  · show (match firsts (l.map pT) with | some k=>if k.length≤4∧k.Nodup then some (T.lst ((order k).map fun i=>(l.map pT).getD i .non)) else none | none=>none)=_
    rw [Oc]
    dsimp only
    rw [if_pos ⟨by omega,nd⟩,List.map_map]
    congr 2
    refine List.map_congr_left fun i hi=>?_
    have hi':i<l.length:=List.mem_range.mp (op.mem_iff.mp hi)
    show (l.map pT).getD i .non=pT (l.getD i (("" : Str),0))
    rw [List.getD_eq_getElem?_getD,List.getD_eq_getElem?_getD,List.getElem?_map,List.getElem?_eq_getElem hi']
    rfl
  · refine (op.map _).trans (List.Perm.of_eq ?_)
    refine List.ext_getElem (by simp) fun i h1 h2=>?_
    simp only [List.getElem_map,List.getElem_range]
    rw [List.getD_eq_getElem?_getD,List.getElem?_eq_getElem h2]
    rfl
noncomputable abbrev scr (cs:List Int):T:=.lst (cs.map .int)
noncomputable def cell (cs:List Int) (k:Nat):Int:=cs.getD k 0
theorem a5f {cs:List Int} {k:Nat} {sto:List SO}:jf [scr cs,.int (k:Int)] sto=some (.int (cell cs k),sto):=by
  unfold cell
  by_cases h:k<cs.length
  · have h':(k:Int)<(cs.length:Int):=by omega
    have e:=Cm T.int cs h
    rw [List.getD_eq_getElem?_getD,List.getElem?_eq_getElem h]
    exact zrun (n:=2) (zqr (zk (zt (zo rfl (zm (zc rfl rfl) a2l) (a9q h'))) (zr (zo rfl rfl e)))) rfl
  · have h':¬ (k:Int)<(cs.length:Int):=by omega
    rw [List.getD_eq_getElem?_getD,List.getElem?_eq_none (Nat.le_of_not_lt h)]
    exact zrun (n:=2) (zq (ze (zt (zo rfl (zm (zc rfl rfl) a2l) (a9n h'))) rfl) (zr rfl)) rfl
theorem Km {cs:List Int} {k:Nat} {i:Int} {sto:List SO} (h:i=(k:Int)):jf [scr cs,.int i] sto=some (.int (cell cs k),sto):=by
  subst h; exact a5f
noncomputable section
variable {sto:List SO} {cs:List Int}
theorem K7 {c m:Int} (hm:0<m):∃ v:Int,uf [.int c,.int m] sto=some (.int v,sto):=by
  by_cases h:c<0
  · exact ⟨-(-c%m),zrun (n:=2) (zqr (zk (zt (zo rfl rfl (a9q h))) (zr (zun (zo (zun rfl rfl) rfl (md hm)) rfl)))) rfl⟩
  · exact ⟨c%m,zrun (n:=2) (zq (ze (zt (zo rfl rfl (a9n h))) rfl) (zr (zo rfl rfl (md hm)))) rfl⟩
noncomputable def nm4:List Str:=["x","y","@p","z1"]
theorem a2x:nm4.Nodup:=by decide +kernel
theorem ab6:∀ x∈nm4,x∈U4:=by decide +kernel
structure Rok (bs:List Bd) (bk:List Pr):Prop where
  n:bs.map (·.1)=nm4.take bs.length
  l:bs.length≤4
  k:ks bk=bs.map (·.1)
  v:∀ r∈bs,r.2.1≤gt bk r.1∧gt bk r.1≤r.2.2
theorem Rok.ns {bs:List Bd} {bk:List Pr} (h:Rok bs bk):a6l (bs.map (·.1)):=by
  have:=h.l
  refine ⟨by rw [List.length_map]; omega,?_,fun x hx=>?_⟩
  · rw [h.n]; exact List.Nodup.sublist (List.take_sublist _ _) a2x
  · rw [h.n] at hx; exact ab6 x (List.mem_of_mem_take hx)
noncomputable abbrev W5r:=Slot × Slot × Slot × Slot
noncomputable abbrev qR (cs:List Int) (bs:List Bd) (bk:List Pr) (o3:Slot) (w:W5r) (sto:List SO):Sta:=⟨[some (scr cs,false),some (.lst (bs.map bdT),true),some (.dic (dd bk),true),o3,w.1,w.2.1,w.2.2.1,w.2.2.2],sto⟩
noncomputable abbrev aae:S:=(j9 (jg 4 (dw jf (ak (bw 0) (ak (mOp jk (ao (.int 1)) (bw 3)) fj))))
  (j9 (jg 5 (mOp gq (iu (fun l=>some (.lst l)) (ak (dw uf (ak (bw 4) (ak (ao (.int 9)) fj))) (ak (dw uf (ak (bw 4) (ak (mOp Ej (ao (.int 9)) (mOp a3h (ao (.int 10)) (ao (.int 29)))) fj))) fj))) (mOp jj (mOp gb (dw jf (ak (bw 0) (ak (ao (.int 0)) fj))) (ao (.int 4))) (ao (.int 2)))))
  (j9 (jg 6 (mOp jj (mOp gb (bw 4) (ao (.int 9))) (mOp gq (iu (fun l=>some (.lst l)) (ak (ao (.int 5)) (ak (mOp a3h (ao (.int 10)) (ao (.int 29))) fj))) (mOp jj (mOp gb (dw jf (ak (bw 0) (ak (ao (.int 0)) fj))) (ao (.int 8))) (ao (.int 2))))))
  (j9 (jg 7 (mOp gq (iu (fun l=>some (.lst l)) (j6 ["x","y","@p","z1"])) (bw 3)))
  (j9 (c7 1 (iu (fun l=>some (.tup l)) (ak (bw 7) (ak (bw 5) (ak (mOp jk (bw 5) (bw 6)) fj)))))
  (Bo 2 (bw 7) (mOp jk (bw 5) (mOp jj (mOp gb (bw 4) (ao (.int 7))) (mOp jk (bw 6) (ao (.int 1)))))))))))
theorem p29:a3h (.int 10) (.int 29)=some (.int 100000000000000000000000000000):=by simp [a3h]
theorem a8n {d:List Pr} {b:Str} {v:Int} (h:b∉ks d):pt d b v=d++[(b,v)]:=if_neg h
theorem a0g {bs:List Bd} {bk:List Pr} {w:W5r} (h:Rok bs bk) (hk:bs.length<4) :
    ∃ (bs':List Bd) (bk':List Pr) (w':W5r),Rok bs' bk'∧bs'.length=bs.length+1∧aae (qR cs bs bk (some (.int (bs.length:Int),false)) w sto)=some (.next,qR cs bs' bk' (some (.int (bs.length:Int),false)) w' sto):=by
  have ex:=Km (cs:=cs) (k:=1+bs.length) (i:=1+(bs.length:Int)) (sto:=sto) (by omega)
  have e0:=Km (cs:=cs) (k:=0) (i:=0) (sto:=sto) rfl
  generalize cell cs (1+bs.length)=v at *
  generalize cell cs 0=c at *
  obtain ⟨v1,s1⟩:=K7 (sto:=sto) (c:=v) (m:=9) (by decide)
  obtain ⟨v2,s2⟩:=K7 (sto:=sto) (c:=v) (m:=900000000000000000000000000000) (by decide)
  obtain ⟨lo,hlo,i1⟩:=Dj T.int [v1,v2] (i:=c / 4%2) (by omega) (by simp; omega)
  obtain ⟨m,hm,i2⟩:=Dj T.int [5,100000000000000000000000000000] (i:=c / 8%2) (by omega) (by simp; omega)
  have mp:0<m:=by
    simp only [List.mem_cons,List.not_mem_nil,or_false] at hm -- here
    rcases hm with rfl | rfl <;> decide
  have m0:=Int.emod_nonneg (v / 9) (show m≠0 by omega)
  have mp1:0<v / 9%m+1:=by omega
  have k0:=Int.emod_nonneg (v / 7) (show v / 9%m+1≠0 by omega)
  have k1:=Int.emod_lt_of_pos (v / 7) mp1
  have hk4:bs.length<nm4.length:=hk
  have i3:=Cm T.str nm4 hk4
  have mm:Ej (.int 9) (.int 100000000000000000000000000000)=some (.int 900000000000000000000000000000):=by
    rw [mu (by decide)]; rfl
  generalize hb:nm4[bs.length]=b at *
  have nb:b∉bs.map (·.1):=by
    rw [h.n]
    intro z
    obtain ⟨j,hj,e⟩:=List.getElem_of_mem z
    rw [List.length_take] at hj
    rw [List.getElem_take,← hb] at e
    have:=(List.getElem_inj a2x).mp e
    omega
  have nbk:b∉ks bk:=by rw [h.k]; exact nb
  have lb:bs.length<lim:=by show _<1000000; omega
  have lk:(dd bk).length<lim:=by
    have:bk.length=bs.length:=by have:=congrArg List.length h.k; unfold ks at this; simpa using this
    unfold dd; rw [List.length_map]; show _<1000000; omega
  refine ⟨bs++[(b,lo,lo+v / 9%m)],bk++[(b,lo+v / 7%(v / 9%m+1))],(some (.int v,false),some (.int lo,false),some (.int (v / 9%m),false),some (.str b,false)),?_,by rw [List.length_append,List.length_singleton],?_⟩
  · refine ⟨?_,by rw [List.length_append,List.length_singleton]; omega,?_,fun r hr=>?_⟩
    · rw [List.map_append,h.n,List.length_append,List.length_singleton,List.take_succ,List.getElem?_eq_getElem hk4,hb]; rfl
    · unfold ks at *; rw [List.map_append,List.map_append,← h.k]; unfold ks; rfl
    · rcases List.mem_append.mp hr with z | z
      · rw [Ub,if_pos (by rw [h.k]; exact List.mem_map.mpr ⟨r,z,rfl⟩)]; exact h.v r z
      · rw [List.mem_singleton] at z; subst z
        rw [Ub,if_neg nbk]
        simp only [gt,if_true]
        omega
  · unfold aae
    generalize uf=F1 at *
    generalize jf=F2 at *
    exact zq (zs (zf0 (zc rfl (zc (zo rfl rfl rfl) rfl)) ex)) (zq (zs (zo (zm (zc (zf0 rfl s1) (zc (zf0 (zc rfl (zc (zo rfl (zo rfl rfl p29) mm) rfl)) s2) rfl)) rfl) (zo (zo (zf0 rfl e0) rfl rfl) rfl rfl) i1)) (zq (zs (zo (zo rfl rfl rfl) (zo (zm (zc rfl (zc (zo rfl rfl p29) rfl)) rfl) (zo (zo (zf0 rfl e0) rfl rfl) rfl rfl) i2) (md mp))) (zq (zs (zo rfl rfl i3)) (zq (za (zm (zc rfl (zc rfl (zc (zo rfl rfl rfl) rfl))) rfl) rfl (by rw [List.length_map]; exact lb) rfl rfl) (zw (zo rfl (zo (zo rfl rfl rfl) (zo rfl rfl rfl) (md mp1)) rfl) rfl rfl rfl rfl lk (by unfold qR; rw [a3t,a8n nbk,List.map_append]; rfl))))))
theorem Oe:∀ (m:Nat) (bs:List Bd) (bk:List Pr) (o3:Slot) (w:W5r),Rok bs bk→bs.length+m≤4 →
    ∃ (bs':List Bd) (bk':List Pr) (o3':Slot) (w':W5r),Rok bs' bk'∧bs'.length=bs.length+m∧forL (hName 3) aae ((List.range' bs.length m).map fun (j:Nat)=>T.int (j:Int)) (qR cs bs bk o3 w sto)=some (.next,qR cs bs' bk' o3' w' sto)
  | 0,bs,bk,o3,w,h,_=>⟨bs,bk,o3,w,h,rfl,by simp [forL]⟩
  | m+1,bs,bk,o3,w,h,hl=>by
    obtain ⟨bs1,bk1,w1,h1,l1,st⟩:=a0g (cs:=cs) (sto:=sto) (w:=w) h (by omega)
    obtain ⟨bs2,bk2,o3',w2,h2,l2,ih⟩:=Oe m bs1 bk1 (some (.int (bs.length:Int),false)) w1 h1 (by omega)
    refine ⟨bs2,bk2,o3',w2,h2,by omega,?_⟩
    rw [List.range'_succ,List.map_cons,Io (s1:=qR cs bs bk (some (.int (bs.length:Int),false)) w sto) rfl st,← l1]
    exact ih
theorem a08:∃ (bs:List Bd) (bk:List Pr),Bs [scr cs] sto=some (.tup [.lst (bs.map bdT),.dic (dd bk)],sto)∧Rok bs bk∧1≤bs.length:=by
  have e0:=Km (cs:=cs) (k:=0) (i:=0) (sto:=sto) rfl
  have R0:Rok [] []:=⟨rfl,by decide,rfl,fun r hr=>by cases hr⟩
  obtain ⟨bs,bk,o3,w,h,l,L⟩:=Oe (cs:=cs) (sto:=sto) (1+cell cs 0%4).toNat [] [] none (none,none,none,none) R0 (by simp; omega)
  refine ⟨bs,bk,?_,h,by simp at l; omega⟩
  have rg:dz (mOp jk (ao (.int 1)) (mOp jj (dw jf (ak (bw 0) (ak (ao (.int 0)) fj))) (ao (.int 4)))) (qR cs [] [] none (none,none,none,none) sto)=some ((List.range (1+cell cs 0%4).toNat).map (fun (k:Nat)=>T.int (k:Int)),qR cs [] [] none (none,none,none,none) sto) :=
    zrg (m:=(1+cell cs 0%4).toNat) (by rw [Int.toNat_of_nonneg (by omega)]; exact zo rfl (zo (zf0 rfl e0) rfl rfl) rfl) (by show _<1000000; omega)
  rw [List.length_nil,← List.range_eq_range'] at L
  exact zrun (n:=8) (zq (zn rfl) (zq (zn rfl) (zq (a1z rg L) (zr (zm (zc rfl (zc rfl rfl)) rfl))))) rfl
end
end K
end
noncomputable section
set_option linter.all false
set_option maxRecDepth 100000
set_option maxHeartbeats 1000000
set_option autoImplicit false
namespace K
open C PySem
theorem fd {i j:Int} (h:0<j) (h2:j<1073741824):gb (.int i) (.int j)=some (.int (i / j)):=if_pos ⟨h,.inl h2⟩
theorem ad7 {p:Int} (h:¬ p=0):neO (.int p) (.int 0)=some (.bl true):=by rw [Ay,beq_eq_false_iff_ne.mpr h]; rfl
theorem ad4 {p:Int} (h:p=0):neO (.int p) (.int 0)=some (.bl false):=by subst h; rw [Ay]; rfl
structure a3b (bs:List Bd) (l:List Pr):Prop where
  nd:(ks l).Nodup
  sub:∀ b∈ks l,b∈bs.map (·.1)
  bd:∀ p∈l,-2≤p.2∧p.2≤2∧¬ p.2=0
  len:l.length≤4
noncomputable def ds:List Int:=[1,5,25,125]
noncomputable abbrev qU (v:Int) (bs:List Bd) (l:List Pr) (o3 o4:Slot) (sto:List SO):Sta:=⟨[some (.int v,false),some (.lst (bs.map bdT),false),some (.lst (l.map pT),true),o3,o4],sto⟩
noncomputable abbrev suB:S:=(j9 (jg 4 (mOp lq (mOp jj (mOp gb (bw 0) (mOp gq (iu (fun l=>some (.lst l)) (ak (ao (.int 1)) (ak (ao (.int 5)) (ak (ao (.int 25)) (ak (ao (.int 125)) fj))))) (bw 3))) (ao (.int 5))) (ao (.int 2))))
  (sIf (dj (mOp neO (bw 4) (ao (.int 0))))
  (c7 2 (iu (fun l=>some (.tup l)) (ak (mOp gq (mOp gq (bw 1) (bw 3)) (ao (.int 0))) (ak (bw 4) fj))))
  jt))
noncomputable section
variable {sto:List SO} {bs:List Bd} {bk:List Pr} {v:Int}
theorem R8 (lb:bs.length≤4):∀ (m k:Nat) (l:List Pr) (o3 o4:Slot),k+m=bs.length→(ks l).Sublist ((bs.take k).map (·.1))→(∀ p∈l,-2≤p.2∧p.2≤2∧¬ p.2=0)→l.length≤k →
    ∃ (l':List Pr) (o3' o4':Slot),forL (hName 3) suB ((List.range' k m).map fun (j:Nat)=>T.int (j:Int)) (qU v bs l o3 o4 sto)=some (.next,qU v bs l' o3' o4' sto)∧(ks l').Sublist (bs.map (·.1))∧(∀ p∈l',-2≤p.2∧p.2≤2∧¬ p.2=0)∧l'.length≤4
  | 0,k,l,o3,o4,hk,h1,h2,h3=>⟨l,o3,o4,by simp [forL],by rw [List.take_of_length_le (by omega)] at h1; exact h1,h2,by omega⟩
  | m+1,k,l,o3,o4,hk,h1,h2,h3=>by
    have hk4:k<ds.length:=by show k<4; omega
    have hkb:k<bs.length:=by omega
    have i1:=Cm T.int ds hk4
    have i2:=Cm bdT bs hkb
    have i3:gq (bdT bs[k]) (.int 0)=some (.str bs[k].1):=rm
    have dp:0<ds[k]∧ds[k]<1073741824:=by
      have:∀ x∈ds,0<x∧x<1073741824:=by decide
      exact this _ (List.getElem_mem hk4)
    have tk:(bs.take (k+1)).map (·.1)=(bs.take k).map (·.1)++[bs[k].1]:=by
      rw [List.take_succ,List.getElem?_eq_getElem hkb,List.map_append]; rfl
    have st1:jg 4 (mOp lq (mOp jj (mOp gb (bw 0) (mOp gq (iu (fun l=>some (.lst l)) (ak (ao (.int 1)) (ak (ao (.int 5)) (ak (ao (.int 25)) (ak (ao (.int 125)) fj))))) (bw 3))) (ao (.int 5))) (ao (.int 2))) (qU v bs l (some (.int (k:Int),false)) o4 sto)=some (.next,qU v bs l (some (.int (k:Int),false)) (some (.int (v / ds[k]%5 - 2),false)) sto) :=
      ys (zo (zo (zo rfl (zo rfl rfl i1) (fd dp.1 dp.2)) rfl rfl) rfl rfl) rfl
    by_cases hz:v / ds[k]%5 - 2=0
    · obtain ⟨l',a,b,ih,q⟩:=R8 lb m (k+1) l (some (.int (k:Int),false)) (some (.int (v / ds[k]%5 - 2),false)) (by omega) (by rw [tk]; exact h1.trans (List.sublist_append_left _ _)) h2 (by omega)
      refine ⟨l',a,b,?_,q⟩
      rw [List.range'_succ,List.map_cons]
      exact (Io (t:=.int (k:Int)) rfl (zq st1 (ze (zt (zo rfl rfl (ad4 hz))) rfl))).trans ih
    · have la:l.length<lim:=by show _<1000000; omega
      obtain ⟨l',a,b,ih,q⟩:=R8 lb m (k+1) (l++[(bs[k].1,v / ds[k]%5 - 2)]) (some (.int (k:Int),false)) (some (.int (v / ds[k]%5 - 2),false)) (by omega) (by
          rw [tk]; unfold ks; rw [List.map_append]
          exact List.Sublist.append h1 (List.Sublist.refl _)) (fun p hp=>by
          rcases List.mem_append.mp hp with z | z -- here
          · exact h2 p z
          · rw [List.mem_singleton] at z; subst z; dsimp only; omega) (by rw [List.length_append,List.length_singleton]; omega)
      refine ⟨l',a,b,?_,q⟩
      rw [List.range'_succ,List.map_cons]
      exact (Io (t:=.int (k:Int)) rfl (zq st1 (zk (zt (zo rfl rfl (ad7 hz))) (za (zm (zc (zo (zo rfl rfl i2) rfl i3) (zc rfl rfl)) rfl) rfl (by rw [List.length_map]; exact la) rfl (by unfold qU; rw [List.map_append]; rfl))))).trans ih
theorem Qg (h:Rok bs bk):∃ l:List Pr,uc [.int v,.lst (bs.map bdT)] sto=some (.tup (l.map pT),sto)∧a3b bs l:=by
  have lb:=h.l
  obtain ⟨l,o3,o4,L,h1,h2,h3⟩:=R8 (sto:=sto) (bs:=bs) (v:=v) lb bs.length 0 [] none none (by omega) (by simp [ks]) (fun p hp=>by cases hp) (by simp)
  have nd:(ks l).Nodup:=h1.nodup h.ns.n
  obtain ⟨l',e,pm⟩:=a6j h3 nd
  have pk:(ks l').Perm (ks l):=pm.map _
  refine ⟨l',?_,⟨pk.nodup_iff.mpr nd,fun b hb=>h1.subset (pk.mem_iff.mp hb),fun p hp=>h2 p (pm.mem_iff.mp hp),by rw [pm.length_eq]; exact h3⟩⟩
  have rg:dz (iu jx (ak (bw 1) fj)) (qU v bs [] none none sto)=some ((List.range bs.length).map (fun (k:Nat)=>T.int (k:Int)),qU v bs [] none none sto) :=
    zrg (m:=bs.length) (zm rfl a2l) (by show _<1000000; omega)
  rw [← List.range_eq_range'] at L
  exact zrun (n:=5) (zq (zn rfl) (zq (a1z rg L) (zr (zm (zc (zm (zc rfl rfl) e) rfl) rfl)))) rfl
noncomputable def at' (bk l:List Pr):Int:=(l.map fun p=>p.2 * gt bk p.1).sum
theorem a2u {l:List Pr} (h:Rok bs bk) (hl:a3b bs l):wz [.tup (l.map pT),.dic (dd bk)] sto=some (.int (at' bk l),sto):=by
  have ll:l.length<lim:=by have:=hl.len; show _<1000000; omega
  have co:qp 2 [1] (jz [0,1]) (jo (bw 0)) gw (mOp Ej (bw 1) (mOp gq (bw 2) (bw 0))) ⟨[some (.tup (l.map pT),false),some (.dic (dd bk),false)],sto⟩=some (.lst (l.map fun p=>T.int (p.2 * gt bk p.1)),⟨[some (.tup (l.map pT),false),some (.dic (dd bk),false)],sto⟩):=by
    refine Bv pT _ l (s1:=⟨[some (.tup (l.map pT),false),some (.dic (dd bk),false)],sto⟩) _ [some (.dic (dd bk),false)] (abp rfl ll) rfl rfl rfl (Nat.le_of_lt ll) ?_
    intro p hp pre hpre
    have b0:=hl.bd p hp
    have bb:Af p.2=true:=by unfold Af; rw [decide_eq_true_eq]; omega
    have ig:gq (.dic (dd bk)) (.str p.1)=some (.int (gt bk p.1)):=Ea (by rw [h.k]; exact hl.sub _ (List.mem_map.mpr ⟨p,hp,rfl⟩))
    match pre,hpre with
    | [a,b],_=>exact ⟨[some (.str p.1,false),some (.int p.2,false)],rfl,Vf,rfl,zo rfl (zo rfl rfl ig) (mu bb)⟩
  exact zrun (n:=2) (zr (zm (zc co rfl) acv)) rfl
theorem a3b.u {l:List Pr} (h:Rok bs bk) (hl:a3b bs l):∀ b∈ks l,b∈U4:=fun b hb=>h.ns.u b (hl.sub b hb)
theorem a3b.sm {l:List Pr} {n:Int} (h:Rok bs bk) (hl:a3b bs l):Vs U4 (n,l):=⟨hl.nd,hl.u h⟩
theorem ac7 {B:Str→Int}:∀ {l:List Pr},(ks l).Nodup→(∀ b∈ks l,b∈U4)→(U4.map fun b=>gt l b * B b).sum=(l.map fun p=>p.2 * B p.1).sum
  | [],_,_=>by rw [Vz]; simp [gt]
  | (k,v)::l,nd,hu=>by
    have nd':k∉ks l∧(ks l).Nodup:=List.nodup_cons.mp nd
    have ih:=ac7 (B:=B) nd'.2 fun b hb=>hu b (List.mem_cons_of_mem _ hb)
    have g0:=Pk nd'.1
    have hk:=hu k List.mem_cons_self
    rw [List.map_cons,List.sum_cons,← ih,Vz,Vz]
    simp only [U4,List.mem_cons,List.not_mem_nil,or_false] at hk
    have n1:¬ (Str.ofString "@p" = Str.ofString "x"):=by decide +kernel
    have n2:¬ (Str.ofString "@p" = Str.ofString "y"):=by decide +kernel
    have n3:¬ (Str.ofString "@p" = Str.ofString "z1"):=by decide +kernel
    have n4:¬ (Str.ofString "x" = Str.ofString "y"):=by decide +kernel
    have n5:¬ (Str.ofString "x" = Str.ofString "z1"):=by decide +kernel
    have n6:¬ (Str.ofString "y" = Str.ofString "z1"):=by decide +kernel
    rcases hk with rfl | rfl | rfl | rfl
    · simp only [gt,if_true,if_neg n1,if_neg n2,if_neg n3,g0]; omega
    · simp only [gt,if_true,if_neg (Ne.symm n1),if_neg n4,if_neg n5,g0]; omega
    · simp only [gt,if_true,if_neg (Ne.symm n2),if_neg (Ne.symm n4),if_neg n6,g0]; omega
    · simp only [gt,if_true,if_neg (Ne.symm n3),if_neg (Ne.symm n5),if_neg (Ne.symm n6),g0]; omega
theorem a2w {l:List Pr} {n:Int} (h:Rok bs bk) (hl:a3b bs l):val (gt bk) (n,l)=n+at' bk l:=by
  unfold val at'
  rw [ac7 hl.nd (hl.u h)]
theorem a0l:okA "rest" := ⟨Gm,by decide +kernel,by decide +kernel⟩
theorem Zc:(("rest" : Str)==("most" : Str))=false:=by decide +kernel
theorem Tv (h:Rok bs bk):∃ a:At,vg [.int v,.lst (bs.map bdT),.dic (dd bk)] sto=some (atT a,sto)∧Zg a∧TrA (gt bk) a:=by
  obtain ⟨l,e1,hl⟩:=Qg (sto:=sto) (v:=v / 4) h
  have e2:=a2u (sto:=sto) h hl
  by_cases h2:v%4<2
  · have bb:Af (v%2)=true:=by unfold Af; rw [decide_eq_true_eq]; omega
    refine ⟨⟨"most",(-at' bk l - v%2 * (v / 2500%4),l),[]⟩,?_,Ey (hl.sm h),⟨fun _=>?_,fun h'=>by rw [N5] at h'; cases h'⟩⟩
    · unfold vg
      generalize uc=F1 at *
      generalize wz=F2 at *
      exact zrun (n:=6) (zq (zs (zf0 (zc (zo rfl rfl rfl) rfl) e1)) (zq (zs (zf0 rfl e2)) (zqr (zk (zt (zo (zo rfl rfl rfl) rfl (a9q h2))) (zr (zm (zc rfl (zc (zm (zc (zo (zun rfl rfl) (zo (zo rfl rfl rfl) (zo (zo rfl rfl rfl) rfl rfl) (mu bb)) rfl) (zc rfl rfl)) rfl) rfl)) rfl)))))) rfl
    · rw [a2w h hl]
      have:0≤v%2 * (v / 2500%4):=Int.mul_nonneg (by omega) (by omega)
      omega
  · have bb:Af (2+v / 2500%11)=true:=by unfold Af; rw [decide_eq_true_eq]; omega
    refine ⟨⟨"rest",(-at' bk l+(2+v / 2500%11) * (v / 27500%3 - 1),l),[.int (2+v / 2500%11)]⟩,?_,⟨⟨Gm,hl.sm h,fun _=>⟨_,rfl⟩⟩,a0l⟩,⟨fun h'=>(by rw [Zc] at h'; cases h'),fun _=>?_⟩⟩
    · unfold vg
      generalize uc=F1 at *
      generalize wz=F2 at *
      exact zrun (n:=6) (zq (zs (zf0 (zc (zo rfl rfl rfl) rfl) e1)) (zq (zs (zf0 rfl e2)) (zq (ze (zt (zo (zo rfl rfl rfl) rfl (a9n h2))) rfl) (zq (zs (zo rfl (zo (zo rfl rfl rfl) rfl rfl) rfl)) (zr (zm (zc rfl (zc (zm (zc (zo (zun rfl rfl) (zo rfl (zo (zo (zo rfl rfl rfl) rfl rfl) rfl rfl) (mu bb)) rfl) (zc rfl rfl)) rfl) (zc rfl rfl))) rfl)))))) rfl
    · rw [a2w h hl]
      show (-at' bk l+(2+v / 2500%11) * (v / 27500%3 - 1)+at' bk l)%(2+v / 2500%11)=0
      rw [show -at' bk l+(2+v / 2500%11) * (v / 27500%3 - 1)+at' bk l=(2+v / 2500%11) * (v / 27500%3 - 1) by omega]
      exact Int.mul_emod_right _ _
theorem a1o (h:Rok bs bk):∃ t:Tf,yx [.int v,.lst (bs.map bdT),.dic (dd bk)] sto=some (tfT t,sto)∧Z0 t∧TrT (gt bk) t:=by
  obtain ⟨a,e1,a1,a2⟩:=Tv (sto:=sto) (v:=v / 5) h
  obtain ⟨b,e2,b1,b2⟩:=Tv (sto:=sto) (v:=v / 500000) h
  obtain ⟨l,e3,hl⟩:=Qg (sto:=sto) (v:=v / 63) h
  have c1:Zg ⟨"most",(v / 7%9 - 4,l),[]⟩:=Ey (hl.sm h)
  obtain ⟨c,hc⟩:∃ c:At,c=⟨"most",(v / 7%9 - 4,l),[]⟩:=⟨_,rfl⟩
  rw [← hc] at c1
  have cT':atT c=.tup [.str "most",.tup [.int (v / 7%9 - 4),.tup (l.map pT)]]:=by rw [hc]; rfl
  obtain ⟨t,hm,hi⟩:=Dj tfT [.at a,.at a,.and2 a b,.or [.at c,.at a],.or [.at a,.at c,.no]] (i:=v%5) (by omega) (by simp; omega)
  refine ⟨t,?_,?_,?_⟩
  · have e:([.at a,.at a,.and2 a b,.or [.at c,.at a],.or [.at a,.at c,.no]]:List Tf).map tfT=[atT a,atT a,.tup [.str "and",.tup [atT a,atT b]],.tup [.str "or",.tup [atT c,atT a]],.tup [.str "or",.tup [atT a,atT c,.tup [.str "or",.tup []]]]]:=by
      simp only [List.map_cons,List.map_nil,tfT,tfF,a9p,fmT,a75,foF]
    rw [e,cT'] at hi
    unfold yx
    generalize uc=F1 at *
    generalize vg=F2 at *
    exact zrun (n:=7) (zq (zs (zo rfl rfl rfl)) (zq (zs (zf0 (zc (zo rfl rfl rfl) rfl) e1)) (zq (zs (zf0 (zc (zo rfl rfl rfl) rfl) e2)) (zq (zs (zm (zc rfl (zc (zm (zc (zo (zo (zo rfl rfl rfl) rfl rfl) rfl rfl) (zc (zf0 (zc (zo rfl rfl rfl) rfl) e3) rfl)) rfl) rfl)) rfl)) (zr (zo rfl rfl hi)))))) rfl
  · simp only [List.mem_cons,List.not_mem_nil,or_false] at hm
    rcases hm with rfl | rfl | rfl | rfl | rfl
    · exact a1
    · exact a1
    · exact ⟨a1,b1⟩
    · refine ⟨by simp,fun f hf=>?_⟩
      simp only [List.mem_cons,List.not_mem_nil,or_false] at hf
      rcases hf with rfl | rfl
      · exact c1
      · exact a1
    · refine ⟨by simp,fun f hf=>?_⟩
      simp only [List.mem_cons,List.not_mem_nil,or_false] at hf
      rcases hf with rfl | rfl | rfl
      · exact a1
      · exact c1
      · trivial
  · simp only [List.mem_cons,List.not_mem_nil,or_false] at hm
    rcases hm with rfl | rfl | rfl | rfl | rfl
    · exact a2
    · exact a2
    · exact ⟨a2,b2⟩
    · exact ⟨.at a,by simp,a2⟩
    · exact ⟨.at a,by simp,a2⟩
end
end K
end
noncomputable section
set_option linter.all false
set_option maxRecDepth 100000
set_option maxHeartbeats 1000000
set_option autoImplicit false
namespace K
open C PySem
noncomputable def es:List Int:=[4,44,484,5324]
noncomputable abbrev qV (v many:Int) (tr:Bool) (rows:List (List Int)) (o4 o5:Slot) (sto:List SO):Sta:=⟨[some (.int v,false),some (.int many,false),some (.bl tr,false),some (.lst (rows.map ilT),true),o4,o5],sto⟩
noncomputable abbrev roB:S:=(j9 (jg 5 (mOp gb (bw 0) (mOp gq (iu (fun l=>some (.lst l)) (ak (ao (.int 4)) (ak (ao (.int 44)) (ak (ao (.int 484)) (ak (ao (.int 5324)) fj))))) (bw 4))))
  (sIf (jw (dj (bw 2)) (dj (mOp eqO (mOp jj (bw 5) (ao (.int 2))) (ao (.int 1)))))
  (c7 3 (iu (fun l=>some (.tup l)) (ak (mOp jj (mOp gb (bw 5) (ao (.int 2))) (bw 1)) (ak (mOp jj (mOp gb (bw 5) (ao (.int 4))) (bw 1)) (ak (mOp jk (ao (.int 1)) (mOp jj (mOp gb (bw 5) (ao (.int 8))) (ao (.int 3)))) fj)))))
  (c7 3 (iu (fun l=>some (.tup l)) (ak (mOp jj (mOp gb (bw 5) (ao (.int 2))) (bw 1)) (ak (mOp lq (mOp jj (mOp gb (bw 5) (ao (.int 4))) (ao (.int 8))) (ao (.int 2))) fj))))))
theorem a3x {i:Int} (h:-10000<i) (h2:i<10000):Af i=true:=by unfold Af; rw [decide_eq_true_eq]; omega
noncomputable section
variable {sto:List SO} {bs:List Bd} {bk:List Pr} {v many:Int} {tr:Bool}
noncomputable def a70 (rows:List (List Int)):Prop:=∀ l∈rows,l.length≤100∧∀ n∈l,Af n=true
theorem a70.add {rows:List (List Int)} {l:List Int} (h:a70 rows) (h2:l.length≤100∧∀ n∈l,Af n=true):a70 (rows++[l]):=fun x hx=>by
  rcases List.mem_append.mp hx with z | z
  · exact h x z
  · rw [List.mem_singleton] at z; subst z; exact h2
theorem Qs (mp:0<many) (ml:many≤1000):∀ (m k:Nat) (rows:List (List Int)) (o4 o5:Slot),k+m≤4→a70 rows→rows.length≤k →
    ∃ (rows':List (List Int)) (o4' o5':Slot),forL (hName 4) roB ((List.range' k m).map fun (j:Nat)=>T.int (j:Int)) (qV v many tr rows o4 o5 sto)=some (.next,qV v many tr rows' o4' o5' sto)∧a70 rows'∧rows'.length≤4
  | 0,k,rows,o4,o5,hk,h1,h2=>⟨rows,o4,o5,by simp [forL],h1,by omega⟩
  | m+1,k,rows,o4,o5,hk,h1,h2=>by
    have hk4:k<es.length:=by show k<4; omega
    have i1:=Cm T.int es hk4
    have dp:0<es[k]∧es[k]<1073741824:=by
      have:∀ x∈es,0<x∧x<1073741824:=by decide
      exact this _ (List.getElem_mem hk4)
    have st1:jg 5 (mOp gb (bw 0) (mOp gq (iu (fun l=>some (.lst l)) (ak (ao (.int 4)) (ak (ao (.int 44)) (ak (ao (.int 484)) (ak (ao (.int 5324)) fj))))) (bw 4))) (qV v many tr rows (some (.int (k:Int),false)) o5 sto)=some (.next,qV v many tr rows (some (.int (k:Int),false)) (some (.int (v / es[k]),false)) sto) :=
      ys (zo rfl (zo rfl rfl i1) (fd dp.1 dp.2)) rfl
    generalize v / es[k]=w at st1
    have la:rows.length<lim:=by show _<1000000; omega
    have cd:jw (dj (bw 2)) (dj (mOp eqO (mOp jj (bw 5) (ao (.int 2))) (ao (.int 1)))) (qV v many tr rows (some (.int (k:Int),false)) (some (.int w,false)) sto)=some (tr&&(w%2==1),qV v many tr rows (some (.int (k:Int),false)) (some (.int w,false)) sto):=ad2 (zt rfl) (zt (zo (zo rfl rfl rfl) rfl qw))
    have p1:=Int.emod_nonneg (w / 2) (show many≠0 by omega)
    have p2:=Int.emod_lt_of_pos (w / 2) mp
    have p3:=Int.emod_nonneg (w / 4) (show many≠0 by omega)
    have p4:=Int.emod_lt_of_pos (w / 4) mp
    cases hc:(tr&&(w%2==1)) with
    | true =>
      rw [hc] at cd
      obtain ⟨rows',a,b,ih,q⟩:=Qs mp ml m (k+1) (rows++[[w / 2%many,w / 4%many,1+w / 8%3]]) (some (.int (k:Int),false)) (some (.int w,false)) (by omega) (h1.add ⟨by simp,fun n hn=>by
        simp only [List.mem_cons,List.not_mem_nil,or_false] at hn
        rcases hn with rfl | rfl | rfl <;> exact a3x (by omega) (by omega)⟩) (by rw [List.length_append,List.length_singleton]; omega)
      refine ⟨rows',a,b,?_,q⟩
      rw [List.range'_succ,List.map_cons]
      exact (Io (t:=.int (k:Int)) rfl (zq st1 (zk cd (za (zm (zc (zo (zo rfl rfl rfl) rfl (md mp)) (zc (zo (zo rfl rfl rfl) rfl (md mp)) (zc (zo rfl (zo (zo rfl rfl rfl) rfl rfl) rfl) rfl))) rfl) rfl (by rw [List.length_map]; exact la) rfl (by unfold qV; rw [List.map_append]; rfl))))).trans ih
    | false =>
      rw [hc] at cd
      obtain ⟨rows',a,b,ih,q⟩:=Qs mp ml m (k+1) (rows++[[w / 2%many,w / 4%8 - 2]]) (some (.int (k:Int),false)) (some (.int w,false)) (by omega) (h1.add ⟨by simp,fun n hn=>by
        simp only [List.mem_cons,List.not_mem_nil,or_false] at hn
        rcases hn with rfl | rfl <;> exact a3x (by omega) (by omega)⟩) (by rw [List.length_append,List.length_singleton]; omega)
      refine ⟨rows',a,b,?_,q⟩
      rw [List.range'_succ,List.map_cons]
      exact (Io (t:=.int (k:Int)) rfl (zq st1 (ze cd (za (zm (zc (zo (zo rfl rfl rfl) rfl (md mp)) (zc (zo (zo (zo rfl rfl rfl) rfl rfl) rfl rfl) rfl)) rfl) rfl (by rw [List.length_map]; exact la) rfl (by unfold qV; rw [List.map_append]; rfl))))).trans ih
theorem Zr (mp:0<many) (ml:many≤1000):∃ rows:List (List Int),uq [.int v,.int many,.bl tr] sto=some (rsT rows,sto)∧a3s rows:=by
  obtain ⟨rows,o4,o5,L,h1,h2⟩:=Qs (sto:=sto) (v:=v) (tr:=tr) mp ml (1+v%4).toNat 0 [] none none (by omega) (fun l hl=>by cases hl) (by simp)
  have rg:dz (mOp jk (ao (.int 1)) (mOp jj (bw 0) (ao (.int 4)))) (qV v many tr [] none none sto)=some ((List.range (1+v%4).toNat).map (fun (k:Nat)=>T.int (k:Int)),qV v many tr [] none none sto) :=
    zrg (m:=(1+v%4).toNat) (by rw [Int.toNat_of_nonneg (by omega)]; exact zo rfl (zo rfl rfl rfl) rfl) (by show _<1000000; omega)
  rw [← List.range_eq_range'] at L
  exact ⟨rows,zrun (n:=6) (zq (zn rfl) (zq (a1z rg L) (zr (zm (zc rfl rfl) rfl)))) rfl,by omega,h1⟩
noncomputable abbrev W4p:=Slot × Slot × Slot × Slot
noncomputable abbrev qP (bs:List Bd) (bk:List Pr) (many:Int) (deep:Nat) (o5 o6:Slot) (w:W4p) (cl:List Int):Sta:=⟨[some (.obj 0,false),some (.lst (bs.map bdT),false),some (.dic (dd bk),false),some (.int many,false),some (.int (deep:Int),false),o5,o6,w.1,w.2.1,w.2.2.1,w.2.2.2],[.lst (cl.map T.int)]⟩
theorem aaj {deep:Nat} {o5 o6:Slot} {w:W4p} {cl:List Int}:Bp (bw 0) (qP bs bk many deep o5 o6 w cl)=some (.int (cl.length:Int),qP bs bk many deep o5 o6 w cl):=by
  show some (T.int ((cl.map T.int).length:Int),qP bs bk many deep o5 o6 w cl)=_
  rw [List.length_map]
theorem aao {a c:Int} (h:c<a):gtT (.int a) (.int c)=some (.bl true):=by show some (T.bl (decide (c<a)))=_; rw [decide_eq_true h]
theorem aar {a c:Int} (h:¬ c<a):gtT (.int a) (.int c)=some (.bl false):=by show some (T.bl (decide (c<a)))=_; rw [decide_eq_false h]
theorem acg {deep:Nat} {o6:Slot} {w:W4p} {cl:List Int}:∃ (c:Int) (cl1:List Int),sIf (dj (mOp gtT (Bp (bw 0)) (ao (.int 0)))) (Gk 0 5) jt (qP bs bk many deep (some (.int 0,false)) o6 w cl)=some (.next,qP bs bk many deep (some (.int c,false)) o6 w cl1)∧(cl=[]∧cl1=[]∨cl.length=cl1.length+1):=by
  cases hcl:cl with
  | nil=>exact ⟨0,[],ze (zt (zo aaj rfl (aar (by simp)))) rfl,.inl ⟨rfl,rfl⟩⟩
  | cons x l =>
    rw [← hcl]
    have hne:cl≠[]:=by rw [hcl]; simp
    have hl:0<cl.length:=List.length_pos_iff.mpr hne
    refine ⟨cl.getLast hne,cl.dropLast,zk (zt (zo aaj rfl (aao (by omega)))) ?_,.inr (by rw [List.length_dropLast]; omega)⟩
    have e1:(cl.map T.int)[(cl.map T.int).length - 1]? = some (.int (cl.getLast hne)):=by
      rw [List.length_map,List.getElem?_map,← List.getLast?_eq_getElem?,List.getLast?_eq_getLast hne]; rfl
    have e2:(cl.map T.int).dropLast=cl.dropLast.map T.int:=by rw [List.map_dropLast]
    show (match (cl.map T.int)[(cl.map T.int).length - 1]? with | some t=>some (C.Flow.next,bh 5 t false { qP bs bk many deep (some (.int 0,false)) o6 w cl with sto:=[SO.lst (cl.map T.int)].set 0 (.lst (cl.map T.int).dropLast) }) | none=>none)=_
    rw [e1,e2]
    rfl
structure Pap (bs:List Bd) (deep:Nat) (cl cl':List Int) (p:P):Prop where
  o:okP (bs.map (·.1)) p
  l:cl'.length≤cl.length
  s:sz p+3 * cl'.length≤1+3 * cl.length
  d:dep p≤deep
noncomputable abbrev a5p (n:Nat):M T:=(dw (qg n) (ak (bw 0) (ak (bw 1) (ak (bw 2) (ak (mOp jk (bw 3) (ao (.int 1))) (ak (mOp lq (bw 4) (ao (.int 1))) fj))))))
noncomputable def Ih (bs:List Bd) (bk:List Pr) (n:Nat) (many:Int) (deep:Nat):Prop:=∀ cl:List Int,∃ (p:P) (cl':List Int),qg n [.obj 0,.lst (bs.map bdT),.dic (dd bk),.int many,.int (deep:Int)] [.lst (cl.map T.int)]=some (paT p,[.lst (cl'.map T.int)])∧Pap bs deep cl cl' p
theorem Y5 {n deep:Nat} {o5 o6:Slot} {w:W4p} {cl:List Int} (ih:Ih bs bk n (many+1) deep):∃ (p:P) (cl':List Int),a5p n (qP bs bk many (deep+1) o5 o6 w cl)=some (paT p,qP bs bk many (deep+1) o5 o6 w cl')∧Pap bs deep cl cl' p:=by
  obtain ⟨p,cl',e,q⟩:=ih cl
  refine ⟨p,cl',?_,q⟩
  have sb:lq (.int ((deep+1:Nat):Int)) (.int 1)=some (.int (deep:Int)):=by
    show some (T.int (((deep+1:Nat):Int) - 1))=_
    rw [show ((deep+1:Nat):Int) - 1=(deep:Int) by omega]
  unfold a5p
  have ag:(ak (bw 0) (ak (bw 1) (ak (bw 2) (ak (mOp jk (bw 3) (ao (.int 1))) (ak (mOp lq (bw 4) (ao (.int 1))) fj))))) (qP bs bk many (deep+1) o5 o6 w cl)=some ([.obj 0,.lst (bs.map bdT),.dic (dd bk),.int (many+1),.int (deep:Int)],qP bs bk many (deep+1) o5 o6 w cl):=zc rfl (zc rfl (zc rfl (zc (zo rfl rfl rfl) (zc (zo rfl rfl sb) rfl))))
  exact zf ag e
theorem Xx {n deep:Nat} {c kd:Slot} {o7 o9:Slot} (ih:Ih bs bk n (many+1) deep):∀ (m k:Nat) (ps:List P) (o8:Slot) (cl:List Int),ps.length+m≤10→a2q (bs.map (·.1)) ps→deps ps≤deep →
    ∃ (ps':List P) (o8':Slot) (cl':List Int),forL (hName 8) (c7 10 (a5p n)) ((List.range' k m).map fun (j:Nat)=>T.int (j:Int)) (qP bs bk many (deep+1) c kd (o7,o8,o9,some (.lst (ps.map paT),true)) cl)=some (.next,qP bs bk many (deep+1) c kd (o7,o8',o9,some (.lst (ps'.map paT),true)) cl')∧a2q (bs.map (·.1)) ps'∧deps ps'≤deep∧cl'.length≤cl.length∧szs ps'+3 * cl'.length≤szs ps+m+3 * cl.length∧ps'.length≤ps.length+m
  | 0,k,ps,o8,cl,_,h1,h2=>⟨ps,o8,cl,by simp [forL],h1,h2,Nat.le_refl _,by omega,by omega⟩
  | m+1,k,ps,o8,cl,hl,h1,h2=>by
    obtain ⟨p,cl1,e,q⟩:=Y5 (o5:=c) (o6:=kd) (w:=(o7,some (.int (k:Int),false),o9,some (.lst (ps.map paT),true))) (cl:=cl) ih
    have app:∀ (l:List P),a2q (bs.map (·.1)) l→a2q (bs.map (·.1)) (l++[p])∧deps (l++[p])≤max (deps l) (dep p)∧szs (l++[p])=szs l+sz p:=by
      intro l
      induction l with
      | nil=>intro _; exact ⟨⟨q.o,trivial⟩,by simp [deps],by simp [szs]⟩
      | cons a l ih' =>
        intro z
        obtain ⟨i1,i2,i3⟩:=ih' z.2
        rw [List.cons_append]
        refine ⟨⟨z.1,i1⟩,?_,?_⟩
        · simp only [deps]; omega
        · simp only [szs]; omega
    obtain ⟨a1,a2,a3⟩:=app ps h1
    have qd:=q.d
    have ql:=q.l
    have qs:=q.s
    obtain ⟨ps',o8',cl',ih',r1,r2,r3,r4,r5⟩:=Xx ih m (k+1) (ps++[p]) (some (.int (k:Int),false)) cl1 (by rw [List.length_append,List.length_singleton]; omega) a1 (by omega)
    refine ⟨ps',o8',cl',?_,r1,r2,by omega,by omega,by rw [List.length_append,List.length_singleton] at r5; omega⟩
    rw [List.range'_succ,List.map_cons]
    exact (Io (t:=.int (k:Int)) rfl (za e rfl (by rw [List.length_map]; show _<1000000; omega) rfl (by unfold qP bh; rw [List.map_append]; rfl))).trans ih'
theorem Oj (h:Rok bs bk) (l1:1≤bs.length):∀ (f deep:Nat) (many:Int),deep<f→0<many→many+deep≤900→Ih bs bk f many deep
  | 0,deep,many,hf,_,_=>by omega
  | f+1,deep,many,hf,mp,ml=>by
    intro cl
    have lb:=h.l
    obtain ⟨c,cl1,hd,hcl⟩:=acg (bs:=bs) (bk:=bk) (many:=many) (deep:=deep) (o6:=none) (w:=(none,none,none,none)) (cl:=cl)
    obtain ⟨s1,hs1⟩:∃ s1:Sta,s1=qP bs bk many deep (some (.int c,false)) (some (.int (c%7),false)) (none,none,none,none) cl1:=⟨_,rfl⟩
    have head:∀ {t:T} {s2:Sta} {y:C.S} {z:List SO},y s1=some (.ret t,s2)→s2.sto=z→gk 11 (j9 (jg 5 (ao (.int 0))) (j9 (sIf (dj (mOp gtT (Bp (bw 0)) (ao (.int 0)))) (Gk 0 5) jt) (j9 (jg 6 (mOp jj (bw 5) (ao (.int 7)))) y))) [.obj 0,.lst (bs.map bdT),.dic (dd bk),.int many,.int (deep:Int)] [.lst (cl.map T.int)]=some (t,z):=by
      intro t s2 y z hy hz
      subst hs1
      exact zrun (n:=11) (zq (s1:=qP bs bk many deep (some (.int 0,false)) none (none,none,none,none) cl) rfl (zq hd (zq (zs (zo rfl rfl rfl)) hy))) hz
    have c1:dj (mOp eqO (bw 4) (ao (.int 0))) s1=some ((deep:Int)==0,s1):=by subst hs1; exact zt (zo rfl rfl qw)
    have c2:dj (mOp eqO (Bp (bw 0)) (ao (.int 0))) s1=some ((cl1.length:Int)==0,s1):=by subst hs1; exact zt (zo aaj rfl qw)
    have c3:dj (mOp ltT (bw 6) (ao (.int 2))) s1=some (decide (c%7<2),s1):=by subst hs1; exact zt (zo rfl rfl rfl)
    have ll:cl1.length≤cl.length:=by
      rcases hcl with ⟨z1,z2⟩ | z
      · rw [z1,z2]; exact Nat.le_refl _
      · omega
    rw [qg]
    by_cases lf:(deep:Int)=0∨(cl1.length:Int)=0∨c%7<2
    · have cc:mOr (dj (mOp eqO (bw 4) (ao (.int 0)))) (mOr (dj (mOp eqO (Bp (bw 0)) (ao (.int 0)))) (dj (mOp ltT (bw 6) (ao (.int 2))))) s1=some (true,s1):=by
        by_cases q1:(deep:Int)=0
        · rw [q1] at c1; exact ac3 c1
        rw [beq_eq_false_iff_ne.mpr q1] at c1
        by_cases q2:(cl1.length:Int)=0
        · rw [q2] at c2; exact a73 c1 (ac3 c2)
        rw [beq_eq_false_iff_ne.mpr q2] at c2
        have q3:c%7<2:=by
          rcases lf with z | z | z
          · exact absurd z q1
          · exact absurd z q2
          · exact z
        rw [decide_eq_true q3] at c3
        exact a73 c1 (a73 c2 c3)
      by_cases h2:c / 7%2=0
      · obtain ⟨rows,e,ok⟩:=Zr (sto:=[.lst (cl1.map T.int)]) (v:=c / 14) (tr:=false) mp (by omega)
        refine ⟨.sum rows,cl1,?_,⟨by simpa only [okP] using ok,ll,by simp only [sz]; omega,by simp only [dep]; omega⟩⟩
        have pe:paT (.sum rows)=.tup [.str "sum",rsT rows]:=by simp only [paT]
        rw [pe]
        refine head (s2:=qP bs bk many deep (some (.int c,false)) (some (.int (c%7),false)) (none,none,none,none) cl1) (zqr (zk cc ?_)) rfl
        subst hs1
        exact zqr (zk (zt (zo (zo (zo rfl rfl rfl) rfl rfl) rfl (eq_i (by rw [h2]; rfl)))) (zr (zm (zc rfl (zc (zf0 (zc (zo rfl rfl rfl) rfl) e) rfl)) rfl)))
      · obtain ⟨rows,e,ok⟩:=Zr (sto:=[.lst (cl1.map T.int)]) (v:=c / 154) (tr:=true) mp (by omega)
        refine ⟨.rest (2+c / 14%11) rows,cl1,?_,⟨by simpa only [okP] using ok,ll,by simp only [sz]; omega,by simp only [dep]; omega⟩⟩
        have pe:paT (.rest (2+c / 14%11) rows)=.tup [.str "rest",.int (2+c / 14%11),rsT rows]:=by simp only [paT]
        rw [pe]
        refine head (s2:=qP bs bk many deep (some (.int c,false)) (some (.int (c%7),false)) (none,none,none,none) cl1) (zqr (zk cc ?_)) rfl
        subst hs1
        exact zq (ze (zt (zo (zo (zo rfl rfl rfl) rfl rfl) rfl (eq_i (beq_eq_false_iff_ne.mpr h2)))) rfl) (zr (zm (zc rfl (zc (zo rfl (zo (zo rfl rfl rfl) rfl rfl) rfl) (zc (zf0 (zc (zo rfl rfl rfl) rfl) e) rfl))) rfl))
    · have q1:¬ (deep:Int)=0:=fun z=>lf (.inl z)
      have q2:¬ (cl1.length:Int)=0:=fun z=>lf (.inr (.inl z))
      have q3:¬ c%7<2:=fun z=>lf (.inr (.inr z))
      rw [beq_eq_false_iff_ne.mpr q1] at c1
      rw [beq_eq_false_iff_ne.mpr q2] at c2
      rw [decide_eq_false q3] at c3
      have cc:=a73 c1 (a73 c2 c3)
      have hcl':cl.length=cl1.length+1:=by
        rcases hcl with ⟨z1,z2⟩ | z
        · rw [z2] at q2; exact absurd rfl q2
        · exact z
      obtain ⟨dp,rfl⟩:∃ dp:Nat,deep=dp+1:=⟨deep - 1,by omega⟩
      have ih:=Oj h l1 f dp (many+1) (by omega) (by omega) (by omega)
      by_cases h5:c%7<5
      · have p0:(0:Int)<bs.length:=by omega
        have m0:=Int.emod_nonneg (c / 7) (show (bs.length:Int)≠0 by omega)
        have m1:=Int.emod_lt_of_pos (c / 7) p0
        obtain ⟨r,hr,ir⟩:=Dj bdT bs m0 m1
        have i0:gq (bdT r) (.int 0)=some (.str r.1):=rm
        have hm:r.1∈bs.map (·.1):=List.mem_map.mpr ⟨r,hr,rfl⟩
        have ig:gq (.dic (dd bk)) (.str r.1)=some (.int (gt bk r.1)):=Ea (by rw [h.k]; exact hm)
        obtain ⟨p,cl2,e1,k1⟩:=Y5 (o5:=some (.int c,false)) (o6:=some (.int (c%7),false)) (w:=(some (.str r.1,false),some (.int (gt bk r.1+c / 28%5 - 2),false),none,none)) (cl:=cl1) ih
        obtain ⟨p',cl3,e2,k2⟩:=Y5 (o5:=some (.int c,false)) (o6:=some (.int (c%7),false)) (w:=(some (.str r.1,false),some (.int (gt bk r.1+c / 28%5 - 2),false),some (paT p,false),none)) (cl:=cl2) ih
        have z1:=k1.l
        have z2:=k1.s
        have z3:=k1.d
        have z4:=k2.l
        have z5:=k2.s
        have z6:=k2.d
        refine ⟨.cut r.1 (gt bk r.1+c / 28%5 - 2) p p',cl3,?_,⟨by simp only [okP]; exact ⟨hm,k1.o,k2.o⟩,by omega,by simp only [sz]; omega,by simp only [dep]; omega⟩⟩
        have pe:paT (.cut r.1 (gt bk r.1+c / 28%5 - 2) p p')=.tup [.str "cut",.str r.1,.int (gt bk r.1+c / 28%5 - 2),paT p,paT p']:=by simp only [paT]
        rw [pe]
        refine head (s2:=qP bs bk many (dp+1) (some (.int c,false)) (some (.int (c%7),false)) (some (.str r.1,false),some (.int (gt bk r.1+c / 28%5 - 2),false),some (paT p,false),none) cl3) (zq (ze cc rfl) ?_) rfl
        subst hs1
        exact zqr (zk (zt (zo rfl rfl (a9q h5))) (zq (zs (zo (zo rfl (zo (zo rfl rfl rfl) (zm rfl a2l) (md p0)) ir) rfl i0)) (zq (s1:=qP bs bk many (dp+1) (some (.int c,false)) (some (.int (c%7),false)) (some (.str r.1,false),some (.int (gt bk r.1+c / 28%5 - 2),false),none,none) cl1) (ys (zo (zo (zo rfl rfl ig) (zo (zo rfl rfl rfl) rfl rfl) rfl) rfl rfl) rfl) (zq (s1:=qP bs bk many (dp+1) (some (.int c,false)) (some (.int (c%7),false)) (some (.str r.1,false),some (.int (gt bk r.1+c / 28%5 - 2),false),some (paT p,false),none) cl2) (ys e1 rfl) (zr (zm (zc rfl (zc rfl (zc rfl (zc rfl (zc e2 rfl))))) rfl))))))
      · obtain ⟨ps,o8,cl2,L,r1,r2,r3,r4,r5⟩:=Xx (c:=some (.int c,false)) (kd:=some (.int (c%7),false)) (o7:=none) (o9:=none) ih (c / 7%4).toNat 0 [] none cl1 (by simp; omega) trivial (by simp [deps])
        simp only [szs] at r4
        refine ⟨.orp (c / 28%4).toNat ps,cl2,?_,⟨by simp only [okP]; exact ⟨by simp at r5; omega,r1⟩,by omega,by simp only [sz]; omega,by simp only [dep]; omega⟩⟩
        have pe:paT (.orp (c / 28%4).toNat ps)=.tup [.str "or",.int (c / 28%4),.tup (ps.map paT)]:=by
          simp only [paT]; rw [Ls,Int.toNat_of_nonneg (by omega)]
        rw [pe]
        rw [← List.range_eq_range'] at L
        have rg:dz (mOp jj (mOp gb (bw 5) (ao (.int 7))) (ao (.int 4))) (qP bs bk many (dp+1) (some (.int c,false)) (some (.int (c%7),false)) (none,none,none,some (.lst ([].map paT),true)) cl1)=some ((List.range (c / 7%4).toNat).map (fun (k:Nat)=>T.int (k:Int)),qP bs bk many (dp+1) (some (.int c,false)) (some (.int (c%7),false)) (none,none,none,some (.lst ([].map paT),true)) cl1) :=
          zrg (m:=(c / 7%4).toNat) (by rw [Int.toNat_of_nonneg (by omega)]; exact zo (zo rfl rfl rfl) rfl rfl) (by show _<1000000; omega)
        refine head (s2:=qP bs bk many (dp+1) (some (.int c,false)) (some (.int (c%7),false)) (none,o8,none,some (.lst (ps.map paT),false)) cl2) (zq (ze cc rfl) ?_) rfl
        subst hs1
        exact zq (ze (zt (zo rfl rfl (a9n h5))) rfl) (zq (s1:=qP bs bk many (dp+1) (some (.int c,false)) (some (.int (c%7),false)) (none,none,none,some (.lst ([].map paT),true)) cl1) rfl (zq (a1z rg L) (zr (zm (zc rfl (zc (zo (zo rfl rfl rfl) rfl rfl) (zc (zm (zc rfl rfl) rfl) rfl))) rfl))))
end
end K
end
noncomputable section
set_option linter.all false
set_option maxRecDepth 100000
set_option maxHeartbeats 1000000
set_option autoImplicit false
namespace K
open C PySem
noncomputable def held (bs:List Bd) (bk:List Pr):List Bd:=bs.map fun r=>(r.1,gt bk r.1,gt bk r.1)
noncomputable def gr (bk:List Pr) (p:Pr):Sm × Int:=if p.2<0 then ((-gt bk p.1,[(p.1,1)]),-p.2) else ((gt bk p.1,[(p.1,-1)]),p.2)
noncomputable def rowOf (i:Nat) (t:Int):List Int:=[2 * (i:Int)+(if decide (t<0) then 1 else 0),if t<0 then -t else t]
noncomputable def Hold (A:List At) (bs:List Bd) (bk:List Pr):Prop:=∀ i (h:i<bs.length),A[2 * i]? = some (aL bs[i].1 (gt bk bs[i].1))∧A[2 * i+1]? = some (aM bs[i].1 (gt bk bs[i].1))
theorem Oo {A:List At} {bk:List Pr}:∀ {bs:List Bd},Hold (bounds (held bs bk)++A) bs bk
  | [],i,h=>by simp at h
  | r::bs,0,h=>⟨rfl,rfl⟩
  | r::bs,i+1,h=>by
    have:=Oo (A:=A) (bk:=bk) (bs:=bs) i (by simpa using h)
    exact this
noncomputable section
variable {A:List At} {bs:List Bd} {bk:List Pr} {sto:List SO}
theorem a0f {i:Nat} {p:Pr} (h:Hold A bs bk) (hi:i<bs.length) (e:bs[i].1=p.1) (hp:¬ p.2=0):look A (rowOf i p.2)=some (gr bk p):=by
  obtain ⟨h1,h2⟩:=h i hi
  rw [e] at h1 h2
  unfold rowOf look gr
  by_cases q:p.2<0
  · have c:0≤2 * (i:Int)+1∧0 < -p.2:=⟨by omega,by omega⟩
    have t:(2 * (i:Int)+1).toNat=2 * i+1:=by omega
    simp only [decide_eq_true q,if_true,if_pos q,if_pos c,t,h2]
    rfl
  · have c:0≤2 * (i:Int)+0∧0<p.2:=⟨by omega,by omega⟩
    have t:(2 * (i:Int)+0).toNat=2 * i:=by omega
    simp only [decide_eq_false q,Bool.false_eq_true,if_false,if_neg q]
    rw [if_pos c,t,h1]
    rfl
theorem a91 {f:List Int→Option (Sm × Int)}:∀ {rs:List (List Int)} {gs:List (Sm × Int)},rs.map f=gs.map some→rs.filterMap f=gs∧rs.all (fun l=>(f l).isSome)=true
  | [],[],_=>⟨rfl,rfl⟩
  | [],g::gs,h=>by simp at h
  | r::rs,[],h=>by simp at h
  | r::rs,g::gs,h=>by
    rw [List.map_cons,List.map_cons,List.cons.injEq] at h
    obtain ⟨i1,i2⟩:=a91 h.2
    rw [List.filterMap_cons,h.1,i1,List.all_cons,i2,h.1]
    exact ⟨rfl,rfl⟩
theorem ac5:∀ l:List Pr,cN (l.map (gr bk))=at' bk l
  | []=>rfl
  | p::l=>by
    have ih:=ac5 l
    unfold cN at' at *
    rw [List.map_cons,List.map_cons,List.map_cons,List.sum_cons,List.sum_cons,ih]
    congr 1
    unfold gr
    by_cases q:p.2<0
    · rw [if_pos q]; dsimp only; rw [Int.neg_mul_neg]
    · rw [if_neg q]
theorem abu {b:Str}:∀ l:List Pr,cF (l.map (gr bk)) b = - tot l b
  | []=>rfl
  | p::l=>by
    have ih:=abu (b:=b) l
    unfold cF at *
    rw [List.map_cons,List.map_cons,List.sum_cons,ih,tot]
    have:(gr bk p).2 * gt (gr bk p).1.2 b = - (if p.1=b then p.2 else 0):=by
      unfold gr
      by_cases q:p.2<0
      · rw [if_pos q]; dsimp only
        by_cases z:p.1=b
        · rw [if_pos z,gt,if_pos z]; omega
        · rw [if_neg z,gt,if_neg z,gt]; omega
      · rw [if_neg q]; dsimp only
        by_cases z:p.1=b
        · rw [if_pos z,gt,if_pos z]; omega
        · rw [if_neg z,gt,if_neg z,gt]; omega
    rw [this]; omega
theorem a1l {rs:List (List Int)} {l:List Pr} {n:Int} {k:Str} (hl:a3b bs l) (hn:0<n+at' bk l) (e:rs.map (look A)=(((n,l),1)::l.map (gr bk)).map some):Fg U4 A rs=true:=by
  obtain ⟨e1,e2⟩:=a91 e
  unfold Fg fin
  rw [e1,e2]
  have c1:cN (((n,l),1)::l.map (gr bk))=n+at' bk l:=by
    have:=ac5 (bk:=bk) l
    unfold cN at *
    rw [List.map_cons,List.sum_cons,this]; dsimp only; omega
  have c2:∀ b,cF (((n,l),1)::l.map (gr bk)) b=0:=fun b=>by
    have:=abu (bk:=bk) (b:=b) l
    unfold cF at *
    rw [List.map_cons,List.sum_cons,this,O9 hl.nd]; dsimp only; omega
  have c3:canon U4 (cF (((n,l),1)::l.map (gr bk)))=[]:=by
    unfold canon
    rw [List.filter_eq_nil_iff.mpr fun b _=>by rw [c2 b]; decide]
    rfl
  dsimp only
  rw [c1,c3,decide_eq_true hn]
  rfl
theorem a87 {b:Str} (hb:okS b):∀ (ns:List Str) (d:Nat),(∀ y∈ns,okS y)→b∈ns→∃ (i:Nat) (h:i<ns.length),a0m (.str b) (ns.map T.str) d=some (i+d)∧ns[i]=b
  | [],d,_,h=>by cases h
  | x::ns,d,ok,h=>by
    have e:eqD (.str x) (.str b)=some (x==b):=Za (ok x List.mem_cons_self) hb
    rw [List.map_cons,a0m,e]
    by_cases q:x=b
    · rw [beq_iff_eq.mpr q]
      exact ⟨0,by simp,by simp,by simpa using q⟩
    · rw [beq_eq_false_iff_ne.mpr q]
      obtain ⟨i,hi,e1,e2⟩:=a87 hb ns (d+1) (fun y hy=>ok y (List.mem_cons_of_mem _ hy)) (by rcases List.mem_cons.mp h with z | z; exact absurd z.symm q; exact z)
      refine ⟨i+1,by simpa using hi,?_,by simpa using e2⟩
      dsimp only
      rw [e1,show i+(d+1)=i+1+d by omega]
theorem Wy {b:Str} (hb:okS b):∀ (ns:List Str),(∀ y∈ns,okS y)→(inL (.str b) (ns.map T.str)).isSome=true
  | [],_=>rfl
  | x::ns,ok=>by
    obtain ⟨c,hc⟩:=Option.isSome_iff_exists.mp (Wy hb ns fun y hy=>ok y (List.mem_cons_of_mem _ hy))
    have e:eqD (.str x) (.str b)=some (x==b):=Za (ok x List.mem_cons_self) hb
    rw [List.map_cons,inL,e,hc]; rfl
theorem a1r {b:Str} (h:Rok bs bk) (hb:b∈bs.map (·.1)):∃ (i:Nat) (hi:i<bs.length),J6 (.lst (bs.map fun r=>T.str r.1)) (.str b)=some (.int (i:Int))∧bs[i].1=b:=by
  have ok:∀ y∈bs.map (·.1),okS y:=fun y hy=>ok4 y (h.ns.u y hy)
  obtain ⟨i,hi,e1,e2⟩:=a87 (ok b hb) (bs.map (·.1)) 0 ok hb
  have e3:=Wy (ok b hb) (bs.map (·.1)) ok
  have em:(bs.map (·.1)).map T.str=bs.map fun r=>T.str r.1:=by rw [List.map_map]; rfl
  rw [em] at e1 e3
  have hl:=h.l
  have hi':i<bs.length:=by simpa using hi
  refine ⟨i,hi',?_,by simpa using e2⟩
  have hd:(dat (.str b)).isSome=true:=by rw [Gh (ok b hb)]; rfl
  unfold J6
  dsimp only
  rw [if_pos ⟨by rw [List.length_map]; show _<1000000; omega,hd,e3⟩,e1]
  rfl
noncomputable abbrev faB:S:=(j9 (jg 10 (mOp J6 (qp 1 [] (hName 0) (jo (bw 0)) gw (mOp gq (bw 0) (ao (.int 0)))) (bw 8)))
  (c7 7 (iu (fun l=>some (.tup l)) (ak (mOp jk (mOp Ej (ao (.int 2)) (bw 10)) (iu W2 (ak (mOp ltT (bw 9) (ao (.int 0))) fj))) (ak (iu ni (ak (bw 9) fj)) fj)))))
noncomputable abbrev W6f:=Slot × Slot × Slot × Slot × Slot × Slot
noncomputable abbrev qF (bs:List Bd) (w:W6f) (rs:List (List Int)) (o8 o9 o10:Slot) (sto:List SO):Sta:=⟨[some (.lst (bs.map bdT),false),w.1,w.2.1,w.2.2.1,w.2.2.2.1,w.2.2.2.2.1,w.2.2.2.2.2,some (.lst (rs.map ilT),true),o8,o9,o10,none,none,none,none,none],sto⟩
theorem X6 {w:W6f} (h:Rok bs bk):∀ (l:List Pr) (rs:List (List Int)) (o8 o9 o10:Slot),(∀ p∈l,p.1∈bs.map (·.1))→(∀ p∈l,-2≤p.2∧p.2≤2∧¬ p.2=0)→rs.length+l.length≤10 →
    ∃ (rs':List (List Int)) (o8' o9' o10':Slot),forL (jz [8,9]) faB (l.map pT) (qF bs w rs o8 o9 o10 sto)=some (.next,qF bs w (rs++rs') o8' o9' o10' sto)∧rs'.length=l.length∧a70 rs'∧∀ A,Hold A bs bk→rs'.map (look A)=(l.map (gr bk)).map some
  | [],rs,o8,o9,o10,_,_,_=>⟨[],o8,o9,o10,by rw [List.append_nil]; rfl,rfl,fun l hl=>(by cases hl),fun A _=>rfl⟩
  | p::l,rs,o8,o9,o10,h1,h2,h3=>by
    have lb:=h.l
    have hp:=h2 p List.mem_cons_self
    rw [List.length_cons] at h3
    obtain ⟨i,hi,ei,eb⟩:=a1r h (h1 p List.mem_cons_self)
    obtain ⟨rs',a,b,c,ih,q1,q2,q3⟩:=X6 (w:=w) h l (rs++[rowOf i p.2]) (some (.str p.1,false)) (some (.int p.2,false)) (some (.int (i:Int),false)) (fun x hx=>h1 x (List.mem_cons_of_mem _ hx)) (fun x hx=>h2 x (List.mem_cons_of_mem _ hx)) (by rw [List.length_append,List.length_singleton]; omega)
    have la:rs.length<lim:=by show _<1000000; omega
    have lbl:bs.length<lim:=by show _<1000000; omega
    have co:qp 1 [] (hName 0) (jo (bw 0)) gw (mOp gq (bw 0) (ao (.int 0))) (qF bs w rs (some (.str p.1,false)) (some (.int p.2,false)) o10 sto)=some (.lst (bs.map fun r=>T.str r.1),qF bs w rs (some (.str p.1,false)) (some (.int p.2,false)) o10 sto):=by
      refine Bv bdT _ bs (s1:=qF bs w rs (some (.str p.1,false)) (some (.int p.2,false)) o10 sto) _ [] (zis rfl lbl) rfl rfl rfl (Nat.le_of_lt lbl) ?_
      intro r hr pre hpre
      match pre,hpre with
      | [x],_=>exact ⟨[some (bdT r,false)],rfl,rfl,rfl,zo rfl rfl rm⟩
    have st:faB (qF bs w rs (some (.str p.1,false)) (some (.int p.2,false)) o10 sto)=some (.next,qF bs w (rs++[rowOf i p.2]) (some (.str p.1,false)) (some (.int p.2,false)) (some (.int (i:Int),false)) sto) :=
      zq (s1:=qF bs w rs (some (.str p.1,false)) (some (.int p.2,false)) (some (.int (i:Int),false)) sto) (ys (zo co rfl ei) rfl)
        (za (zm (zc (zo (zo rfl rfl (mu (by decide))) (zm (zc (zo rfl rfl rfl) rfl) rfl) rfl) (zc (zm rfl rfl) rfl)) rfl) rfl (by rw [List.length_map]; exact la) rfl (by unfold qF; rw [List.map_append]; rfl))
    rw [List.append_assoc] at ih
    refine ⟨rowOf i p.2::rs',a,b,c,?_,by rw [List.length_cons,List.length_cons,q1],?_,fun A hA=>?_⟩
    · rw [List.map_cons]
      exact (Io (t:=pT p) Vf st).trans ih
    · intro x hx
      rcases List.mem_cons.mp hx with rfl | hx -- here
      · refine ⟨by simp [rowOf],fun n hn=>?_⟩
        unfold rowOf at hn
        simp only [List.mem_cons,List.not_mem_nil,or_false] at hn
        rcases hn with rfl | rfl
        · by_cases q:p.2<0
          · rw [decide_eq_true q,if_pos rfl]; exact a3x (by omega) (by omega)
          · rw [decide_eq_false q,if_neg (by simp)]; exact a3x (by omega) (by omega)
        · by_cases q:p.2<0
          · rw [if_pos q]; exact a3x (by omega) (by omega)
          · rw [if_neg q]; exact a3x (by omega) (by omega)
      · exact q2 x hx
    · rw [List.map_cons,List.map_cons,List.map_cons,q3 A hA,a0f hA hi eb hp.2.2]
end
end K
end
noncomputable section
set_option linter.all false
set_option maxRecDepth 100000
set_option maxHeartbeats 1000000
set_option autoImplicit false
namespace K
open C PySem
theorem a96 {e:M T} {s s1:Sta} {w:Bool} (h:e s=some (.bl w,s1)):dj (mOp En e (ao (.bl w))) s=some (false,s1):=by
  cases w <;> exact zt (zo h rfl rfl)
noncomputable section
variable {bs:List Bd} {bk:List Pr} {sto:List SO} {fs:List Tf} {v:Int}
theorem Ye:(held bs bk).map (·.1)=bs.map (·.1):=by unfold held; rw [List.map_map]; rfl
theorem U3:(held bs bk).length=bs.length:=by unfold held; rw [List.length_map]
theorem a7r:(held bs bk).map bdT=bs.map fun r=>bdT (r.1,gt bk r.1,gt bk r.1):=by unfold held; rw [List.map_map]; rfl
theorem a7h:∀ r∈held bs bk,r.2.1≤gt bk r.1∧gt bk r.1≤r.2.2:=fun r hr=>by
  obtain ⟨x,_,rfl⟩:=List.mem_map.mp hr
  exact ⟨Int.le_refl _,Int.le_refl _⟩
theorem a5y {p:P} (h:Rok bs bk) (hf:∀ t∈fs,Z0 t) (lf:fs.length≤20) (ht:∀ t∈fs,TrT (gt bk) t) (hp:okP (bs.map (·.1)) p) (hz:sz p≤500) (hd:dep p≤50) :
    qu [.lst ((held bs bk).map bdT),.lst (fs.map tfT),paT p] sto=some (.bl false,sto) :=
  Mw (B:=gt bk) (by rw [Ye]; exact h.ns) (by rw [U3]; have:=h.l; omega) hf lf a7h ht (by rw [Ye]; exact hp) hz hd
noncomputable abbrev W9f:=Slot × Slot × Slot × Slot × Slot × Slot × Slot × Slot × Slot
noncomputable abbrev qH (bs:List Bd) (w:W6f) (u:W9f) (sto:List SO):Sta:=⟨[some (.lst (bs.map bdT),false),w.1,w.2.1,w.2.2.1,w.2.2.2.1,w.2.2.2.2.1,w.2.2.2.2.2,u.1,u.2.1,u.2.2.1,u.2.2.2.1,u.2.2.2.2.1,u.2.2.2.2.2.1,u.2.2.2.2.2.2.1,u.2.2.2.2.2.2.2.1,u.2.2.2.2.2.2.2.2],sto⟩
noncomputable abbrev cuB:S:=(j9 (jg 14 (iu (fun l=>some (.tup l)) (ak (ao (.str "sum")) (ak (iu (fun l=>some (.tup l)) (ak (iu (fun l=>some (.tup l)) (ak (mOp Ej (ao (.int 2)) (bw 10)) (ak (ao (.int 1)) fj))) (ak (iu (fun l=>some (.tup l)) (ak (mOp Ej (ao (.int 2)) (iu jx (ak (bw 0) fj))) (ak (ao (.int 1)) fj))) fj))) fj))))
  (j9 (jg 15 (iu (fun l=>some (.tup l)) (ak (ao (.str "sum")) (ak (iu (fun l=>some (.tup l)) (ak (iu (fun l=>some (.tup l)) (ak (mOp jk (mOp Ej (ao (.int 2)) (bw 10)) (ao (.int 1))) (ak (ao (.int 1)) fj))) (ak (iu (fun l=>some (.tup l)) (ak (mOp Ej (ao (.int 2)) (iu jx (ak (bw 0) fj))) (ak (ao (.int 1)) fj))) fj))) fj))))
  (sIf (dj (mOp En (dw qu (ak (bw 4) (ak (iu (fun l=>some (.lst l)) fj) (ak (iu (fun l=>some (.tup l)) (ak (ao (.str "cut")) (ak (bw 8) (ak (bw 13) (ak (bw 14) (ak (bw 15) fj)))))) fj)))) (ao (.bl false))))
  (jh (ao (.bl false)))
  jt)))
theorem Lg {a b:Int} (h1:-10000<a) (h2:a<10000) (h3:-10000<b) (h4:b<10000):a3s [[a,1],[b,1]]:=by
  refine ⟨by simp,fun l hl=>?_⟩
  simp only [List.mem_cons,List.not_mem_nil,or_false] at hl
  have one:Af 1=true:=by decide
  rcases hl with rfl | rfl
  · refine ⟨by simp,fun n hn=>?_⟩
    simp only [List.mem_cons,List.not_mem_nil,or_false] at hn
    rcases hn with rfl | rfl
    · exact a3x h1 h2
    · exact one
  · refine ⟨by simp,fun n hn=>?_⟩
    simp only [List.mem_cons,List.not_mem_nil,or_false] at hn
    rcases hn with rfl | rfl
    · exact a3x h3 h4
    · exact one
theorem Z5 {b:Str} {i:Int} {o1 o2 o3 o5 o6 o7 o9 o11 o12:Slot} (h:Rok bs bk) (hb:b∈bs.map (·.1)) (i0:0≤i) (i1:i<5):∀ (zs:List Int) (o13 o14 o15:Slot),
    ∃ o13' o14' o15':Slot,forL (hName 13) cuB (zs.map T.int) (qH bs (o1,o2,o3,some (.lst ((held bs bk).map bdT),false),o5,o6) (o7,some (.str b,false),o9,some (.int i,false),o11,o12,o13,o14,o15) sto)=some (.next,qH bs (o1,o2,o3,some (.lst ((held bs bk).map bdT),false),o5,o6) (o7,some (.str b,false),o9,some (.int i,false),o11,o12,o13',o14',o15') sto)
  | [],o13,o14,o15=>⟨o13,o14,o15,rfl⟩
  | z::zs,o13,o14,o15=>by
    have lb:=h.l
    obtain ⟨a,b',c,ih⟩:=Z5 (o1:=o1) (o2:=o2) (o3:=o3) (o5:=o5) (o6:=o6) (o7:=o7) (o9:=o9) (o11:=o11) (o12:=o12) h hb i0 i1 zs (some (.int z,false)) (some (.tup [.str "sum",.tup [.tup [.int (2 * i),.int 1],.tup [.int (2 * (bs.length:Int)),.int 1]]],false)) (some (.tup [.str "sum",.tup [.tup [.int (2 * i+1),.int 1],.tup [.int (2 * (bs.length:Int)),.int 1]]],false))
    have L:=a5y (sto:=sto) (fs:=[]) (p:=.cut b z (.sum [[2 * i,1],[2 * (bs.length:Int),1]]) (.sum [[2 * i+1,1],[2 * (bs.length:Int),1]])) h (fun t ht=>by cases ht) (by simp) (fun t ht=>by cases ht) (by
      simp only [okP]
      exact ⟨hb,Lg (by omega) (by omega) (by omega) (by omega),Lg (by omega) (by omega) (by omega) (by omega)⟩) (by simp only [sz]; omega) (by simp only [dep]; omega)
    have pe:paT (.cut b z (.sum [[2 * i,1],[2 * (bs.length:Int),1]]) (.sum [[2 * i+1,1],[2 * (bs.length:Int),1]]))=.tup [.str "cut",.str b,.int z,.tup [.str "sum",.tup [.tup [.int (2 * i),.int 1],.tup [.int (2 * (bs.length:Int)),.int 1]]],.tup [.str "sum",.tup [.tup [.int (2 * i+1),.int 1],.tup [.int (2 * (bs.length:Int)),.int 1]]]]:=by simp only [paT]; rfl
    rw [pe] at L
    refine ⟨a,b',c,?_⟩
    rw [List.map_cons]
    refine (Io (t:=.int z) (s1:=qH bs (o1,o2,o3,some (.lst ((held bs bk).map bdT),false),o5,o6) (o7,some (.str b,false),o9,some (.int i,false),o11,o12,some (.int z,false),o14,o15) sto) rfl ?_).trans ih
    exact zq (s1:=qH bs (o1,o2,o3,some (.lst ((held bs bk).map bdT),false),o5,o6) (o7,some (.str b,false),o9,some (.int i,false),o11,o12,some (.int z,false),some (.tup [.str "sum",.tup [.tup [.int (2 * i),.int 1],.tup [.int (2 * (bs.length:Int)),.int 1]]],false),o15) sto) (ys (zm (zc rfl (zc (zm (zc (zm (zc (zo rfl rfl (mu (by decide))) (zc rfl rfl)) rfl) (zc (zm (zc (zo rfl (zm rfl a2l) (mu (by decide))) (zc rfl rfl)) rfl) rfl)) rfl) rfl)) rfl) rfl)
      (zq (s1:=qH bs (o1,o2,o3,some (.lst ((held bs bk).map bdT),false),o5,o6) (o7,some (.str b,false),o9,some (.int i,false),o11,o12,some (.int z,false),some (.tup [.str "sum",.tup [.tup [.int (2 * i),.int 1],.tup [.int (2 * (bs.length:Int)),.int 1]]],false),some (.tup [.str "sum",.tup [.tup [.int (2 * i+1),.int 1],.tup [.int (2 * (bs.length:Int)),.int 1]]],false)) sto) (ys (zm (zc rfl (zc (zm (zc (zm (zc (zo (zo rfl rfl (mu (by decide))) rfl rfl) (zc rfl rfl)) rfl) (zc (zm (zc (zo rfl (zm rfl a2l) (mu (by decide))) (zc rfl rfl)) rfl) rfl)) rfl) rfl)) rfl) rfl)
      (ze (a96 (zf0 (zc rfl (zc rfl (zc (zm rfl rfl) rfl))) L)) rfl))
theorem Zb (h:Rok bs bk) (l1:1≤bs.length) (hf:∀ t∈fs,Z0 t) (lf:fs.length≤10) (ht:∀ t∈fs,TrT (gt bk) t):xg [.lst (bs.map bdT),.lst (fs.map tfT),.dic (dd bk),.int v] sto=some (.bl true,sto):=by
  have lb:=h.l
  have lbl:bs.length<lim:=by show _<1000000; omega
  obtain ⟨l,e1,hl⟩:=Qg (sto:=sto) (v:=v) h
  have e2:=a2u (sto:=sto) h hl
  have ll:=hl.len
  obtain ⟨a,ha⟩:∃ a:At,a=⟨"most",(1+v / 625%9 - at' bk l,l),[]⟩:=⟨_,rfl⟩
  have aT:atT a=.tup [.str "most",.tup [.int (1+v / 625%9 - at' bk l),.tup (l.map pT)]]:=by rw [ha]; rfl
  have aok:Zg a:=by rw [ha]; exact Ey (hl.sm h)
  let w (x4 x5 x6:Slot):W6f:=(some (.lst (fs.map tfT),false),some (.dic (dd bk),false),some (.int v,false),x4,x5,x6)
  obtain ⟨w0,hw0⟩:∃ w0:W6f,w0=w (some (.lst ((held bs bk).map bdT),false)) (some (.tup (l.map pT),false)) (some (atT a,false)):=⟨_,rfl⟩
  obtain ⟨rs,o8,o9,o10,L,q1,q2,q3⟩:=X6 (sto:=sto) (w:=w0) h l [[2 * (bs.length:Int),1]] none none none (fun p hp=>hl.sub _ (List.mem_map.mpr ⟨p,hp,rfl⟩)) hl.bd (by simp; omega)
  rw [List.singleton_append] at L
  obtain ⟨rows,hrows⟩:∃ rows:List (List Int),rows=[2 * (bs.length:Int),1]::rs:=⟨_,rfl⟩
  have rok:a3s rows:=by
    refine ⟨by rw [hrows,List.length_cons]; omega,fun x hx=>?_⟩
    rw [hrows] at hx
    rcases List.mem_cons.mp hx with rfl | hx -- here
    · exact (Lg (a:=2 * (bs.length:Int)) (b:=0) (by omega) (by omega) (by omega) (by omega)).2 _ List.mem_cons_self
    · exact q2 x hx
  have ok1:∀ t∈Tf.at a::fs,Z0 t:=fun t ht=>by
    rcases List.mem_cons.mp ht with rfl | z
    · exact aok
    · exact hf t z
  have L1:qu [.lst ((held bs bk).map bdT),.lst ((.at a::fs).map tfT),paT (.sum rows)] sto=some (.bl true,sto):=by
    rw [a5g (by rw [Ye]; exact h.ns) (by rw [U3]; omega) ok1 (by rw [List.length_cons]; omega) rok]
    have:Fg U4 (bounds (held bs bk)++(Tf.at a::fs).flatMap tfA) rows=true:=by
      refine a1l (bk:=bk) (n:=1+v / 625%9 - at' bk l) (k := "") hl (by omega) ?_
      rw [hrows,List.map_cons,q3 _ Oo,List.map_cons]
      congr 1
      have g:(bounds (held bs bk)++(Tf.at a::fs).flatMap tfA)[2 * bs.length]? = some a:=by
        rw [List.getElem?_append_right (by rw [Ao,U3]; exact Nat.le_refl _),Ao,U3,Nat.sub_self]
        rfl
      have c:0≤2 * (bs.length:Int)∧(0:Int)<1:=⟨by omega,by decide⟩
      have t:(2 * (bs.length:Int)).toNat=2 * bs.length:=by omega
      unfold look
      dsimp only
      rw [if_pos c,t,g]
      rw [ha]
      rfl
    rw [this]
  have L2:=a5y (sto:=sto) (p:=.sum rows) h hf (by omega) ht (by simpa only [okP] using rok) (by simp only [sz]; omega) (by simp only [dep]; omega)
  have L3:=a5y (sto:=sto) (fs:=[.or [.at a,.yes]]) (p:=.orp 0 [.sum rows,.sum []]) h (fun t ht=>by
    rw [List.mem_singleton] at ht; subst ht
    refine ⟨by simp,fun f hf=>?_⟩
    simp only [List.mem_cons,List.not_mem_nil,or_false] at hf
    rcases hf with rfl | rfl
    · exact aok
    · trivial) (by simp) (fun t ht=>by
    rw [List.mem_singleton] at ht; subst ht
    exact ⟨.yes,by simp,trivial⟩) (by simp only [okP,a2q]; exact ⟨by simp,rok,⟨by simp,fun l hl=>by cases hl⟩,trivial⟩) (by simp only [sz,szs]; omega) (by simp only [dep,deps]; omega)
  have pe1:paT (.sum rows)=.tup [.str "sum",.tup (rows.map ilT)]:=by simp only [paT]; rfl
  have pe2:paT (.orp 0 [.sum rows,.sum []])=.tup [.str "or",.int 0,.tup [.tup [.str "sum",.tup (rows.map ilT)],.tup [.str "sum",.tup []]]]:=by simp only [paT,a7w]; rfl
  have fe1:(.lst ((Tf.at a::fs).map tfT):T)=.lst (atT a::fs.map tfT):=by rw [List.map_cons,tfT,tfF,a9p]
  have fe2:(.lst ([Tf.or [.at a,.yes]].map tfT):T)=.lst [.tup [.str "or",.tup [atT a,.tup [.str "and",.tup []]]]]:=by
    simp only [List.map_cons,List.map_nil,tfT,tfF,a9p,fmT,a75,foF]
  rw [pe1,fe1] at L1
  rw [pe1] at L2
  rw [pe2,fe2] at L3
  have ad:jk (.lst [atT a]) (.lst (fs.map tfT))=some (.lst (atT a::fs.map tfT)):=by
    show (if [atT a].length+(fs.map tfT).length<lim then _ else _)=_
    rw [if_pos (by rw [List.length_map]; show 1+_<1000000; omega)]
    rfl
  have p0:(0:Int)<bs.length:=by omega
  have m0:=Int.emod_nonneg v (show (bs.length:Int)≠0 by omega)
  have m1:=Int.emod_lt_of_pos v p0
  obtain ⟨r,hr,ir⟩:=Dj bdT bs m0 m1
  have i0:gq (bdT r) (.int 0)=some (.str r.1):=rm
  have hm:r.1∈bs.map (·.1):=List.mem_map.mpr ⟨r,hr,rfl⟩
  have ig:gq (.dic (dd bk)) (.str r.1)=some (.int (gt bk r.1)):=Ea (by rw [h.k]; exact hm)
  have co:qp 3 [2] (jz [0,1,2]) (jo (bw 0)) gw (iu (fun l=>some (.tup l)) (ak (bw 0) (ak (mOp gq (bw 3) (bw 0)) (ak (mOp gq (bw 3) (bw 0)) fj)))) (qH bs (w none none none) (none,none,none,none,none,none,none,none,none) sto)=some (.lst ((held bs bk).map bdT),qH bs (w none none none) (none,none,none,none,none,none,none,none,none) sto):=by
    rw [a7r]
    refine Bv bdT _ bs (s1:=qH bs (w none none none) (none,none,none,none,none,none,none,none,none) sto) _ [some (.dic (dd bk),false)] (zis rfl lbl) rfl rfl rfl (Nat.le_of_lt lbl) ?_
    intro x hx pre hpre
    have ix:gq (.dic (dd bk)) (.str x.1)=some (.int (gt bk x.1)):=Ea (by rw [h.k]; exact List.mem_map.mpr ⟨x,hx,rfl⟩)
    match pre,hpre with
    | [x0,x1,x2],_=>exact ⟨[some (.str x.1,false),some (.int x.2.1,false),some (.int x.2.2,false)],rfl,a1k,rfl,zm (zc rfl (zc (zo rfl rfl ix) (zc (zo rfl rfl ix) rfl))) rfl⟩
  obtain ⟨a13,a14,a15,L4⟩:=Z5 (sto:=sto) (b:=r.1) (i:=v%(bs.length:Int)) (o1:=some (.lst (fs.map tfT),false)) (o2:=some (.dic (dd bk),false)) (o3:=some (.int v,false)) (o5:=some (.tup (l.map pT),false)) (o6:=some (atT a,false)) (o7:=some (.lst (rows.map ilT),false)) (o9:=o9) (o11:=some (.tup [.str "sum",.tup (rows.map ilT)],false)) (o12:=some (.tup [.str "or",.int 0,.tup [.tup [.str "sum",.tup (rows.map ilT)],.tup [.str "sum",.tup []]]],false)) h hm m0 (by omega) [gt bk r.1 - 1,gt bk r.1,gt bk r.1+1] none none none
  rw [← hrows] at L
  unfold cuB at L4
  unfold xg
  generalize uc=F1 at *
  generalize wz=F2 at *
  generalize qu=F3 at *
  have t1:iu (fun l=>some (.tup l)) (ak (ao (.str "most")) (ak (iu (fun l=>some (.tup l)) (ak (mOp lq (mOp jk (ao (.int 1)) (mOp jj (mOp gb (bw 3) (ao (.int 625))) (ao (.int 9)))) (dw F2 (ak (bw 5) (ak (bw 2) fj)))) (ak (bw 5) fj))) fj)) (qH bs (w (some (.lst ((held bs bk).map bdT),false)) (some (.tup (l.map pT),false)) none) (none,none,none,none,none,none,none,none,none) sto)=some (atT a,qH bs (w (some (.lst ((held bs bk).map bdT),false)) (some (.tup (l.map pT),false)) none) (none,none,none,none,none,none,none,none,none) sto):=by
    rw [aT]
    exact zm (zc rfl (zc (zm (zc (zo (zo rfl (zo (zo rfl rfl rfl) rfl rfl) rfl) (zf0 rfl e2) rfl) (zc rfl rfl)) rfl) rfl)) rfl
  rw [hw0] at L
  exact zrun (n:=16) (zq (s1:=qH bs (w (some (.lst ((held bs bk).map bdT),false)) none none) (none,none,none,none,none,none,none,none,none) sto) (ys co rfl)
    (zq (s1:=qH bs (w (some (.lst ((held bs bk).map bdT),false)) (some (.tup (l.map pT),false)) none) (none,none,none,none,none,none,none,none,none) sto) (ys (zf0 rfl e1) rfl)
    (zq (s1:=qH bs (w (some (.lst ((held bs bk).map bdT),false)) (some (.tup (l.map pT),false)) (some (atT a,false))) (none,none,none,none,none,none,none,none,none) sto) (ys t1 rfl)
    (zq (s1:=qF bs (w (some (.lst ((held bs bk).map bdT),false)) (some (.tup (l.map pT),false)) (some (atT a,false))) [[2 * (bs.length:Int),1]] none none none sto) (yn (zm (zc (zm (zc (zo rfl (zm rfl a2l) (mu (by decide))) (zc rfl rfl)) rfl) rfl) rfl) rfl)
    (zq (a1z (abp rfl (show l.length<1000000 by omega)) L)
    (zq (s1:=qH bs (w (some (.lst ((held bs bk).map bdT),false)) (some (.tup (l.map pT),false)) (some (atT a,false))) (some (.lst (rows.map ilT),false),o8,o9,o10,some (.tup [.str "sum",.tup (rows.map ilT)],false),none,none,none,none) sto) (ys (zm (zc rfl (zc (zm (zc rfl rfl) rfl) rfl)) rfl) rfl)
    (zq (ze (a73 (a96 (zf0 (zc rfl (zc (zo (zm (zc rfl rfl) rfl) rfl ad) (zc rfl rfl))) L1)) (a96 (zf0 (zc rfl (zc rfl (zc rfl rfl))) L2))) rfl)
    (zq (s1:=qH bs (w (some (.lst ((held bs bk).map bdT),false)) (some (.tup (l.map pT),false)) (some (atT a,false))) (some (.lst (rows.map ilT),false),o8,o9,o10,some (.tup [.str "sum",.tup (rows.map ilT)],false),some (.tup [.str "or",.int 0,.tup [.tup [.str "sum",.tup (rows.map ilT)],.tup [.str "sum",.tup []]]],false),none,none,none) sto) (ys (zm (zc rfl (zc rfl (zc (zm (zc rfl (zc rfl rfl)) rfl) rfl))) rfl) rfl)
    (zq (ze (a96 (zf0 (zc rfl (zc rfl (zc rfl rfl))) L3)) rfl)
    (zq (s1:=qH bs (w (some (.lst ((held bs bk).map bdT),false)) (some (.tup (l.map pT),false)) (some (atT a,false))) (some (.lst (rows.map ilT),false),o8,o9,some (.int (v%(bs.length:Int)),false),some (.tup [.str "sum",.tup (rows.map ilT)],false),some (.tup [.str "or",.int 0,.tup [.tup [.str "sum",.tup (rows.map ilT)],.tup [.str "sum",.tup []]]],false),none,none,none) sto) (ys (zo rfl (zm rfl a2l) (md p0)) rfl)
    (zq (s1:=qH bs (w (some (.lst ((held bs bk).map bdT),false)) (some (.tup (l.map pT),false)) (some (atT a,false))) (some (.lst (rows.map ilT),false),some (.str r.1,false),o9,some (.int (v%(bs.length:Int)),false),some (.tup [.str "sum",.tup (rows.map ilT)],false),some (.tup [.str "or",.int 0,.tup [.tup [.str "sum",.tup (rows.map ilT)],.tup [.str "sum",.tup []]]],false),none,none,none) sto) (ys (zo (zo rfl rfl ir) rfl i0) rfl)
    (zq (a1z (zis (k:=[gt bk r.1 - 1,gt bk r.1,gt bk r.1+1]) (f:=T.int) (zm (zc (zo (zo rfl rfl ig) rfl rfl) (zc (zo rfl rfl ig) (zc (zo (zo rfl rfl ig) rfl rfl) rfl))) rfl) (show 3<1000000 by decide)) L4)
    (zr rfl))))))))))))) rfl
end
end K
end
noncomputable section
set_option linter.all false
set_option maxRecDepth 100000
set_option maxHeartbeats 1000000
set_option autoImplicit false
namespace K
open C PySem
noncomputable abbrev qL (cs:List Int) (bs:List Bd) (bk:List Pr) (o3 o4 o5 o6 o7:Slot) (sto:List SO):Sta:=⟨[some (scr cs,false),some (.lst (bs.map bdT),false),some (.dic (dd bk),false),o3,o4,o5,o6,o7],sto⟩
noncomputable abbrev acq:S:=(c7 3 (dw yx (ak (dw jf (ak (bw 0) (ak (mOp jk (ao (.int 5)) (bw 4)) fj))) (ak (bw 1) (ak (bw 2) fj)))))
noncomputable abbrev acp:S:=(j9 (jg 7 (dw (qg 40) (ak (bw 5) (ak (bw 1) (ak (bw 2) (ak (mOp jk (mOp Ej (ao (.int 2)) (iu jx (ak (bw 1) fj))) (ao (.int 4))) (ak (ao (.int 8)) fj)))))))
  (sIf (dj (mOp En (dw qu (ak (bw 1) (ak (bw 3) (ak (bw 7) fj)))) (ao (.bl false))))
  (jh (ao (.bl false)))
  jt))
noncomputable abbrev ac8:S:=(sIf (m7 (dj (dw xg (ak (bw 1) (ak (bw 3) (ak (bw 2) (ak (dw jf (ak (bw 0) (ak (mOp jk (ao (.int 11)) (bw 4)) fj))) fj)))))))
  (jh (ao (.bl false)))
  jt)
noncomputable section
variable {cs:List Int} {bs:List Bd} {bk:List Pr} {fs:List Tf}
structure a5o (bk:List Pr) (fs:List Tf):Prop where
  o:∀ t∈fs,Z0 t
  t:∀ t∈fs,TrT (gt bk) t
theorem a5o.add {t:Tf} (h:a5o bk fs) (h1:Z0 t) (h2:TrT (gt bk) t):a5o bk (fs++[t]):=⟨fun x hx=>by
  rcases List.mem_append.mp hx with z | z
  · exact h.o x z
  · rw [List.mem_singleton] at z; subst z; exact h1,fun x hx=>by
  rcases List.mem_append.mp hx with z | z
  · exact h.t x z
  · rw [List.mem_singleton] at z; subst z; exact h2⟩
theorem Yq {o5 o6 o7:Slot} (h:Rok bs bk):∀ (m k:Nat) (fs:List Tf) (o4:Slot),a5o bk fs→fs.length+m≤10 →
    ∃ (fs':List Tf) (o4':Slot),forL (hName 4) acq ((List.range' k m).map fun (j:Nat)=>T.int (j:Int)) (qL cs bs bk (some (.lst (fs.map tfT),true)) o4 o5 o6 o7 [])=some (.next,qL cs bs bk (some (.lst (fs'.map tfT),true)) o4' o5 o6 o7 [])∧a5o bk fs'∧fs'.length≤10
  | 0,k,fs,o4,h1,h2=>⟨fs,o4,by simp [forL],h1,by omega⟩
  | m+1,k,fs,o4,h1,h2=>by
    have ec:=Km (cs:=cs) (k:=5+k) (i:=5+(k:Int)) (sto:=[]) (by omega)
    obtain ⟨t,e,t1,t2⟩:=a1o (sto:=[]) (v:=cell cs (5+k)) h
    obtain ⟨fs',a,ih,q⟩:=Yq (o5:=o5) (o6:=o6) (o7:=o7) h m (k+1) (fs++[t]) (some (.int (k:Int),false)) (h1.add t1 t2) (by rw [List.length_append,List.length_singleton]; omega)
    refine ⟨fs',a,?_,q⟩
    rw [List.range'_succ,List.map_cons]
    exact (Io (t:=.int (k:Int)) rfl (za (zf0 (zc (zf0 (zc rfl (zc (zo rfl rfl rfl) rfl)) ec) (zc rfl (zc rfl rfl))) e) rfl (by rw [List.length_map]; show _<1000000; omega) rfl (by unfold qL; rw [List.map_append]; rfl))).trans ih
theorem Xl {o4:Slot} (h:Rok bs bk) (l1:1≤bs.length) (hf:a5o bk fs) (lf:fs.length≤10):∀ (m k:Nat) (cl:List Int) (b:Bool) (o6 o7:Slot),cl.length≤52 →
    ∃ (cl':List Int) (b':Bool) (o6' o7':Slot),forL (hName 6) acp ((List.range' k m).map fun (j:Nat)=>T.int (j:Int)) (qL cs bs bk (some (.lst (fs.map tfT),b)) o4 (some (.obj 0,false)) o6 o7 [.lst (cl.map T.int)])=some (.next,qL cs bs bk (some (.lst (fs.map tfT),b')) o4 (some (.obj 0,false)) o6' o7' [.lst (cl'.map T.int)])
  | 0,k,cl,b,o6,o7,_=>⟨cl,b,o6,o7,by simp [forL]⟩
  | m+1,k,cl,b,o6,o7,hc=>by
    have lb:=h.l
    obtain ⟨p,cl1,e,q⟩:=Oj h l1 40 8 (2 * (bs.length:Int)+4) (by decide) (by omega) (by omega) cl
    have ql:=q.l
    have qs:=q.s
    have qd:=q.d
    have e':qg 40 [.obj 0,.lst (bs.map bdT),.dic (dd bk),.int (2 * (bs.length:Int)+4),.int 8] [.lst (cl.map T.int)]=some (paT p,[.lst (cl1.map T.int)]):=e
    have L:=Mw (sto:=[.lst (cl1.map T.int)]) (B:=gt bk) h.ns (by omega) hf.o (by omega) h.v hf.t q.o (by omega) (by omega)
    obtain ⟨cl',b',a6,a7,ih⟩:=Xl (o4:=o4) h l1 hf lf m (k+1) cl1 false (some (.int (k:Int),false)) (some (paT p,false)) (by omega)
    refine ⟨cl',b',a6,a7,?_⟩
    rw [List.range'_succ,List.map_cons]
    refine (Io (t:=.int (k:Int)) (s1:=qL cs bs bk (some (.lst (fs.map tfT),b)) o4 (some (.obj 0,false)) (some (.int (k:Int),false)) o7 [.lst (cl.map T.int)]) rfl ?_).trans ih
    have ag:(ak (bw 5) (ak (bw 1) (ak (bw 2) (ak (mOp jk (mOp Ej (ao (.int 2)) (iu jx (ak (bw 1) fj))) (ao (.int 4))) (ak (ao (.int 8)) fj))))) (qL cs bs bk (some (.lst (fs.map tfT),b)) o4 (some (.obj 0,false)) (some (.int (k:Int),false)) o7 [.lst (cl.map T.int)])=some ([.obj 0,.lst (bs.map bdT),.dic (dd bk),.int (2 * (bs.length:Int)+4),.int 8],qL cs bs bk (some (.lst (fs.map tfT),b)) o4 (some (.obj 0,false)) (some (.int (k:Int),false)) o7 [.lst (cl.map T.int)]) :=
      zc rfl (zc rfl (zc rfl (zc (zo (zo rfl (zm rfl a2l) (mu (by decide))) rfl rfl) (zc rfl rfl))))
    have ag2:(ak (bw 1) (ak (bw 3) (ak (bw 7) fj))) (qL cs bs bk (some (.lst (fs.map tfT),b)) o4 (some (.obj 0,false)) (some (.int (k:Int),false)) (some (paT p,false)) [.lst (cl1.map T.int)])=some ([.lst (bs.map bdT),.lst (fs.map tfT),paT p],qL cs bs bk (some (.lst (fs.map tfT),false)) o4 (some (.obj 0,false)) (some (.int (k:Int),false)) (some (paT p,false)) [.lst (cl1.map T.int)]):=by
      cases b <;> rfl
    exact zq (s1:=qL cs bs bk (some (.lst (fs.map tfT),b)) o4 (some (.obj 0,false)) (some (.int (k:Int),false)) (some (paT p,false)) [.lst (cl1.map T.int)]) (ys (zf ag e') rfl) (ze (a96 (zf0 ag2 L)) rfl)
theorem Ti {o5 o6 o7:Slot} {sto:List SO} (h:Rok bs bk) (l1:1≤bs.length) (hf:a5o bk fs) (lf:fs.length≤10):∀ (m k:Nat) (b:Bool) (o4:Slot),
    ∃ (b':Bool) (o4':Slot),forL (hName 4) ac8 ((List.range' k m).map fun (j:Nat)=>T.int (j:Int)) (qL cs bs bk (some (.lst (fs.map tfT),b)) o4 o5 o6 o7 sto)=some (.next,qL cs bs bk (some (.lst (fs.map tfT),b')) o4' o5 o6 o7 sto)
  | 0,k,b,o4=>⟨b,o4,by simp [forL]⟩
  | m+1,k,b,o4=>by
    have ec:=Km (cs:=cs) (k:=11+k) (i:=11+(k:Int)) (sto:=sto) (by omega)
    have L:=Zb (sto:=sto) (v:=cell cs (11+k)) h l1 hf.o lf hf.t
    obtain ⟨b',a,ih⟩:=Ti (o5:=o5) (o6:=o6) (o7:=o7) (sto:=sto) h l1 hf lf m (k+1) false (some (.int (k:Int),false))
    refine ⟨b',a,?_⟩
    rw [List.range'_succ,List.map_cons]
    have v3:bw 3 (qL cs bs bk (some (.lst (fs.map tfT),b)) (some (.int (k:Int),false)) o5 o6 o7 sto)=some (.lst (fs.map tfT),qL cs bs bk (some (.lst (fs.map tfT),false)) (some (.int (k:Int),false)) o5 o6 o7 sto):=by cases b <;> rfl
    exact (Io (t:=.int (k:Int)) (s1:=qL cs bs bk (some (.lst (fs.map tfT),b)) (some (.int (k:Int),false)) o5 o6 o7 sto) rfl (ze (acy (k:=true) (zt (zf0 (zc rfl (zc v3 (zc rfl (zc (zf0 (zc rfl (zc (zo rfl rfl rfl) rfl)) ec) rfl)))) L))) rfl)).trans ih
theorem a1y (hc:cs.length≤63):∃ st,Z9 [scr cs] []=some (.bl true,st):=by
  obtain ⟨bs,bk,e1,h,l1⟩:=a08 (cs:=cs) (sto:=[])
  have e0:=Km (cs:=cs) (k:=0) (i:=0) (sto:=[]) rfl
  obtain ⟨fs,o4,L1,hf,lf⟩:=Yq (cs:=cs) (o5:=none) (o6:=none) (o7:=none) h (1+cell cs 0 / 16%6).toNat 0 [] none ⟨fun t ht=>(by cases ht),fun t ht=>(by cases ht)⟩ (by simp; omega)
  obtain ⟨cl,hcl⟩:∃ cl:List Int,cl=((cs.drop (sIx cs.length 0 (some 11))).take (sIx cs.length cs.length (some 63) - sIx cs.length 0 (some 11))).reverse:=⟨_,rfl⟩
  have lc:cl.length≤52:=by
    rw [hcl,List.length_reverse,List.length_take,List.length_drop]
    have:sIx cs.length 0 (some 11)=min 11 cs.length:=rfl
    omega
  have ecl:(a77 (cs.map T.int) (some 11) (some 63)).reverse=cl.map T.int:=by
    unfold a77
    rw [List.length_map,← List.map_drop,← List.map_take,← List.map_reverse,hcl]
  obtain ⟨cl',b',a6,a7,L2⟩:=Xl (cs:=cs) (o4:=o4) h l1 hf lf 12 0 cl true none none lc
  obtain ⟨b3,a4,L3⟩:=Ti (cs:=cs) (o5:=some (.obj 0,false)) (o6:=a6) (o7:=a7) (sto:=[.lst (cl'.map T.int)]) h l1 hf lf 4 0 b' o4
  rw [← List.range_eq_range'] at L1 L2 L3
  refine ⟨[.lst (cl'.map T.int)],?_⟩
  have rg:dz (mOp jk (ao (.int 1)) (mOp jj (mOp gb (dw jf (ak (bw 0) (ak (ao (.int 0)) fj))) (ao (.int 16))) (ao (.int 6)))) (qL cs bs bk (some (.lst ([].map tfT),true)) none none none none [])=some ((List.range (1+cell cs 0 / 16%6).toNat).map (fun (k:Nat)=>T.int (k:Int)),qL cs bs bk (some (.lst ([].map tfT),true)) none none none none []) :=
    zrg (m:=(1+cell cs 0 / 16%6).toNat) (by rw [Int.toNat_of_nonneg (by omega)]; exact zo rfl (zo (zo (zf0 rfl e0) rfl rfl) rfl rfl) rfl) (by show _<1000000; omega)
  have sl:Im (Gu (bw 0) (Ov (ao (.int 11))) (Ov (ao (.int 63)))) (qL cs bs bk (some (.lst (fs.map tfT),true)) o4 none none none [])=some (.obj 0,qL cs bs bk (some (.lst (fs.map tfT),true)) o4 none none none [.lst (cl.map T.int)]):=by
    rw [← ecl]; rfl
  exact zrun (n:=8) (zq (s1:=qL cs bs bk none none none none none []) (zgo (zf0 rfl e1) Vf)
    (zq (s1:=qL cs bs bk (some (.lst ([].map tfT),true)) none none none none []) rfl
    (zq (a1z rg L1)
    (zq (s1:=qL cs bs bk (some (.lst (fs.map tfT),true)) o4 (some (.obj 0,false)) none none [.lst (cl.map T.int)]) (ys sl rfl)
    (zq (a1z (zrg (m:=12) rfl (by decide)) L2)
    (zq (a1z (zrg (m:=4) rfl (by decide)) L3)
    (zr rfl))))))) rfl
end
end K
end
noncomputable section
set_option linter.all false
set_option maxRecDepth 100000
set_option maxHeartbeats 1000000
namespace D
open PySem L2 C
structure FA (K:PySem.W.Frag) (x:Str) (st:Stmt) (f:Addr) (fd:FuncData):Prop where
  a:PySem.W.nsIn K mainGlobals x=some (some (.ref f))
  F:Fun K x x st f fd
theorem aaq {K:PySem.W.Frag} {x:Str} {st:Stmt} {f:Addr} {oc:Value} {od an:Option Addr} {osl:Array (Option Value)} {kV doc pm cdv ct:Value} (a:PySem.W.nsIn K mainGlobals x=some (some (.ref f)))
    (l:K.lookup f=some ⟨oc,od,.func (PySem.W.fnOf x x (Df st) (Bq st) (jd st) .none kV doc pm an cdv ct),osl⟩) (c:PySem.W.codeIn K cdv x=true) (k:PySem.W.keepIn K (.ref f)=true):FA K x st f (PySem.W.fnOf x x (Df st) (Bq st) (jd st) .none kV doc pm an cdv ct):=⟨a,a3p l c k⟩
theorem FA.m {K:PySem.W.Frag} {x:Str} {st:Stmt} {f:Addr} {fd:FuncData} {hp:Heap} {mg:Str→Option Value} (h:FA K x st f fd) (X:K.In hp) (G:hp.Ns mainGlobals mg):mg x=some (.ref f):=PySem.W.mg_of X G h.a
theorem all_mk {l:PySem.W.OpenLaw} {w:World} {K:PySem.W.Frag} {h:Heap} {mg:Str→Option Value} {fa f1 f2 f3 f4 f5 f6 f7 f8 f9 f10 f11 f12 f13 f14 f15 f16 f17 f18 f19 f20 f21 f22 f23 f24 f25 f26 f27 f28 f29 f30 f31 f32 f33 f34:Addr} {fd1 fd2 fd3 fd4 fd5 fd6 fd7 fd8 fd9 fd10 fd11 fd12 fd13 fd14 fd15 fd16 fd17 fd18 fd19 fd20 fd21 fd22 fd23 fd24 fd25 fd26 fd27 fd28 fd29 fd30 fd31 fd32 fd33:FuncData} (X:K.In h) (G:h.Ns mainGlobals mg) (hfa:mg "law" = some (.ref fa))
    {od34 an34:Option Addr} {sl34:Array (Option Value)} {oc34 kV34 dc34 pm34 cd34 ct34:Value}
    (h1:FA K "sum_of" Hw f1 fd1)
    (h2:FA K "plus" T3 f2 fd2)
    (h3:FA K "laid_in" Fe f3 fd3)
    (h4:FA K "plain_tuple" Am f4 fd4)
    (h5:FA K "is_kind" Fy f5 fd5)
    (h6:FA K "is_whole" Dv f6 fd6)
    (h7:FA K "is_place" Dp f7 fd7)
    (h8:FA K "papers_of_or" zu f8 fd8)
    (h9:FA K "at_most" G5 f9 fd9)
    (h10:FA K "at_least" Du f10 fd10)
    (h11:FA K "papers_of_cut" yt f11 fd11)
    (h12:FA K "added_up" Dt f12 fd12)
    (h13:FA K "is_atom" Ez f13 fd13)
    (h14:FA K "is_sum_row" Bh f14 fd14)
    (h15:FA K "is_sum" Ho f15 fd15)
    (h16:FA K "is_zero_pair" zj f16 fd16)
    (h17:FA K "is_rest_row" Aj f17 fd17)
    (h18:FA K "is_rest" Fx f18 fd18)
    (h19:FA K "plain_row" Ck f19 fd19)
    (h20:FA K "plain_rows" Bg f20 fd20)
    (h21:FA K "papers_within" yu f21 fd21)
    (h22:FA K "first_lists" Ak f22 fd22)
    (h23:FA K "let_by" Hv f23 fd23)
    (h24:FA K "_law_cell_at" Ai f24 fd24)
    (h25:FA K "_law_signed" Bb f25 fd25)
    (h26:FA K "_law_rows" Dy f26 fd26)
    (h27:FA K "_law_sum" G7 f27 fd27)
    (h28:FA K "_law_at" Hq f28 fd28)
    (h29:FA K "_law_atom" Dw f29 fd29)
    (h30:FA K "_law_form" Dz f30 fd30)
    (h31:FA K "_law_rows_of" Al f31 fd31)
    (h32:FA K "_law_paper" Ax f32 fd32)
    (h33:FA K "_law_false" Cr f33 fd33)
    (a34:PySem.W.nsIn K mainGlobals "law" = some (some (.ref f34))) (l34:K.lookup f34=some ⟨oc34,od34,.func (PySem.W.fnOf "law" "law" (Df Kv) (Bq Kv) (jd Kv) .none kV34 dc34 pm34 an34 cd34 ct34),sl34⟩) (c34:PySem.W.codeIn K cd34 "law" = true) (k34:PySem.W.keepIn K (.ref f34)=true)
    (z_abs:PySem.W.nsIn K mainGlobals "abs" = some none)
    (z_all:PySem.W.nsIn K mainGlobals "all" = some none)
    (z_bool:PySem.W.nsIn K mainGlobals "bool" = some none)
    (z_int:PySem.W.nsIn K mainGlobals "int" = some none)
    (z_isinstance:PySem.W.nsIn K mainGlobals "isinstance" = some none)
    (z_len:PySem.W.nsIn K mainGlobals "len" = some none)
    (z_list:PySem.W.nsIn K mainGlobals "list" = some none)
    (z_range:PySem.W.nsIn K mainGlobals "range" = some none)
    (z_reversed:PySem.W.nsIn K mainGlobals "reversed" = some none)
    (z_sorted:PySem.W.nsIn K mainGlobals "sorted" = some none)
    (z_str:PySem.W.nsIn K mainGlobals "str" = some none)
    (z_sum:PySem.W.nsIn K mainGlobals "sum" = some none)
    (z_tuple:PySem.W.nsIn K mainGlobals "tuple" = some none)
    (z_zip:PySem.W.nsIn K mainGlobals "zip" = some none)
    {tk_MOST_DEEP:Tok} (zc_MOST_DEEP:PySem.W.nsIn K mainGlobals "MOST_DEEP" = some (some (.int 90 tk_MOST_DEEP)))
    : ∃ fd:FuncData,(∀ (s:Shared) (v:Value),BindsTo s fd ⟨[v],[]⟩ [("_law_script",v)])∧∀ base:Heap,K.In base→base.Ns mainGlobals mg→Ad l.prog w K mg base CX0 42 fa fd ["_law_script"] (spF K 1 _root_.K.Z9):=by
  have e:=hfa.symm.trans (PySem.W.mg_of X G a34)
  cases e
  have F34:=a3p (st:=Kv) l34 c34 k34
  have b_abs:=PySem.W.mg_none_of X G z_abs
  have b_all:=PySem.W.mg_none_of X G z_all
  have b_bool:=PySem.W.mg_none_of X G z_bool
  have b_int:=PySem.W.mg_none_of X G z_int
  have b_isinstance:=PySem.W.mg_none_of X G z_isinstance
  have b_len:=PySem.W.mg_none_of X G z_len
  have b_list:=PySem.W.mg_none_of X G z_list
  have b_range:=PySem.W.mg_none_of X G z_range
  have b_reversed:=PySem.W.mg_none_of X G z_reversed
  have b_sorted:=PySem.W.mg_none_of X G z_sorted
  have b_str:=PySem.W.mg_none_of X G z_str
  have b_sum:=PySem.W.mg_none_of X G z_sum
  have b_tuple:=PySem.W.mg_none_of X G z_tuple
  have b_zip:=PySem.W.mg_none_of X G z_zip
  have c_MOST_DEEP:∃ tk,mg "MOST_DEEP" = some (.int 90 tk):=⟨_,PySem.W.mg_of X G zc_MOST_DEEP⟩
  refine ⟨PySem.W.fnOf "law" "law" (Df Kv) (Bq Kv) (jd Kv) .none kV34 dc34 pm34 an34 cd34 ct34,fun s v=>.of_eq rfl,fun base _ _=>?_⟩
  have d_sum_of:=Xq (P:=l.prog) (w:=w) (base:=base) h1.F (h1.m X G) b_sorted b_tuple
  have d_plus:=a3y (P:=l.prog) (w:=w) (base:=base) h2.F (h2.m X G) d_sum_of
  have d_laid_in:=V6 (P:=l.prog) (w:=w) (base:=base) h3.F (h3.m X G) b_len b_list
  have d_plain_tuple:=Jr (P:=l.prog) (w:=w) (base:=base) h4.F (h4.m X G) b_isinstance b_tuple
  have d_is_kind:=Uv (P:=l.prog) (w:=w) (base:=base) h5.F (h5.m X G) b_isinstance b_len b_str
  have d_is_whole:=Ru (P:=l.prog) (w:=w) (base:=base) h6.F (h6.m X G) b_bool b_int b_isinstance
  have d_is_place:=Rr (P:=l.prog) (w:=w) (base:=base) h7.F (h7.m X G) b_len
  have d_papers_of_or:=Ig (P:=l.prog) (w:=w) (base:=base) h8.F (h8.m X G) d_is_place d_laid_in d_plain_tuple b_isinstance b_len b_tuple b_zip
  have d_at_most:=V5 (P:=l.prog) (w:=w) (base:=base) h9.F (h9.m X G)
  have d_at_least:=Px (P:=l.prog) (w:=w) (base:=base) h10.F (h10.m X G)
  have d_papers_of_cut:=Hg (P:=l.prog) (w:=w) (base:=base) h11.F (h11.m X G) d_at_least d_at_most d_laid_in b_isinstance b_len b_str
  have d_added_up:=S7 (P:=l.prog) (w:=w) (base:=base) h12.F (h12.m X G) d_sum_of
  have d_is_atom:=Vw (P:=l.prog) (w:=w) (base:=base) h13.F (h13.m X G) d_is_place
  have d_is_sum_row:=Lb (P:=l.prog) (w:=w) (base:=base) h14.F (h14.m X G) d_is_atom b_len
  have d_is_sum:=Wu (P:=l.prog) (w:=w) (base:=base) h15.F (h15.m X G) d_added_up d_is_sum_row b_all
  have d_is_zero_pair:=Hz (P:=l.prog) (w:=w) (base:=base) h16.F (h16.m X G) d_is_atom d_plus
  have d_is_rest_row:=Jy (P:=l.prog) (w:=w) (base:=base) h17.F (h17.m X G) d_is_atom d_is_zero_pair b_len
  have d_is_rest:=Ut (P:=l.prog) (w:=w) (base:=base) h18.F (h18.m X G) d_added_up d_is_rest_row b_all
  have d_plain_row:=Mp (P:=l.prog) (w:=w) (base:=base) h19.F (h19.m X G) d_is_whole d_plain_tuple b_all b_int b_tuple
  have d_plain_rows:=Lz (P:=l.prog) (w:=w) (base:=base) h20.F (h20.m X G) d_plain_row d_plain_tuple
  have d_papers_within:=Hl (P:=l.prog) (w:=w) (base:=base) h21.F (h21.m X G) d_is_kind d_is_rest d_is_sum d_is_whole d_papers_of_cut d_papers_of_or d_plain_rows d_plain_tuple b_int
  have d_first_lists:=Jw (P:=l.prog) (w:=w) (base:=base) h22.F (h22.m X G) d_at_least d_at_most
  have d_let_by:=Xf (P:=l.prog) (w:=w) (base:=base) h23.F (h23.m X G) d_first_lists d_laid_in d_papers_within b_len c_MOST_DEEP
  have d_law_cell_at:=Jz (P:=l.prog) (w:=w) (base:=base) h24.F (h24.m X G) b_len
  have d_law_signed:=La (P:=l.prog) (w:=w) (base:=base) h25.F (h25.m X G)
  have d_law_rows:=Qo (P:=l.prog) (w:=w) (base:=base) h26.F (h26.m X G) d_law_cell_at d_law_signed b_range
  have d_law_sum:=V9 (P:=l.prog) (w:=w) (base:=base) h27.F (h27.m X G) b_len b_range b_sorted b_tuple
  have d_law_at:=Yj (P:=l.prog) (w:=w) (base:=base) h28.F (h28.m X G) b_sum
  have d_law_atom:=Ra (P:=l.prog) (w:=w) (base:=base) h29.F (h29.m X G) d_law_at d_law_sum
  have d_law_form:=Qx (P:=l.prog) (w:=w) (base:=base) h30.F (h30.m X G) d_law_atom d_law_sum
  have d_law_rows_of:=K3 (P:=l.prog) (w:=w) (base:=base) h31.F (h31.m X G) b_range b_tuple
  have g_law_paper:=Fv (P:=l.prog) (w:=w) (base:=base) h32.F (h32.m X G) d_law_rows_of b_len b_range b_tuple 40
  have d_law_paper:=g_law_paper
  have d_law_false:=O5 (P:=l.prog) (w:=w) (base:=base) h33.F (h33.m X G) d_law_at d_law_sum d_let_by b_abs b_int b_len b_tuple
  exact a89 F34 d_law_cell_at d_law_false d_law_form d_law_paper d_law_rows d_let_by b_len b_list b_range b_reversed
theorem walk {l:PySem.W.OpenLaw} {q:Program} {loose:List Str} {XP:(Str→Option Value)→Heap→Prop} {YP:World→Heap→Prop} {d:DefRec} {K:Params→PySem.W.Frag} (hn:l.most=some 63) (hdf:d.params.defaults=[])
    (hY:∀ (w:World) (h:Heap),YP w h→(K w.params).In h)
    (F:∀ (w:World) (mg:Str→Option Value) (fa:Addr) (h:Heap),(K w.params).In h→h.Ns mainGlobals mg→mg d.name=some (.ref fa) →
      ∃ fd:FuncData,(∀ (s:Shared) (u:Value),BindsTo s fd ⟨[u],[]⟩ [("_law_script",u)])∧∀ base:Heap,(K w.params).In base→base.Ns mainGlobals mg→Ad l.prog w (K w.params) mg base CX0 42 fa fd ["_law_script"] (spF (K w.params) 1 _root_.K.Z9)) :
    PySem.W.WalkO q loose XP YP l.row.toRowW d [] (fun f vs=>PySem.call f vs) :=
  L2.a6r (n:=63) (k:=42) (x := "_law_script") (CX:=fun _=>CX0) (sp:=fun w=>spF (K w.params) 1 _root_.K.Z9) hn (by decide) hdf ⟨rfl,by decide,by decide⟩ hY F (fun w H a ns hl _ hS=>a6q hS (_root_.K.a1y (cs:=ns) hl)) fun _ _ _ _ _ z=>z
end D
open PySem PySem.W PyProof.Rows
set_option maxRecDepth 100000 in
set_option maxHeartbeats 0 in
theorem PySem.Challenge.cw_calm_k48_whole_any_paper_is_sound_holds : PySem.Challenge.rw_calm_k48_whole_any_paper_is_sound.Holds := by
  w_on; o_law; k_head; (case hw=>w_witness2)
  k_fill
  refine D.walk (l:=PySem.Challenge.rw_calm_k48_whole_any_paper_is_sound) rfl rfl (fun w h Y=>PySem.W.kIn_of Y) ?F
  case F =>
    intro w mg fa h KX G hmg
    refine' D.all_mk KX G hmg ?h1 ?h2 ?h3 ?h4 ?h5 ?h6 ?h7 ?h8 ?h9 ?h10 ?h11 ?h12 ?h13 ?h14 ?h15 ?h16 ?h17 ?h18 ?h19 ?h20 ?h21 ?h22 ?h23 ?h24 ?h25 ?h26 ?h27 ?h28 ?h29 ?h30 ?h31 ?h32 ?h33 ?a34 ?l34 ?c34 ?k34 ?z_abs ?z_all ?z_bool ?z_int ?z_isinstance ?z_len ?z_list ?z_range ?z_reversed ?z_sorted ?z_str ?z_sum ?z_tuple ?z_zip ?zc_MOST_DEEP
    case h1 | h2 | h3 | h4 | h5 | h6 | h7 | h8 | h9 | h10 | h11 | h12 | h13 | h14 | h15 | h16 | h17 | h18 | h19 | h20 | h21 | h22 | h23 | h24 | h25 | h26 | h27 | h28 | h29 | h30 | h31 | h32 | h33=>refine' D.aaq ?a ?l ?c ?k; (case a=>k_is); (case l=>k_is); (case c=>k_is); (case k=>k_is)
    case a34 | l34 | c34 | k34 | z_abs | z_all | z_bool | z_int | z_isinstance | z_len | z_list | z_range | z_reversed | z_sorted | z_str | z_sum | z_tuple | z_zip | zc_MOST_DEEP=>k_is
#print axioms PySem.Challenge.cw_calm_k48_whole_any_paper_is_sound_holds
end
