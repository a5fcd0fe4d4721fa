import PyProof.Rows.All
import Wide.All
import OpenK.AllK
import Wide.FinOn
import Lean
import PyProof.EqAt
import PyProof.EqKinds
import PyProof.TupleCall
import PyProof.P3Statements
import PyProof.Lay0
import PyProof.P3Eq
import PyProof.NeData
import KE.KEqDict
import PyProof.ListRange
import KE.KDictSum
import PyProof.AttrMissHeap
import PyProof.WalksS
import KE.KDictOf
import KE.KRevSl
import PyProof.ZipIter
import PyProof.WalksMore
import PyProof.Rows.FactsT2
import PyProof.EnumMake
import PyProof.Rows.EnumRows
import PyProof.Draws
import KE.KRevIter
import PyProof.TupleOfGen
import PyProof.CollectIter
import PySem.Challenge.RW_calm_k46_rest_papers
set_option Elab.async false
noncomputable section
set_option linter.all false
set_option maxRecDepth 100000
namespace L2
open PySem PySem.Spec PyProof.Rows
noncomputable abbrev Key:=Sum Int Str
noncomputable def Rb:Key→Value→Bool
  | .inl k,v=>Value.isInt k v
  | .inr x,v=>Value.isStrOf x v
noncomputable def aa2 (w:World):Key→Int
  | .inl k=>hashInt k
  | .inr x=>hashStr w x
theorem vq:∀ {k:Key} {v:Value},Rb k v=true→(∃ i t,k=Sum.inl i∧v=Value.int i t)∨(∃ x t,k=Sum.inr x∧v=Value.str x t)
  | .inl i,v,h=>by
    obtain ⟨t,e⟩:=Value.isInt_shape (k:=i) (v:=v) h
    exact .inl ⟨i,t,rfl,e⟩
  | .inr x,v,h=>by
    obtain ⟨t,e⟩:=Value.isStrOf_shape (x:=x) (v:=v) h
    exact .inr ⟨x,t,rfl,e⟩
theorem Wc (i:Int) (t:Tok):Rb (.inl i) (.int i t)=true:=by simp [Rb,Value.isInt]
theorem Y6 (x:Str) (t:Tok):Rb (.inr x) (.str x t)=true:=by simp [Rb,Value.isStrOf]
theorem a7j (a b:Int):decide ((Sum.inl a:Key)=Sum.inl b)=(a==b):=by
  by_cases e:a=b
  · subst e; simp
  · have h:¬ (Sum.inl a:Key)=Sum.inl b:=fun q=>e (Sum.inl.inj q)
    rw [decide_eq_false h]
    exact (beq_eq_false_iff_ne.mpr e).symm
theorem a7l (a b:Str):decide ((Sum.inr a:Key)=Sum.inr b)=decide (a=b):=by
  by_cases e:a=b
  · subst e; simp
  · have h:¬ (Sum.inr a:Key)=Sum.inr b:=fun q=>e (Sum.inr.inj q)
    rw [decide_eq_false h,decide_eq_false e]
theorem a68 (a:Int) (b:Str):decide ((Sum.inl a:Key)=Sum.inr b)=false:=decide_eq_false (fun q=>nomatch q)
theorem a6b (a:Str) (b:Int):decide ((Sum.inr a:Key)=Sum.inl b)=false:=decide_eq_false (fun q=>nomatch q)
noncomputable def v9 (prog:Program) (w:World):PySem.KeyKind prog w Key where
  is:=Rb
  hash:=aa2 w
  inj:=fun v a b ha hb=>by
    rcases vq ha with ⟨i,t,rfl,rfl⟩ | ⟨x,t,rfl,rfl⟩
    · rcases vq hb with ⟨j,u,rfl,e⟩ | ⟨y,u,rfl,e⟩
      · injection e with e1 _; rw [e1]
      · exact nomatch e
    · rcases vq hb with ⟨j,u,rfl,e⟩ | ⟨y,u,rfl,e⟩
      · exact nomatch e
      · injection e with e1 _; rw [e1]
  byValue:=fun k v h=>by
    rcases vq h with ⟨i,t,rfl,rfl⟩ | ⟨x,t,rfl,rfl⟩ <;> rfl
  pyHash:=fun hv h=>by
    rcases vq hv with ⟨i,t,rfl,rfl⟩ | ⟨x,t,rfl,rfl⟩
    · exact wpAny_pyHash_int h
    · exact wpAny_pyHash_str h
  eqBool:=fun hu hv h=>by
    rcases vq hu with ⟨i,t,rfl,rfl⟩ | ⟨x,t,rfl,rfl⟩
    · rcases vq hv with ⟨j,u,rfl,rfl⟩ | ⟨y,u,rfl,rfl⟩
      · rw [a7j] at h; exact wpAny_eqBool_int h
      · rw [a68] at h; exact SeqAt.EqAt.int_str i t y u _ _ _ _ h
    · rcases vq hv with ⟨j,u,rfl,rfl⟩ | ⟨y,u,rfl,rfl⟩
      · rw [a6b] at h; exact SeqAt.EqAt.str_int x t j u _ _ _ _ h
      · rw [a7l] at h; exact wpAny_eqBool_str h
  «strs»:=fun k x t v h=>by
    rcases vq h with ⟨i,u,rfl,e⟩ | ⟨y,u,rfl,e⟩
    · exact nomatch e
    · injection e with e1 _
      subst e1
      cases v <;> rfl
theorem Us (prog:Program) (w:World) (k:Key) (v:Value):(v9 prog w).is k v=Rb k v:=rfl
theorem Pu (prog:Program) (w:World) (i:Int) (t:Tok):(v9 prog w).is (.inl i) (.int i t)=true:=Wc i t
theorem Qh (prog:Program) (w:World) (x:Str) (t:Tok):(v9 prog w).is (.inr x) (.str x t)=true:=Y6 x t
end L2
namespace L2
open PySem PySem.Spec PyProof.Rows
inductive V where
  | non | bl (b:Bool) | int (i:Int) | str (x:Str) | byt (b:Array UInt8) | flt (b:UInt64) | ref (a:Addr) | ty (n:String)
  deriving DecidableEq
noncomputable def RelV:V→Value→Prop
  | .non,u=>u=Value.none
  | .bl b,u=>u=Value.bool b
  | .int i,u=>∃ t,u=Value.int i t
  | .str x,u=>∃ t,u=Value.str x t
  | .byt b,u=>∃ t,u=Value.bytes b t
  | .flt b,u=>∃ t,u=Value.float b t
  | .ref a,u=>u=Value.ref a
  | .ty n,u=>u=Value.type n
noncomputable abbrev Vals:List V→List Value→Prop:=Paired RelV
theorem Vals.length {xs:List V} {us:List Value} (r:Vals xs us):xs.length=us.length:=Paired.length r
theorem Vals.get:∀ {xs:List V} {us:List Value} {i:Nat} {x:V},Vals xs us→xs[i]? = some x→∃ u,us[i]? = some u∧RelV x u
  | _,_,_,_,.nil,e=>by simp at e
  | _,_,0,_,.cons r _,e=>by simp at e; subst e; exact ⟨_,rfl,r⟩
  | _,_,i+1,x,.cons _ t,e=>by
    obtain ⟨u,h1,h2⟩:=Vals.get (i:=i) (x:=x) t (by simpa using e)
    exact ⟨u,by simpa using h1,h2⟩
theorem Vals.set {x:V} {u:Value} (r:RelV x u):∀ {xs:List V} {us:List Value} (i:Nat),Vals xs us→Vals (xs.set i x) (us.set i u)
  | _,_,_,.nil=>.nil
  | _,_,0,.cons _ t=>.cons r t
  | _,_,i+1,.cons q t=>.cons q (Vals.set r i t)
theorem Vals.append:∀ {xs ys:List V} {us ws:List Value},Vals xs us→Vals ys ws→Vals (xs++ys) (us++ws)
  | _,_,_,_,.nil,s=>s
  | _,_,_,_,.cons r t,s=>.cons r (Vals.append t s)
theorem Vals.take:∀ {xs:List V} {us:List Value} (n:Nat),Vals xs us→Vals (xs.take n) (us.take n)
  | _,_,0,_=>.nil
  | _,_,_+1,.nil=>.nil
  | _,_,n+1,.cons r t=>.cons r (Vals.take n t)
theorem Vals.drop:∀ {xs:List V} {us:List Value} (n:Nat),Vals xs us→Vals (xs.drop n) (us.drop n)
  | _,_,0,r=>r
  | _,_,_+1,.nil=>.nil
  | _,_,n+1,.cons _ t=>Vals.drop n t
noncomputable def Pb:Option V→Option Value→Prop
  | some v,some u=>RelV v u
  | none,none=>True
  | _,_=>False
noncomputable def KV {κ:Type}:List (κ × V)→List (κ × Value)→Prop:=Paired fun (p:κ × V) (q:κ × Value)=>p.1=q.1∧RelV p.2 q.2
noncomputable def kV:Key→V
  | .inl i=>.int i
  | .inr x=>.str x
inductive HO where
  /-- a list -/
  | lst (xs:List V)
  /-- a tuple (never changes) -/
  | tup (xs:List V)
  /-- a dict whose keys are ints and texts; one whose keys are tuples of ints and texts (the empty one is both) -/
  | dK (kvs:List (Key × V)) | dT (kvs:List (List Key × V))
  /-- a set of ints: its members,its size -/
  | set (S:Int→Bool) (n:Nat)
  /-- an instance of the class at C,its dict at dx,its attributes -/
  | ins (C dx:Addr) (fs:List (Str × V))
  /-- the dict of the instance at x -/
  | own (x:Addr)
  /-- the dict of an exception -/
  | xd (fs:List (Str × V))
  /-- a bound method,f of x -/
  | met (f x:Addr)
  /-- a range object lo,lo+1,.. below hi -/
  | rng (lo hi:Int)
  /-- a thing that is known to the object (the script; a dict while a loop walks it): read,never written while it is so -/
  | frz (o:Obj) (u:HO)
  /-- a code object's table -/
  | tbl (ps:Array Value)
  /-- any other thing,by what is true of its one object (a def of one's own: SetO a S n:=HO.ext fun h=>..) -/
  | ext (φ:Heap→Prop)
noncomputable abbrev Hp:=Addr→Option HO
noncomputable def upd (H:Hp) (a:Addr) (o:HO):Hp:=fun b=>if b=a then some o else H b
theorem kj {H:Hp} {a:Addr} {o:HO}:upd H a o a=some o:=by unfold upd; rw [if_pos rfl]
theorem ql {H:Hp} {a b:Addr} {o:HO} (h:b≠a):upd H a o b=H b:=by unfold upd; rw [if_neg h]
theorem a84 {H:Hp} {a b:Addr} {o u:HO} (h:H a=some o) (h':H b=some u) (d:o≠u):a≠b:=by
  intro e; subst e; rw [h] at h'; exact d (Option.some.inj h')
theorem wz {H:Hp} {a b:Addr} {o:HO} (h:H a=some o) (h':H b=none):a≠b:=by
  intro e; subst e; rw [h] at h'; cases h'
noncomputable def Yx (h:Heap) (a:Addr) (items:Array Value):Prop:=∃ o,h.get? a=some o∧o.cls=.type "tuple" ∧ o.dict=none∧∃ n,o.data=.seq items n
theorem Yx.is {h:Heap} {a:Addr} {items:Array Value} (x:Yx h a items):IsTup h a items:=let ⟨o,e,c,_,d⟩:=x; ⟨o,e,c,d⟩
theorem Yx.new (h:Heap) (items:Array Value):Yx (h.push { cls:=.type "tuple",data:=.seq items }) h.objs.size items:=⟨_,Heap.get?_push_size _ rfl,rfl,rfl,0,rfl⟩
noncomputable section
variable (P:Program) (w:World)
noncomputable def Bh (H:Hp) (h:Heap) (a:Addr):HO→Prop
  | .lst xs=>xs.length≤sizeLine∧∃ (its:List Value) (n:Nat),Vals xs its∧h.get? a=some { cls:=.type "list",data:=.seq its.toArray n }
  | .tup xs=>xs.length≤sizeLine∧∃ its:List Value,Vals xs its∧Yx h a its.toArray
  | .dK kvs=>kvs.length≤sizeLine∧(a==sysModules)=false∧∃ vs,KV kvs vs∧h.DictOf (v9 P w) a vs
  | .dT kvs=>kvs.length≤sizeLine∧(a==sysModules)=false∧∃ xs:List (List Key × Addr × Value),
      Paired (fun (p:List Key × V) (q:List Key × Addr × Value)=>p.1=q.1∧H q.2.1=some (.tup (p.1.map kV))∧RelV p.2 q.2.2) kvs xs ∧
      ∃ o es ep,h.get? a=some o∧o.ExactDict∧o.data=.dict es ep∧es.toList=xs.map (entryOfKey (tupleKind (v9 P w)))∧(xs.map (·.1)).Nodup
  | .set S n=>h.SetOf (intKind P w) a S n
  | .ins C dx fs=>H dx=some (.own a)∧fs.length≤1000∧dx≠a∧h.get? a=some (PySem.W.instObj C dx) ∧
      ∃ mA,h.Ns1 dx mA∧(∀ f,Pb (fs.lookup f) (mA f))∧PySem.Within mA (fs.map (·.1))
  | .own _=>∃ o,h.get? a=some o
  | .xd fs=>∃ mA,h.Ns1 a mA∧∀ f,Pb (fs.lookup f) (mA f)
  | .rng lo hi=>∃ t u v,h.get? a=some { cls:=.type "range",data:=.fields #[.int lo t,.int hi u,.int 1 v] }
  | .frz o u=>h.get? a=some o∧Bh H h a u
  | .tbl ps=>h.get? a=some { cls:=.none,data:=.fields ps }
  | .met f x=>h.get? a=some (PySem.W.methodObj (.ref f) (.ref x))
  | .ext φ=>φ h∧(∃ o,h.get? a=some o)∧∀ h1 h2:Heap,φ h1→(∀ o,h1.get? a=some o→h2.get? a=some o)→φ h2
noncomputable def HOk (H:Hp) (h:Heap):Prop:=∀ a o,H a=some o→Bh P w H h a o
end
noncomputable section
variable {P:Program} {w:World} {H H':Hp} {h h':Heap} {a:Addr} {o:HO}
theorem Bh.lt (x:Bh P w H h a o):a<h.objs.size:=by
  cases o with
  | lst xs=>obtain ⟨_,_,_,_,e⟩:=x; exact Heap.lt_size e
  | tup xs=>obtain ⟨_,_,_,p⟩:=x; exact p.is.lt
  | dK kvs=>obtain ⟨_,_,_,_,o,_,_,e,_⟩:=x; exact Heap.lt_size e
  | dT kvs=>obtain ⟨_,_,_,_,o,_,_,e,_⟩:=x; exact Heap.lt_size e
  | set S n=>obtain ⟨o,_,_,_,e,_⟩:=x; exact Heap.lt_size e
  | ins C dx fs=>obtain ⟨_,_,_,e,_⟩:=x; exact Heap.lt_size e
  | own y=>obtain ⟨_,e⟩:=x; exact Heap.lt_size e
  | xd fs=>obtain ⟨_,⟨_,_,_,e,_⟩,_⟩:=x; exact Heap.lt_size e
  | rng lo hi=>obtain ⟨_,_,_,e⟩:=x; exact Heap.lt_size e
  | frz ob u=>obtain ⟨e,_⟩:=x; exact Heap.lt_size e
  | tbl ps=>exact Heap.lt_size (show h.get? a=some _ from x)
  | met f y=>exact Heap.lt_size (show h.get? a=some _ from x)
  | ext φ=>obtain ⟨_,⟨_,e⟩,_⟩:=x; exact Heap.lt_size e
theorem Paired.a8a {α β:Type} {F G:α→β→Prop}:∀ {l₁:List α} {l₂:List β},Paired F l₁ l₂→(∀ a b,F a b→G a b)→Paired G l₁ l₂
  | _,_,.nil,_=>.nil
  | _,_,.cons r t,f=>.cons (f _ _ r) (Paired.a8a t f)
theorem Bh.stay (x:Bh P w H h a o) (k:∀ b u,(b=a∨H b=some (.own a))→h.get? b=some u→h'.get? b=some u)
    (ho:∀ b,H b=some (.own a)→H' b=some (.own a)) (ht:∀ b xs,H b=some (.tup xs)→H' b=some (.tup xs)):Bh P w H' h' a o:=by
  induction o with
  | lst xs=>obtain ⟨z,its,n,r,e⟩:=x; exact ⟨z,its,n,r,k _ _ (.inl rfl) e⟩
  | tup xs=>obtain ⟨z,its,r,ob,e,c⟩:=x; exact ⟨z,its,r,ob,k _ _ (.inl rfl) e,c⟩
  | dK kvs=>obtain ⟨z,y,vs,r,ob,es,ep,e,c⟩:=x; exact ⟨z,y,vs,r,ob,es,ep,k _ _ (.inl rfl) e,c⟩
  | dT kvs =>
    obtain ⟨z,y,xs,r,ob,es,ep,e,c⟩:=x
    exact ⟨z,y,xs,Paired.a8a r fun p q z=>⟨z.1,ht _ _ z.2.1,z.2.2⟩,ob,es,ep,k _ _ (.inl rfl) e,c⟩
  | set S n=>obtain ⟨ob,es,ep,t,e,c⟩:=x; exact ⟨ob,es,ep,t,k _ _ (.inl rfl) e,c⟩
  | ins C dx fs =>
    obtain ⟨d,z,ne,e,mA,⟨od,es,ep,e2,c⟩,r⟩:=x
    exact ⟨ho _ d,z,ne,k _ _ (.inl rfl) e,mA,⟨od,es,ep,k _ _ (.inr d) e2,c⟩,r⟩
  | own y=>obtain ⟨ob,e⟩:=x; exact ⟨ob,k _ _ (.inl rfl) e⟩
  | xd fs=>obtain ⟨mA,⟨od,es,ep,e,c⟩,r⟩:=x; exact ⟨mA,⟨od,es,ep,k _ _ (.inl rfl) e,c⟩,r⟩
  | rng lo hi=>obtain ⟨t,u,v,e⟩:=x; exact ⟨t,u,v,k _ _ (.inl rfl) e⟩
  | frz ob u ih=>obtain ⟨e,q⟩:=x; exact ⟨k _ _ (.inl rfl) e,ih q⟩
  | tbl ps =>
    have e:h.get? a=some { cls:=.none,data:=.fields ps }:=x
    show h'.get? a=some { cls:=.none,data:=.fields ps }
    exact k a _ (.inl rfl) e
  | met f y =>
    have e:h.get? a=some (PySem.W.methodObj (.ref f) (.ref y)):=x
    show h'.get? a=some (PySem.W.methodObj (.ref f) (.ref y))
    exact k a _ (.inl rfl) e
  | ext φ=>obtain ⟨p,⟨o,e⟩,st⟩:=x; exact ⟨st _ _ p fun o q=>k _ _ (.inl rfl) q,⟨o,k _ _ (.inl rfl) e⟩,st⟩
theorem HOk.lt (x:HOk P w H h) (e:H a=some o):a<h.objs.size:=(x a o e).lt
theorem HOk.fresh (x:HOk P w H h) (e:h.objs.size≤a):H a=none:=by
  cases q:H a with
  | none=>rfl
  | some u=>exact absurd (Nat.lt_of_lt_of_le (x.lt q) e) (Nat.lt_irrefl _)
theorem HOk.kept (x:HOk P w H h) (k:∀ b u,h.get? b=some u→h'.get? b=some u):HOk P w H h':=fun a o e =>
  (x a o e).stay (fun b u _ q=>k b u q) (fun _ q=>q) fun _ _ q=>q
theorem HOk.laid (x:HOk P w H h) (k:∀ b u,h.get? b=some u→h'.get? b=some u) (hp:h.objs.size≤a) (new:Bh P w (upd H a o) h' a o):HOk P w (upd H a o) h':=fun b u e=>by
  have hn:=x.fresh hp
  by_cases hb:b=a
  · subst hb; rw [kj] at e; cases e; exact new
  · rw [ql hb] at e
    exact (x b u e).stay (fun c v _ q=>k c v q) (fun c q=>by rw [ql (wz q hn)]; exact q) fun c xs q=>by rw [ql (wz q hn)]; exact q
end
noncomputable def Rd (H:Hp) (a:Addr) (u:HO):Prop:=H a=some u∨∃ o,H a=some (.frz o u)
theorem Rd.ok {P:Program} {w:World} {H:Hp} {h:Heap} {a:Addr} {u:HO} (r:Rd H a u) (x:HOk P w H h):Bh P w H h a u:=by
  rcases r with r | ⟨o,r⟩
  · exact x a u r
  · obtain ⟨_,q⟩:=x a _ r
    exact q
noncomputable def Mut:Option HO→Prop
  | some (.lst _)=>True
  | some (.dK _)=>True
  | some (.dT _)=>True
  | some (.set _ _)=>True
  | some (.ins _ _ _)=>True
  | some (.ext _)=>True
  | _=>False
noncomputable section
variable {P:Program} {w:World} {H:Hp} {h h':Heap} {x e:Addr} {o':HO}
theorem HOk.write (ok:HOk P w H h) (mu:Mut (H x)) (he:e=x∨H e=some (.own x)) (k:∀ b u,b≠e→h.get? b=some u→h'.get? b=some u) (heo:∃ u,h'.get? e=some u)
    (new:Bh P w (upd H x o') h' x o'):HOk P w (upd H x o') h':=fun b u q=>by
  have nown:∀ c y,H c=some (.own y)→c≠x:=fun c y r z=>by subst z; rw [r] at mu; exact mu
  have ntup:∀ c xs,H c=some (.tup xs)→c≠x:=fun c xs r z=>by subst z; rw [r] at mu; exact mu
  by_cases hb:b=x
  · subst hb; rw [kj] at q; cases q; exact new
  · rw [ql hb] at q
    by_cases hbe:b=e
    · have q':H b=some (.own x):=by
        rcases he with z | z
        · exact absurd (hbe.trans z) hb
        · rw [hbe]; exact z
      rw [q] at q'; cases q'
      obtain ⟨v,hv⟩:=heo
      exact ⟨v,by rw [hbe]; exact hv⟩
    · refine (ok b u q).stay (fun c v hc r=>k c v ?_ r) (fun c r=>by rw [ql (nown c b r)]; exact r) fun c xs r=>by rw [ql (ntup c xs r)]; exact r
      rcases hc with rfl | hc
      · exact hbe
      · rintro rfl
        rcases he with z | z
        · exact nown c b hc z
        · rw [hc] at z; cases z; exact hb rfl
end
structure Un (fs ex:List Addr) (H H':Hp) (h h':Heap):Prop where
  keep:∀ b o,h.get? b=some o→H b=none→b∉fs→b∉ex→h'.get? b=some o
  slot:∀ b o,h.get? b=some o→H b=none→b∈fs→b∉ex→∃ sl,h'.get? b=some { o with slots:=sl }
  free:∀ b o,h.get? b=some o→H b=none→b∉ex→H' b=none
  there:∀ b o,h.get? b=some o→b∉ex→∃ o',h'.get? b=some o'
  tups:∀ b xs,H b=some (.tup xs)→H' b=some (.tup xs)
  frzs:∀ b o u,H b=some (.frz o u)→H' b=some (.frz o u)
  tbls:∀ b ps,H b=some (.tbl ps)→∃ more,H' b=some (.tbl (ps++more))
noncomputable section
variable {fs fs' ex ex':List Addr} {H H1 H2:Hp} {h h1 h2 h':Heap} {a x e:Addr} {o:HO}
theorem Un.any (u:Un fs ex H H1 h h1) {b:Addr} {ob:Obj} (q:h.get? b=some ob) (n:H b=none) (hx:b∉ex):∃ sl,h1.get? b=some { ob with slots:=sl }:=by
  by_cases hb:b∈fs
  · exact u.slot b ob q n hb hx
  · exact ⟨ob.slots,u.keep b ob q n hb hx⟩
theorem Un.trans (a:Un fs ex H H1 h h1) (b:Un fs ex H1 H2 h1 h2):Un fs ex H H2 h h2 where
  keep:=fun c ob q n hc hx=>b.keep c ob (a.keep c ob q n hc hx) (a.free c ob q n hx) hc hx
  slot:=fun c ob q n hc hx=>by
    obtain ⟨sl,e1⟩:=a.slot c ob q n hc hx
    obtain ⟨sl',e2⟩:=b.slot c _ e1 (a.free c ob q n hx) hc hx
    exact ⟨sl',e2⟩
  free:=fun c ob q n hx=>by
    obtain ⟨o',e1⟩:=a.there c ob q hx
    exact b.free c o' e1 (a.free c ob q n hx) hx
  there:=fun c ob q hx=>by
    obtain ⟨o',e1⟩:=a.there c ob q hx
    exact b.there c o' e1 hx
  tups:=fun c xs q=>b.tups c xs (a.tups c xs q)
  frzs:=fun c ob xs q=>b.frzs c ob xs (a.frzs c ob xs q)
  tbls:=fun c ps q=>by
    obtain ⟨m1,e1⟩:=a.tbls c ps q
    obtain ⟨m2,e2⟩:=b.tbls c _ e1
    exact ⟨m1++m2,by rw [e2,Array.append_assoc]⟩
theorem Un.kept (k:∀ b u,h.get? b=some u→h'.get? b=some u):Un fs ex H H h h' :=
  ⟨fun b ob q _ _ _=>k b ob q,fun b ob q _ _ _=>⟨ob.slots,k b ob q⟩,fun _ _ _ n _=>n,fun b ob q _=>⟨ob,k b ob q⟩,fun _ _ q=>q,fun _ _ _ q=>q,fun _ ps q=>⟨#[],by rw [q]; simp⟩⟩
theorem Un.refl:Un fs ex H H h h:=Un.kept fun _ _ q=>q
theorem Un.laid (k:∀ b u,h.get? b=some u→h'.get? b=some u) (hp:h.objs.size≤a) (hn:H a=none):Un fs ex H (upd H a o) h h' where
  keep:=fun b u q _ _ _=>k b u q
  slot:=fun b u q _ _ _=>⟨u.slots,k b u q⟩
  free:=fun b u q n _=>by rw [ql (Nat.ne_of_lt (Nat.lt_of_lt_of_le (Heap.lt_size q) hp))]; exact n
  there:=fun b u q _=>⟨u,k b u q⟩
  tups:=fun b xs q=>by rw [ql (wz q hn)]; exact q
  frzs:=fun b u xs q=>by rw [ql (wz q hn)]; exact q
  tbls:=fun b ps q=>⟨#[],by rw [ql (wz q hn),q]; simp⟩
theorem Un.write (mu:Mut (H x)) (he:e=x∨H e=some (.own x)) (k:∀ b u,b≠e→h.get? b=some u→h'.get? b=some u) (heo:∃ u,h'.get? e=some u):Un fs ex H (upd H x o) h h':=by
  have hx:∀ b,H b=none→b≠x:=fun b n z=>by subst z; rw [n] at mu; exact mu
  have hb:∀ b,H b=none→b≠e:=fun b n z=>by
    subst z
    rcases he with r | r
    · exact hx b n r
    · rw [n] at r; cases r
  have hm:∀ b u,H b=some u→¬ Mut (some u)→b≠x:=fun b u q nm z=>by subst z; rw [q] at mu; exact nm mu
  refine ⟨fun b u q n _ _=>k b u (hb b n) q,fun b u q n _ _=>⟨u.slots,k b u (hb b n) q⟩,fun b u q n _=>by rw [ql (hx b n)]; exact n,fun b u q _=>?_,
    fun b xs q=>by rw [ql (hm b _ q fun z=>z)]; exact q,fun b u xs q=>by rw [ql (hm b _ q fun z=>z)]; exact q,fun b ps q=>⟨#[],by rw [ql (hm b _ q fun z=>z),q]; simp⟩⟩
  by_cases hbe:b=e
  · subst hbe; exact heo
  · exact ⟨u,k b u hbe q⟩
theorem Un.mono (u:Un fs ex H H1 h h1) (hs:∀ b∈fs,b∈fs') (hx:∀ b∈ex,b∈ex'):Un fs' ex' H H1 h h1 :=
  ⟨fun b ob q n hb he=>u.keep b ob q n (fun z=>hb (hs b z)) fun z=>he (hx b z),fun _ _ q n _ he=>u.any q n fun z=>he (hx _ z),fun b ob q n he=>u.free b ob q n fun z=>he (hx b z),fun b ob q he=>u.there b ob q fun z=>he (hx b z),u.tups,u.frzs,u.tbls⟩
end
noncomputable def trk (h:Heap) (H:Hp):List Addr:=(List.range h.objs.size).filter fun a=>(H a).isSome
noncomputable def a02 (h:Heap) (H:Hp):Heap:=PySem.W.hideAll h (trk h H)
theorem W3 (h:Heap) (H:Hp):(a02 h H).objs.size=h.objs.size:=PySem.W.hideAll_size _ _
theorem a01 {h:Heap} {H:Hp} {b:Addr} {o:Obj} (e:h.get? b=some o) (n:H b=none):(a02 h H).get? b=some o :=
  PySem.W.hideAll_get _ e fun hm=>by
    have q:(H b).isSome=true:=(List.mem_filter.mp hm).2
    rw [n] at q; simp at q
theorem a5c {h:Heap} {H:Hp} {b:Addr} {o:Obj} (e:(a02 h H).get? b=some o):h.get? b=some o∧H b=none:=by
  have e':h.get? b=some o:=PySem.W.of_hideAll (trk h H) e
  refine ⟨e',?_⟩
  cases q:H b with
  | none=>rfl
  | some x =>
    have hm:b∈trk h H:=List.mem_filter.mpr ⟨List.mem_range.mpr (Heap.lt_size e'),by simp [q]⟩
    have z:(a02 h H).get? b=none:=PySem.W.hideAll_none (trk h H) hm
    rw [z] at e; cases e
noncomputable def a4h (g h:Heap) (L:Addr):List (Addr × Obj):=(List.range h.objs.size).filterMap fun a=>if a=L∨(g.get? a).isSome=true then none else (h.get? a).map fun o=>(a,o)
noncomputable def rest (g h:Heap) (L d:Addr):List (Addr × Obj):=(a4h g h L).filter fun p=>decide (p.1≠d)
end L2
namespace L2
open PySem PySem.Spec PyProof.Rows
structure Mod (K:PySem.W.Frag) (mg:Str→Option Value) (base:Heap):Prop where
  kin:K.In base
  glob:base.Ns mainGlobals mg
  blt:∃ mb,base.Ns builtinsNs mb∧∀ x:Str,x ≠ "__name__" → mb x=bootBuiltins x
  nolimit:base.NoLimit
structure Cx where
  prog:Program
  w:World
  K:PySem.W.Frag
  mg:Str→Option Value
  base:Heap
  A:Around
  N:List Str
  s₀:Shared
  H₀:Hp
  env:Env
  outer:List Env
  stack:List Env
  ex:List Addr
  fn:Str→Bool
  calm:Bool
  pn:List (Addr × Obj)
  xe:Value→Shared→Prop
noncomputable def frs (l:List Env):List Addr:=l.filterMap (·.frame)
noncomputable abbrev Cx.fs (X:Cx):List Addr:=frs X.outer
noncomputable def Vis (sc:Scope) (x:Str):Prop:=sc.names.lookup x=some .local∨sc.names.lookup x=some .cell∨sc.names.lookup x=some .free
noncomputable def Loc (sc:Scope) (x:Str):Prop:=sc.names.lookup x=some .local∨sc.names.lookup x=some .cell
noncomputable def Look (env:Env) (h:Heap) (m:Str→Option Value) (x:Str) (u:Value):Prop :=
  (env.kindOf x=some .local∧m x=some u)∨((env.kindOf x=some .cell∨env.kindOf x=some .free)∧∃ c,env.cells.lookup x=some c∧h.IsCell c (some u))
structure Cx.Ok (X:Cx):Prop where
  mod:Mod X.K X.mg X.base
  kind:X.env.scope.kind=.function
  glob:X.env.globals=mainGlobals
  blt:X.env.builtins=builtinsNs
  above:X.s₀.heap.objs.size≤X.env.locals
  inj:∀ x y c,X.env.cells.lookup x=some c→X.env.cells.lookup y=some c→x=y
  has:∀ x,(X.env.kindOf x=some .cell∨X.env.kindOf x=some .free)→∃ c,X.env.cells.lookup x=some c
  cab:∀ x c,X.fn x=true→X.env.cells.lookup x=some c→X.s₀.heap.objs.size≤c
  hd:X.calm=true→X.A.handled=none
  frames:X.A.frames=some X.stack
  stk:X.stack=X.outer∨(X.stack=X.env::X.outer∧X.env.frame=some X.env.locals)
  exf:∀ b∈X.ex,b≠X.env.locals∧∀ x c,X.env.cells.lookup x=some c→c≠b
  bs:∀ b o,X.base.get? b=some o→X.s₀.heap.get? b=some o∧X.H₀ b=none
  bsz:X.base.objs.size≤X.s₀.heap.objs.size
  noex:∀ b o,X.base.get? b=some o→b∉X.ex
  exfs:∀ b∈X.ex,b∉X.fs
  Vz:X.s₀.heap.FunFrames X.base X.outer
  frf:∀ b∈X.fs,X.H₀ b=none
structure Inv (X:Cx) (pins:List (Addr × Obj)) (σ:List (Option V)) (H:Hp) (s:Shared):Prop where
  ok:X.Ok
  os:s.os=X.s₀.os
  bare:AllBare s.gens
  base:Un X.fs X.ex X.H₀ H X.s₀.heap s.heap
  loc:∃ m,s.heap.Ns X.env.locals m∧∀ (i:Nat) (x:Str) (v:V),X.N[i]? = some x→σ[i]? = some (some v)→Vis X.env.scope x→∃ u,RelV v u∧Look X.env s.heap m x u
  cell:∀ x c,X.env.cells.lookup x=some c→∃ v,s.heap.IsCell c v
  free:H X.env.locals=none
  freeC:∀ x c,X.env.cells.lookup x=some c→H c=none
  pin:∀ p∈X.pn++pins,s.heap.get? p.1=some p.2∧H p.1=none∧p.1≠X.env.locals∧p.1∉X.fs∧∀ v,p.2.data≠.cell v
  hok:HOk X.prog X.w H s.heap
  len:σ.length=X.N.length
noncomputable section
variable {X:Cx} {pins:List (Addr × Obj)} {σ:List (Option V)} {H H':Hp} {s:Shared} {h':Heap}
theorem Cx.Ok.a9w (ok:X.Ok) {b:Addr} {o:Obj} (e:X.base.get? b=some o):b∉X.fs:=fun hb=>by
  have:=(ok.Vz.mem hb).1
  rw [e] at this; cases this
theorem Inv.bs (I:Inv X pins σ H s):∀ b o,X.base.get? b=some o→s.heap.get? b=some o∧H b=none:=fun b o e =>
  ⟨I.base.keep b o (I.ok.bs b o e).1 (I.ok.bs b o e).2 (I.ok.a9w e) (I.ok.noex b o e),I.base.free b o (I.ok.bs b o e).1 (I.ok.bs b o e).2 (I.ok.noex b o e)⟩
theorem Inv.bk (I:Inv X pins σ H s):∀ b o,X.base.get? b=some o→s.heap.get? b=some o:=fun b o e=>(I.bs b o e).1
theorem Inv.mod (I:Inv X pins σ H s):Mod X.K X.mg X.base:=I.ok.mod
theorem Inv.kIn (I:Inv X pins σ H s):X.K.In s.heap:=I.ok.mod.kin.keeps I.bk
theorem Inv.fr (I:Inv X pins σ H s):∃ m,Fr X.base X.env.locals s.heap m :=
  let ⟨m,hn,_⟩:=I.loc
  ⟨m,hn,I.bk,Nat.le_trans I.ok.bsz I.ok.above⟩
theorem Inv.lt (I:Inv X pins σ H s):X.env.locals<s.heap.objs.size:=let ⟨_,hn,_⟩:=I.loc; hn.lt
theorem Inv.sz (I:Inv X pins σ H s):X.s₀.heap.objs.size≤s.heap.objs.size:=Nat.le_trans I.ok.above (Nat.le_of_lt I.lt)
theorem Inv.aa0 (I:Inv X pins σ H s) {a:Addr} (h:s.heap.objs.size≤a):a∉X.fs:=fun hb=>by
  obtain ⟨_,o,ho,_⟩:=I.ok.Vz.mem hb
  exact absurd (Nat.lt_of_lt_of_le (Heap.lt_size ho) (Nat.le_trans I.sz h)) (Nat.lt_irrefl _)
theorem Inv.cne (I:Inv X pins σ H s):∀ x c,X.env.cells.lookup x=some c→c≠X.env.locals:=fun x c e z=>by
  obtain ⟨v,o,ho,hd⟩:=I.cell x c e
  obtain ⟨m,⟨o',es,ep,ho',hd',_⟩,_⟩:=I.loc
  rw [z,ho'] at ho; cases ho; rw [hd'] at hd; cases hd
theorem Inv.Vz (I:Inv X pins σ H s):s.heap.FunFrames X.base X.outer:=by
  have all:∀ (l:List Env),(∀ b∈frs l,b∈X.fs)→X.s₀.heap.FunFrames X.base l→s.heap.FunFrames X.base l:=by
    intro l
    induction l with
    | nil=>intro _ _; trivial
    | cons env r ih =>
      intro hs hl
      obtain ⟨hk,⟨L,o,hf,hn,ho,hd⟩,hr⟩:=hl
      have hL:L∈X.fs:=hs L (by unfold frs; rw [List.filterMap_cons,hf]; exact List.mem_cons_self)
      obtain ⟨sl,e⟩:=I.base.slot L o ho (I.ok.frf L hL) hL fun z=>I.ok.exfs L z hL
      exact ⟨hk,⟨L,_,hf,hn,e,hd⟩,ih (fun b hb=>hs b (by unfold frs; rw [List.filterMap_cons,hf]; exact List.mem_cons_of_mem _ hb)) hr⟩
  exact all X.outer (fun _ hb=>hb) I.ok.Vz
theorem Inv.stack (I:Inv X pins σ H s):s.heap.FunFrames X.base X.stack:=by
  rcases I.ok.stk with e | ⟨e,hf⟩
  · rw [e]; exact I.Vz
  · rw [e]
    obtain ⟨m,hn,_⟩:=I.loc
    refine .cons (by rw [I.ok.kind]; decide) hf hn ?_ I.Vz
    exact Heap.get?_none_of_le (Nat.le_trans I.ok.bsz I.ok.above)
theorem Inv.Uk (I:Inv X pins σ H s):∀ b∈frs X.stack,b∈X.env.locals::X.fs:=fun b hb=>by
  rcases I.ok.stk with e | ⟨e,hf⟩
  · rw [e] at hb; exact List.mem_cons_of_mem _ hb
  · rw [e] at hb
    unfold frs at hb
    rw [List.filterMap_cons,hf] at hb
    exact hb
theorem Inv.W4 (I:Inv X pins σ H s):∀ b∈frs X.stack,H b=none:=fun b hb=>by
  rcases List.mem_cons.mp (I.Uk b hb) with e | hb
  · rw [e]; exact I.free
  · obtain ⟨_,o,ho,_⟩:=I.ok.Vz.mem hb
    exact I.base.free b o ho (I.ok.frf b hb) fun z=>I.ok.exfs b z hb
theorem Inv.step {g':Array GenState} {t':Nat} {d':Drawn} {ch:List Addr} (I:Inv X pins σ H s)
    (hch:∀ b∈ch,(b∈X.ex∨X.s₀.heap.objs.size≤b)∧b≠X.env.locals∧(∀ x c,X.env.cells.lookup x=some c→c≠b)∧∀ p∈X.pn++pins,p.1≠b)
    (keep:∀ b o,b≠X.env.locals→b∉X.fs→b∉ch→s.heap.get? b=some o→H b=none→h'.get? b=some o)
    (slot:∀ b o,b≠X.env.locals→b∈X.fs→b∉ch→s.heap.get? b=some o→H b=none→∃ sl,h'.get? b=some { o with slots:=sl }) (free:∀ b o,b∉ch→s.heap.get? b=some o→H b=none→H' b=none)
    (there:∀ b o,b∉ch→s.heap.get? b=some o→∃ o',h'.get? b=some o')
    (tups:∀ b xs,H b=some (.tup xs)→H' b=some (.tup xs)) (frzs:∀ b o u,H b=some (.frz o u)→H' b=some (.frz o u)) (tbls:∀ b ps,H b=some (.tbl ps)→∃ more,H' b=some (.tbl (ps++more)))
    (ns:∀ m,s.heap.Ns X.env.locals m→h'.Ns X.env.locals m) (hok:HOk X.prog X.w H' h') (hg:AllBare g') :
    Inv X pins σ H' { s with heap:=h',gens:=g',drawn:=d',toks:=t' }:=by
  have neL:∀ b o,X.s₀.heap.get? b=some o→b≠X.env.locals:=fun b o e=>Nat.ne_of_lt (Nat.lt_of_lt_of_le (Heap.lt_size e) I.ok.above)
  have neC:∀ b o,X.s₀.heap.get? b=some o→b∉X.ex→b∉ch:=fun b o e hx hb=>by
    rcases (hch b hb).1 with z | z
    · exact hx z
    · exact absurd (Nat.lt_of_lt_of_le (Heap.lt_size e) z) (Nat.lt_irrefl _)
  have cellK:∀ x c,X.env.cells.lookup x=some c→∀ v,s.heap.IsCell c v→h'.IsCell c v:=fun x c e v z9=>by
    obtain ⟨o,ho,hd⟩:=z9
    have nch:c∉ch:=fun z=>(hch c z).2.2.1 x c e rfl
    by_cases hc:c∈X.fs
    · obtain ⟨sl,q⟩:=slot c o (I.cne x c e) hc nch ho (I.freeC x c e)
      exact ⟨_,q,hd⟩
    · exact ⟨o,keep c o (I.cne x c e) hc nch ho (I.freeC x c e),hd⟩
  refine ⟨I.ok,I.os,hg,⟨fun b o e n hb hx=>?_,fun b o e n hb hx=>?_,fun b o e n hx=>?_,fun b o e hx=>?_,fun b xs e=>tups b xs (I.base.tups b xs e),fun b o xs e=>frzs b o xs (I.base.frzs b o xs e),fun b ps e=>?_⟩,?_,fun x c e=>?_,?_,fun x c e=>?_,fun p hp=>?_,hok,I.len⟩
  · exact keep b o (neL b o e) hb (neC b o e hx) (I.base.keep b o e n hb hx) (I.base.free b o e n hx)
  · obtain ⟨sl,e1⟩:=I.base.slot b o e n hb hx
    obtain ⟨sl',e2⟩:=slot b _ (neL b o e) hb (neC b o e hx) e1 (I.base.free b o e n hx)
    exact ⟨sl',e2⟩
  · obtain ⟨o',e1⟩:=I.base.there b o e hx
    exact free b o' (neC b o e hx) e1 (I.base.free b o e n hx)
  · obtain ⟨o',e1⟩:=I.base.there b o e hx
    exact there b o' (neC b o e hx) e1
  · obtain ⟨m1,e1⟩:=I.base.tbls b ps e
    obtain ⟨m2,e2⟩:=tbls b _ e1
    exact ⟨m1++m2,by rw [e2,Array.append_assoc]⟩
  · obtain ⟨m,hn,hl⟩:=I.loc
    refine ⟨m,ns m hn,fun i x v e1 e2 e3=>?_⟩
    obtain ⟨u,r,l⟩:=hl i x v e1 e2 e3
    refine ⟨u,r,?_⟩
    rcases l with l | ⟨k,c,e,z⟩
    · exact .inl l
    · exact .inr ⟨k,c,e,cellK x c e _ z⟩
  · obtain ⟨v,z⟩:=I.cell x c e
    exact ⟨v,cellK x c e v z⟩
  · obtain ⟨m,⟨o,_,_,ho,_⟩,_⟩:=I.loc
    exact free _ o (fun z=>(hch _ z).2.1 rfl) ho I.free
  · obtain ⟨v,o,ho,hd⟩:=I.cell x c e
    exact free c o (fun z=>(hch c z).2.2.1 x c e rfl) ho (I.freeC x c e)
  · obtain ⟨e,n,ne,nf,d⟩:=I.pin p hp
    have nch:p.1∉ch:=fun z=>(hch p.1 z).2.2.2 p hp rfl
    exact ⟨keep p.1 p.2 ne nf nch e n,free p.1 p.2 nch e n,ne,nf,d⟩
theorem Inv.un {t':Nat} (I:Inv X pins σ H s) (u:Un X.fs [] H H' s.heap h') (hok:HOk X.prog X.w H' h'):Inv X pins σ H' { s with heap:=h',toks:=t' }:=by
  obtain ⟨m,⟨o,es,ep,ho,r⟩,_⟩:=id I.loc
  obtain ⟨sl,hL⟩:=u.any ho I.free (by simp)
  exact I.step (g':=s.gens) (d':=s.drawn) (ch:=[]) (fun _ z=>nomatch z) (fun b o _ hb _ e n=>u.keep b o e n hb (by simp)) (fun b o _ hb _ e n=>u.slot b o e n hb (by simp)) (fun b o _ e n=>u.free b o e n (by simp)) (fun b o _ e=>u.there b o e (by simp)) u.tups u.frzs u.tbls (fun m' hm=>by
    obtain ⟨o',es',ep',ho',r'⟩:=hm
    rw [ho] at ho'; cases ho'
    exact ⟨_,es',ep',hL,r'⟩) hok I.bare
theorem Inv.call {g':Array GenState} {t':Nat} {d':Drawn} {ch:List Addr} (I:Inv X pins σ H s) (u:Un (frs X.stack) ch H H' s.heap h') (hok:HOk X.prog X.w H' h') (hg:AllBare g')
    (hch:∀ b∈ch,(b∈X.ex∨X.s₀.heap.objs.size≤b)∧b≠X.env.locals∧(∀ x c,X.env.cells.lookup x=some c→c≠b)∧∀ p∈X.pn++pins,p.1≠b) :
    Inv X pins σ H' { s with heap:=h',gens:=g',drawn:=d',toks:=t' }:=by
  obtain ⟨m,⟨o,es,ep,ho,r⟩,_⟩:=id I.loc
  obtain ⟨sl,hL⟩:=u.any ho I.free fun z=>(hch _ z).2.1 rfl
  exact I.step (ch:=ch) hch (fun b o hL hb hc e n=>u.keep b o e n (fun z=>(List.mem_cons.mp (I.Uk b z)).elim hL hb) hc) (fun b o _ _ hc e n=>u.any e n hc) (fun b o hc e n=>u.free b o e n hc) (fun b o hc e=>u.there b o e hc) u.tups u.frzs u.tbls (fun m' hm=>by
    obtain ⟨o',es',ep',ho',r'⟩:=hm
    rw [ho] at ho'; cases ho'
    exact ⟨_,es',ep',hL,r'⟩) hok hg
theorem Inv.turned {t':Nat} {it:Addr} (I:Inv X pins σ H s) (k:∀ b o,b≠it→s.heap.get? b=some o→h'.get? b=some o) (hn:H it=none) (hL:it≠X.env.locals)
    (h1:it∈X.ex∨X.s₀.heap.objs.size≤it) (h2:∀ x c,X.env.cells.lookup x=some c→c≠it) (h3:∀ p∈X.pn++pins,p.1≠it):Inv X pins σ H { s with heap:=h',toks:=t' }:=by
  have nit:∀ b u,H b=some u→b≠it:=fun b u e z=>by rw [z,hn] at e; cases e
  refine I.step (g':=s.gens) (d':=s.drawn) (ch:=[it]) (fun b hb=>?_) (fun b o _ _ hc e _=>k b o (fun z=>hc (by simp [z])) e) (fun b o _ _ hc e _=>⟨o.slots,k b o (fun z=>hc (by simp [z])) e⟩) (fun _ _ _ _ n=>n)
    (fun b o hc e=>⟨o,k b o (fun z=>hc (by simp [z])) e⟩) (fun _ _ e=>e) (fun _ _ _ e=>e) (fun b ps e=>⟨#[],by rw [e]; simp⟩) (fun m hm=>?_) (fun b u e=>?_) I.bare
  · have e:b=it:=by simpa using hb
    subst e
    exact ⟨h1,hL,h2,h3⟩
  · obtain ⟨o,es,ep,ho,r⟩:=hm
    exact ⟨o,es,ep,k _ o (Ne.symm hL) ho,r⟩
  · refine (I.hok b u e).stay (fun c v hc q=>k c v ?_ q) (fun _ q=>q) fun _ _ q=>q
    rcases hc with z | z
    · rw [z]; exact nit b u e
    · exact nit c _ z
theorem Inv.tok (I:Inv X pins σ H s) (t:Nat):Inv X pins σ H { s with toks:=t }:=I.un (h':=s.heap) (t':=t) Un.refl I.hok
theorem Inv.kept {t':Nat} (I:Inv X pins σ H s) (k:∀ b u,s.heap.get? b=some u→h'.get? b=some u):Inv X pins σ H { s with heap:=h',toks:=t' }:=I.un (Un.kept k) (I.hok.kept k)
theorem Inv.laid {a:Addr} {o:HO} {t':Nat} (I:Inv X pins σ H s) (k:∀ b u,s.heap.get? b=some u→h'.get? b=some u) (hp:s.heap.objs.size≤a) (new:Bh X.prog X.w (upd H a o) h' a o) :
    Inv X pins σ (upd H a o) { s with heap:=h',toks:=t' }:=I.un (Un.laid k hp (I.hok.fresh hp)) (I.hok.laid k hp new)
theorem Inv.write {x e:Addr} {o:HO} {t':Nat} (I:Inv X pins σ H s) (mu:Mut (H x)) (he:e=x∨H e=some (.own x)) (k:∀ b u,b≠e→s.heap.get? b=some u→h'.get? b=some u) (heo:∃ u,h'.get? e=some u)
    (new:Bh X.prog X.w (upd H x o) h' x o):Inv X pins σ (upd H x o) { s with heap:=h',toks:=t' }:=I.un (Un.write mu he k heo) (I.hok.write mu he k heo new)
theorem Inv.X8 {pins':List (Addr × Obj)} (I:Inv X pins σ H s) (h:∀ p∈pins',s.heap.get? p.1=some p.2∧H p.1=none∧p.1≠X.env.locals∧p.1∉X.fs∧∀ v,p.2.data≠.cell v):Inv X pins' σ H s :=
  ⟨I.ok,I.os,I.bare,I.base,I.loc,I.cell,I.free,I.freeC,fun p hp=>(List.mem_append.mp hp).elim (fun z=>I.pin p (List.mem_append_left _ z)) (h p),I.hok,I.len⟩
theorem T7 {N:List Str} (hN:N.Nodup) {i j:Nat} {x:Str} (a:N[i]? = some x) (b:N[j]? = some x):i=j:=by
  obtain ⟨h1,e1⟩:=List.getElem?_eq_some_iff.mp a
  obtain ⟨h2,e2⟩:=List.getElem?_eq_some_iff.mp b
  exact (List.getElem_inj hN).mp (e1.trans e2.symm)
theorem Yd {M:Model} {A:Around} {E:Value→Shared→Prop} {i:Nat} {x:Str} {v:V} {u:Value} {Q:Unit→Shared→Prop} (I:Inv X pins σ H s) (hN:X.N.Nodup) (hi:X.N[i]? = some x) (hx:Loc X.env.scope x) (r:RelV v u)
    (h:∀ s',Inv X pins (σ.set i (some v)) H s'→(∃ a,Heap.SameBut a s.heap s'.heap∧(a=X.env.locals∨X.env.cells.lookup x=some a))→Q () s') (hf:X.fn x=true∨X.env.scope.names.lookup x=some .local:=by first | exact .inl rfl | exact .inr rfl | assumption):wpAny M A (storeName X.env x u) Q E s:=by
  obtain ⟨m,hn,hl⟩:=id I.loc
  have hcls:(X.env.scope.kind == .class||(X.env.scope.kind == .module&&X.env.locals != X.env.globals))=false:=by rw [I.ok.kind]; rfl
  have hiσ:i<σ.length:=by rw [I.len]; exact (List.getElem?_eq_some_iff.mp hi).1
  have cne:=I.cne
  have tracked:∀ {a:Addr} {h':Heap},(∃ o,s.heap.get? a=some o∧H a=none)→Heap.SameBut a s.heap h'→HOk X.prog X.w H h':=fun {a h'} ha hs b ob e=>by
    obtain ⟨_,_,hfree⟩:=ha
    refine (I.hok b ob e).stay (fun c w' hc q=>(hs.2 c ?_).trans q) (fun _ q=>q) fun _ _ q=>q
    rintro rfl
    rcases hc with rfl | hc
    · rw [hfree] at e; cases e
    · rw [hfree] at hc; cases hc
  rcases hx with hk | hk
  · refine wpAny_storeName_local hk hn (fun h' hn' hs=>?_) hcls
    obtain ⟨oL,_,_,hoL,_⟩:=id hn
    refine h _ ⟨I.ok,I.os,I.bare,⟨fun b o e n hb hx=>?_,fun b o e n hb hx=>?_,I.base.free,fun b o e hx=>?_,I.base.tups,I.base.frzs,I.base.tbls⟩,⟨_,hn',fun j y v' e1 e2 e3=>?_⟩,fun y c e=>?_,I.free,I.freeC,fun p hp=>?_,tracked ⟨oL,hoL,I.free⟩ hs,by simpa using I.len⟩ ⟨_,hs,.inl rfl⟩
    · exact (hs.2 b (Nat.ne_of_lt (Nat.lt_of_lt_of_le (Heap.lt_size e) I.ok.above))).trans (I.base.keep b o e n hb hx)
    · obtain ⟨sl,e1⟩:=I.base.slot b o e n hb hx
      exact ⟨sl,(hs.2 b (Nat.ne_of_lt (Nat.lt_of_lt_of_le (Heap.lt_size e) I.ok.above))).trans e1⟩
    · obtain ⟨o',e1⟩:=I.base.there b o e hx
      exact ⟨o',(hs.2 b (Nat.ne_of_lt (Nat.lt_of_lt_of_le (Heap.lt_size e) I.ok.above))).trans e1⟩
    · by_cases hj:j=i
      · subst hj
        rw [hi] at e1; cases e1
        rw [List.getElem?_set_self hiσ] at e2
        cases e2
        exact ⟨u,r,.inl ⟨hk,by simp⟩⟩
      · rw [List.getElem?_set_ne (Ne.symm hj)] at e2
        obtain ⟨u',r',q⟩:=hl j y v' e1 e2 e3
        refine ⟨u',r',?_⟩
        rcases q with ⟨k,e⟩ | ⟨k,c,e,z⟩
        · refine .inl ⟨k,?_⟩
          have:y≠x:=fun e=>hj (T7 hN e1 (e ▸ hi))
          simp [this,e]
        · exact .inr ⟨k,c,e,z.sameBut hs (cne y c e)⟩
    · obtain ⟨w',z⟩:=I.cell y c e
      exact ⟨w',z.sameBut hs (cne y c e)⟩
    · obtain ⟨e,n,ne,nf,d⟩:=I.pin p hp
      exact ⟨(hs.2 p.1 ne).trans e,n,ne,nf,d⟩
  · have hfn:X.fn x=true:=by
      rcases hf with z | z
      · exact z
      · rw [z] at hk; cases hk
    obtain ⟨c,hc⟩:=I.ok.has x (.inl hk)
    obtain ⟨w',z⟩:=I.cell x c hc
    refine wpAny_storeName_cell I.ok.kind hk hc z (fun h' hc' hs=>?_)
    obtain ⟨oc,hoc,hocd⟩:=id z
    refine h { s with heap:=h' } ⟨I.ok,I.os,I.bare,⟨fun b o e n hb hx=>?_,fun b o e n hb hx=>?_,I.base.free,fun b o e hx=>?_,I.base.tups,I.base.frzs,I.base.tbls⟩,⟨m,hn.sameBut hs (Ne.symm (cne x c hc)),fun j y v' e1 e2 e3=>?_⟩,fun y c' e=>?_,I.free,I.freeC,fun p hp=>?_,tracked ⟨oc,hoc,I.freeC x c hc⟩ hs,by simpa using I.len⟩ ⟨c,hs,.inr hc⟩
    · exact (hs.2 b (Nat.ne_of_lt (Nat.lt_of_lt_of_le (Heap.lt_size e) (I.ok.cab x c hfn hc)))).trans (I.base.keep b o e n hb hx)
    · obtain ⟨sl,e1⟩:=I.base.slot b o e n hb hx
      exact ⟨sl,(hs.2 b (Nat.ne_of_lt (Nat.lt_of_lt_of_le (Heap.lt_size e) (I.ok.cab x c hfn hc)))).trans e1⟩
    · obtain ⟨o',e1⟩:=I.base.there b o e hx
      exact ⟨o',(hs.2 b (Nat.ne_of_lt (Nat.lt_of_lt_of_le (Heap.lt_size e) (I.ok.cab x c hfn hc)))).trans e1⟩
    · by_cases hj:j=i
      · subst hj
        rw [hi] at e1; cases e1
        rw [List.getElem?_set_self hiσ] at e2
        cases e2
        exact ⟨u,r,.inr ⟨.inl hk,c,hc,hc'⟩⟩
      · rw [List.getElem?_set_ne (Ne.symm hj)] at e2
        obtain ⟨u',r',q⟩:=hl j y v' e1 e2 e3
        refine ⟨u',r',?_⟩
        rcases q with q | ⟨k,c',e,z'⟩
        · exact .inl q
        · refine .inr ⟨k,c',e,z'.sameBut hs ?_⟩
          rintro rfl
          exact hj (T7 hN e1 (I.ok.inj _ _ _ e hc ▸ hi))
    · by_cases hcc:c'=c
      · subst hcc; exact ⟨_,hc'⟩
      · obtain ⟨w2,z2⟩:=I.cell y c' e
        exact ⟨w2,z2.sameBut hs hcc⟩
    · obtain ⟨e,n,ne,nf,d⟩:=I.pin p hp
      refine ⟨(hs.2 p.1 ?_).trans e,n,ne,nf,d⟩
      intro q
      rw [q,hoc] at e
      have q':oc=p.2:=Option.some.inj e
      exact d w' (by rw [← q']; exact hocd)
theorem U8 {M:Model} {A:Around} {E:Value→Shared→Prop} {i:Nat} {x:Str} {v:V} {u:Value} {Q:Unit→Shared→Prop} (I:Inv X pins σ H s) (hN:X.N.Nodup) (hi:X.N[i]? = some x) (hx:Loc X.env.scope x) (r:RelV v u)
    (h:∀ s',Inv X pins (σ.set i (some v)) H s'→Q () s') (hf:X.fn x=true∨X.env.scope.names.lookup x=some .local:=by first | exact .inl rfl | exact .inr rfl | assumption):wpAny M A (storeName X.env x u) Q E s :=
  Yd I hN hi hx r (fun s' I' _=>h s' I') hf
end
noncomputable abbrev XK:=Value→Option Addr→Hp→Prop
noncomputable abbrev St:=List (Option V)
noncomputable abbrev VK:=V→Hp→Prop
noncomputable abbrev TE:=St→Hp→VK→Prop
noncomputable abbrev TT:=St→Hp→(Bool→Hp→Prop)→Prop
noncomputable abbrev TA:=St→Hp→(List V→Hp→Prop)→Prop
structure Ends where
  nx:St→Hp→Prop
  rt:VK
  bk:St→Hp→Prop:=fun _ _=>False
  ct:St→Hp→Prop:=fun _ _=>False
noncomputable abbrev TS:=Ends→St→Hp→Prop
inductive EP (X:Cx) (pins:List (Addr × Obj)) (σ:St) (Q:VK) (u:Value) (s':Shared):Prop
  | mk (v:V) (H':Hp) (I:Inv X pins σ H' s') (r:RelV v u) (q:Q v H')
noncomputable def TP (X:Cx) (pins:List (Addr × Obj)) (σ:St) (Q:Bool→Hp→Prop) (b:Bool) (s':Shared):Prop:=∃ H',Inv X pins σ H' s'∧Q b H'
inductive AP (X:Cx) (pins:List (Addr × Obj)) (σ:St) (Q:List V→Hp→Prop) (us:List Value) (s':Shared):Prop
  | mk (vs:List V) (H':Hp) (I:Inv X pins σ H' s') (r:Vals vs us) (q:Q vs H')
noncomputable def SP (X:Cx) (pins:List (Addr × Obj)) (D:Ends) (f:Flow) (s':Shared):Prop :=
  match f with
  | .next=>∃ σ' H',Inv X pins σ' H' s'∧D.nx σ' H'
  | .brk=>∃ σ' H',Inv X pins σ' H' s'∧D.bk σ' H'
  | .cont=>∃ σ' H',Inv X pins σ' H' s'∧D.ct σ' H'
  | .ret u=>∃ v σ' H',Inv X pins σ' H' s'∧RelV v u∧D.rt v H'
noncomputable def PE (X:Cx) (e:Expr) (t:TE):Prop :=
  ∀ (pins:List (Addr × Obj)) (s:Shared) (σ:St) (H:Hp) (Q:VK),Inv X pins σ H s→t σ H Q→wpAny (model X.prog X.w) X.A (eval e X.env) (EP X pins σ Q) X.xe s
noncomputable def PT (X:Cx) (e:Expr) (t:TT):Prop :=
  ∀ (pins:List (Addr × Obj)) (s:Shared) (σ:St) (H:Hp) (Q:Bool→Hp→Prop),Inv X pins σ H s→t σ H Q→wpAny (model X.prog X.w) X.A (isTrue e X.env (eval e X.env)) (TP X pins σ Q) X.xe s
noncomputable def PW (X:Cx) (e:Expr) (t:TT):Prop :=
  ∀ (whole:Sem Value) (pins:List (Addr × Obj)) (s:Shared) (σ:St) (H:Hp) (Q:Bool→Hp→Prop),Inv X pins σ H s→t σ H Q→wpAny (model X.prog X.w) X.A (isTrue e X.env whole) (TP X pins σ Q) X.xe s
theorem PW.pt {X:Cx} {e:Expr} {t:TT} (h:PW X e t):PT X e t:=h _
noncomputable def PA (X:Cx) (es:List Expr) (t:TA):Prop :=
  ∀ (pos:Pos) (pins:List (Addr × Obj)) (s:Shared) (σ:St) (H:Hp) (Q:List V→Hp→Prop),Inv X pins σ H s→t σ H Q→wpAny (model X.prog X.w) X.A (spliced (backTo pos (starEach es X.env))) (AP X pins σ Q) X.xe s
noncomputable def PS (X:Cx) (st:Stmt) (t:TS):Prop :=
  ∀ (pins:List (Addr × Obj)) (s:Shared) (σ:St) (H:Hp) (D:Ends),Inv X pins σ H s→t D σ H→wpAny (model X.prog X.w) X.A (exec st X.env) (SP X pins D) X.xe s
noncomputable def PSs (X:Cx) (st:List Stmt) (t:TS):Prop :=
  ∀ (pins:List (Addr × Obj)) (s:Shared) (σ:St) (H:Hp) (D:Ends),Inv X pins σ H s→t D σ H→wpAny (model X.prog X.w) X.A (execs st X.env) (SP X pins D) X.xe s
theorem thn {α:Type} {t:Sem α} {Q Q':α→Shared→Prop} {M:Model} {A:Around} {E:Value→Shared→Prop} {s:Shared} (h:wpAny M A t Q E s) (hQ:∀ a s,Q a s→Q' a s):wpAny M A t Q' E s:=wpAny_mono h hQ fun _ _ x=>x
end L2
namespace L2
open PySem PySem.Spec PyProof.Rows
noncomputable section
variable {X:Cx}
noncomputable def a0w (i:Nat):TE:=fun σ H Q=>∃ v,σ[i]? = some (some v)∧Q v H
noncomputable def tC (v:V):TE:=fun _ H Q=>Q v H
theorem a6i {i:Nat} {x:Str} {pos:Pos} (hN:X.N[i]? = some x) (hv:Vis X.env.scope x) (hd:(x==("__debug__" : Str))=false:=by decide) (hcd:(x==("__classdict__" : Str))=false:=by decide):PE X (.Name x pos) (a0w i):=by
  intro pins s σ H Q I h
  obtain ⟨v,e,h⟩:=h
  obtain ⟨m,hn,hl⟩:=I.loc
  obtain ⟨u,r,l⟩:=hl i x v hN e hv
  have fin:EP X pins σ Q u s:=⟨v,H,I,r,h⟩
  rcases l with ⟨hk,hm⟩ | ⟨hk,c,hc,hcell⟩
  · exact wpAny_Name (wpAny_loadName_local I.ok.kind hk hn hm fin) hd
  · rcases hk with hk | hk
    · exact wpAny_Name (wpAny_loadName_cell I.ok.kind hk hc hcell fin) hd
    · exact wpAny_Name (wpAny_loadName_free I.ok.kind hk hc hcell fin hcd) hd
theorem a2c {i j pos}:PE X (.Constant (.int i) j pos) (tC (.int i)):=fun _ _ _ H _ I h=>wpAny_Constant_int ⟨.int i,H,I.tok _,⟨_,rfl⟩,h⟩
theorem a8q {b j pos}:PE X (.Constant (.bool b) j pos) (tC (.bl b)):=fun _ _ _ H _ I h=>Constant_bool ⟨.bl b,H,I,rfl,h⟩
theorem a70 {j pos}:PE X (.Constant .none j pos) (tC .non):=fun _ _ _ H _ I h=>Constant_none ⟨.non,H,I,rfl,h⟩
theorem a6n {x j pos}:PE X (.Constant (.str x) j pos) (tC (.str x)):=fun _ _ _ H _ I h=>Calls.Constant_str ⟨.str x,H,I.tok _,⟨_,rfl⟩,h⟩
noncomputable def Gl (X:Cx) (x:Str):Prop:=X.env.kindOf x=some .globalImplicit
theorem Yt {E:Value→Shared→Prop} {pins:List (Addr × Obj)} {s:Shared} {σ:St} {H:Hp} {x:Str} {u:Value} {pos:Pos} {Q:Value→Shared→Prop} (I:Inv X pins σ H s) (hg:Gl X x) (hm:X.mg x=some u) (h:Q u s)
    (hd:(x==("__debug__" : Str))=false:=by decide):wpAny (model X.prog X.w) X.A (eval (.Name x pos) X.env) Q E s :=
  Calls.Name_function_global I.ok.kind hg (Calls.loadGlobal_global (by rw [I.ok.glob]; exact I.mod.glob.keeps I.bk) hm h) hd
theorem Lp {E:Value→Shared→Prop} {pins:List (Addr × Obj)} {s:Shared} {σ:St} {H:Hp} {x:Str} {u:Value} {pos:Pos} {Q:Value→Shared→Prop} (I:Inv X pins σ H s) (hg:Gl X x) (hm:X.mg x=none) (hv:bootBuiltins x=some u) (h:Q u s)
    (hn:x ≠ "__name__" := by decide) (hd:(x==("__debug__" : Str))=false:=by decide):wpAny (model X.prog X.w) X.A (eval (.Name x pos) X.env) Q E s:=by
  obtain ⟨mb,h1,h2⟩:=I.mod.blt
  exact Calls.Name_function_global I.ok.kind hg (Calls.loadGlobal_builtin (by rw [I.ok.glob]; exact I.mod.glob.keeps I.bk) hm (by rw [I.ok.blt]; exact h1.keeps I.bk) ((h2 x hn).trans hv) h) hd
theorem a4e {x:Str} {v:V} {u:Value} {pos:Pos} (hg:Gl X x) (hm:X.mg x=some u) (r:RelV v u) (hd:(x==("__debug__" : Str))=false:=by decide):PE X (.Name x pos) (tC v) :=
  fun _ _ _ H _ I h=>Yt I hg hm ⟨v,H,I,r,h⟩ hd
theorem a3m {x:Str} {v:V} {u:Value} {pos:Pos} (hg:Gl X x) (hm:X.mg x=none) (hv:bootBuiltins x=some u) (r:RelV v u) (hn:x ≠ "__name__" := by decide) (hd:(x==("__debug__" : Str))=false:=by decide):PE X (.Name x pos) (tC v) :=
  fun _ _ _ H _ I h=>Lp I hg hm hv ⟨v,H,I,r,h⟩ hn hd
variable {a b:Expr} {ta tb:TE} {pos:Pos}
noncomputable def tB (t:TE):TT:=fun σ H Q=>t σ H fun x H1=>∃ c,x=.bl c∧Q c H1
theorem a78 {e:Expr} {t:TE} (h:PE X e t) (he:∀ whole,isTrue e X.env whole=(do let v ← whole; standAt e.pos; holding [v] (truthy v)):=by intro _; rfl):PT X e (tB t):=by
  intro pins s σ H Q I hw
  refine isTrue_plain (thn (h pins s σ H _ I hw) fun v s1 z0=>?_) (he _)
  obtain ⟨x,H1,I1,r1,q1⟩:=z0
  obtain ⟨d,rfl,q⟩:=q1
  cases r1
  exact wpAny_truthy_bool ⟨H1,I1,q⟩
variable {tA tB':TT} {rest:List Expr}
noncomputable def a9e (t u:TT):TT:=fun σ H Q=>t σ H fun c H1=>if c=true then u σ H1 Q else Q false H1
noncomputable def tOr (t u:TT):TT:=fun σ H Q=>t σ H fun c H1=>if c=true then Q true H1 else u σ H1 Q
noncomputable def a9y (t:TT):TT:=fun σ H Q=>t σ H fun c H1=>Q (!c) H1
theorem pw_and1 (ha:PT X a tA):PW X (.BoolOp .And [a] pos) tA:=by
  intro wh pins s σ H Q I h
  refine isTrue_and (thn (ha pins s σ H Q I h) fun c s1 e=>?_)
  cases c with
  | true=>exact isTrue_and_nil e
  | false=>exact e
theorem pw_or1 (ha:PT X a tA):PW X (.BoolOp .Or [a] pos) tA:=by
  intro wh pins s σ H Q I h
  refine isTrue_or (thn (ha pins s σ H Q I h) fun c s1 e=>?_)
  cases c with
  | false=>exact isTrue_or_nil e
  | true=>exact e
theorem pw_and (ha:PT X a tA) (hb:PW X (.BoolOp .And (b::rest) pos) tB'):PW X (.BoolOp .And (a::b::rest) pos) (a9e tA tB'):=by
  intro wh pins s σ H Q I h
  refine isTrue_and (thn (ha pins s σ H _ I h) fun c s1 z0=>?_)
  obtain ⟨H1,I1,q1⟩:=z0
  cases c with
  | true=>exact hb wh pins s1 σ H1 Q I1 q1
  | false=>exact ⟨H1,I1,q1⟩
theorem pw_or (ha:PT X a tA) (hb:PW X (.BoolOp .Or (b::rest) pos) tB'):PW X (.BoolOp .Or (a::b::rest) pos) (tOr tA tB'):=by
  intro wh pins s σ H Q I h
  refine isTrue_or (thn (ha pins s σ H _ I h) fun c s1 z0=>?_)
  obtain ⟨H1,I1,q1⟩:=z0
  cases c with
  | true=>exact ⟨H1,I1,q1⟩
  | false=>exact hb wh pins s1 σ H1 Q I1 q1
theorem a66 (ha:PT X a tA):PT X (.UnaryOp .Not a pos) (a9y tA):=by
  intro pins s σ H Q I h
  exact isTrue_not (ha pins s σ H (fun c H1=>Q (!c) H1) I h)
noncomputable def a89 (ta tb:TE):TE:=fun σ H Q=>ta σ H fun x H1=>∃ c,x=.bl c∧if c=true then tb σ H1 Q else Q (.bl false) H1
noncomputable def a8m (ta:TE):TE:=fun σ H Q=>ta σ H fun x H1=>∃ c,x=.bl c∧Q (.bl (!c)) H1
theorem a6e {op} {t:TE} (h:PE X a t):PE X (.BoolOp op [a] pos) t:=fun pins s σ H Q I hw=>BoolOp_one (h pins s σ H Q I hw)
theorem a5o (ha:PE X a ta) (hb:PE X (.BoolOp .And (b::rest) pos) tb):PE X (.BoolOp .And (a::b::rest) pos) (a89 ta tb):=by
  intro pins s σ H Q I h
  refine BoolOp_and (thn (ha pins s σ H _ I h) fun v s1 z0=>?_)
  obtain ⟨x,H1,I1,r1,q1⟩:=z0
  obtain ⟨c,rfl,q1⟩:=q1
  cases r1
  refine wpAny_truthy_bool ?_
  cases c with
  | true=>exact hb pins s1 σ H1 Q I1 q1
  | false=>exact ⟨.bl false,H1,I1,rfl,q1⟩
theorem a7f (ha:PE X a ta):PE X (.UnaryOp .Not a pos) (a8m ta):=by
  intro pins s σ H Q I h
  refine UnaryOp_ (thn (ha pins s σ H _ I h) fun v s1 z0=>?_)
  obtain ⟨x,H1,I1,r1,q1⟩:=z0
  obtain ⟨c,rfl,q1⟩:=q1
  cases r1
  exact not_of (wpAny_truthy_bool ⟨.bl (!c),H1,I1,rfl,q1⟩)
noncomputable def tIf (t:TT) (ta tb:TE):TE:=fun σ H Q=>t σ H fun c H1=>if c=true then ta σ H1 Q else tb σ H1 Q
theorem Zz {c:Expr} (hc:PT X c tA) (ha:PE X a ta) (hb:PE X b tb):PE X (.IfExp c a b pos) (tIf tA ta tb):=by
  intro pins s σ H Q I h
  refine wpAny_IfExp (thn (hc pins s σ H _ I h) fun d s1 z0=>?_)
  obtain ⟨H1,I1,q1⟩:=z0
  cases d with
  | true=>exact ha pins s1 σ H1 Q I1 q1
  | false=>exact hb pins s1 σ H1 Q I1 q1
end
end L2
namespace L2
open PySem PySem.Spec PyProof.Rows
noncomputable def SqL (K:PySem.W.Frag) (H:Hp) (a:Addr) (xs:List V):Prop :=
  Rd H a (.lst xs) ∨
    ∃ (o:Obj) (its:Array Value) (n:Nat),K.lookup a=some o∧o.cls=.type "list" ∧ o.dict=none∧o.data=.seq its n∧its.size≤sizeLine∧Vals xs its.toList
noncomputable def SqT (K:PySem.W.Frag) (H:Hp) (a:Addr) (xs:List V):Prop :=
  Rd H a (.tup xs) ∨
    ∃ (o:Obj) (its:Array Value) (n:Nat),K.lookup a=some o∧o.cls=.type "tuple" ∧ o.dict=none∧o.data=.seq its n∧its.size≤sizeLine∧Vals xs its.toList
noncomputable def aa3:Value→Option V
  | .none=>some .non
  | .bool b=>some (.bl b)
  | .int i _=>some (.int i)
  | .str x _=>some (.str x)
  | .bytes b _=>some (.byt b)
  | .float b _=>some (.flt b)
  | .ref a=>some (.ref a)
  | .type n=>some (.ty n)
  | _=>none
theorem RelV.abs {x:V} {u:Value} (r:RelV x u):aa3 u=some x:=by
  cases x with
  | non=>cases r; rfl
  | bl _=>cases r; rfl
  | int _=>obtain ⟨t,rfl⟩:=r; rfl
  | str _=>obtain ⟨t,rfl⟩:=r; rfl
  | byt _=>obtain ⟨t,rfl⟩:=r; rfl
  | flt _=>obtain ⟨t,rfl⟩:=r; rfl
  | ref _=>cases r; rfl
  | ty _=>cases r; rfl
theorem RelV.inj {x y:V} {u:Value} (r:RelV x u) (q:RelV y u):x=y:=Option.some.inj (r.abs.symm.trans q.abs)
theorem Vals.inj:∀ {xs ys:List V} {us:List Value},Vals xs us→Vals ys us→xs=ys
  | _,_,_,.nil,.nil=>rfl
  | _,_,_,.cons r t,.cons r' t'=>by rw [r.inj r',Vals.inj t t']
noncomputable section
variable {X:Cx} {pins:List (Addr × Obj)} {σ:St} {H:Hp} {s:Shared} {a:Addr} {xs ys:List V}
theorem SqL.of {K:PySem.W.Frag} (h:H a=some (.lst xs)):SqL K H a xs:=.inl (.inl h)
theorem SqT.of {K:PySem.W.Frag} (h:H a=some (.tup xs)):SqT K H a xs:=.inl (.inl h)
theorem Inv.list (I:Inv X pins σ H s) (h:SqL X.K H a xs):∃ its:List Value,Vals xs its∧PlainL s.heap a its.toArray∧xs.length≤sizeLine:=by
  rcases h with h | ⟨o,its,n,hk,hc,hd,hs,hz,r⟩
  · obtain ⟨z,its,n,r,e⟩:=h.ok I.hok
    exact ⟨its,r,⟨_,n,e,rfl,rfl,rfl⟩,z⟩
  · refine ⟨its.toList,r,⟨o,n,I.kIn a o hk,hc,hd,by simpa using hs⟩,?_⟩
    have e:=r.length
    simp only [Array.length_toList] at e
    omega
theorem Inv.tuple (I:Inv X pins σ H s) (h:SqT X.K H a xs):∃ its:List Value,Vals xs its∧IsTup s.heap a its.toArray∧xs.length≤sizeLine:=by
  rcases h with h | ⟨o,its,n,hk,hc,hdn,hs,hz,r⟩
  · obtain ⟨z,its,r,p⟩:=h.ok I.hok
    exact ⟨its,r,p.is,z⟩
  · refine ⟨its.toList,r,⟨o,I.kIn a o hk,hc,n,by simpa using hs⟩,?_⟩
    have e:=r.length
    simp only [Array.length_toList] at e
    omega
theorem Inv.a71 (I:Inv X pins σ H s) (h:SqT X.K H a xs):∃ its:List Value,Vals xs its∧Yx s.heap a its.toArray∧xs.length≤sizeLine:=by
  rcases h with h | ⟨o,its,n,hk,hc,hdn,hs,hz,r⟩
  · obtain ⟨z,its,r,p⟩:=h.ok I.hok
    exact ⟨its,r,p,z⟩
  · refine ⟨its.toList,r,⟨o,I.kIn a o hk,hc,hdn,n,by simpa using hs⟩,?_⟩
    have e:=r.length
    simp only [Array.length_toList] at e
    omega
theorem Inv.Uq (I:Inv X pins σ H s) (h:SqL X.K H a xs) (h':SqL X.K H a ys):xs=ys:=by
  obtain ⟨its,r,⟨o,n,e,_,_,d⟩,_⟩:=I.list h
  obtain ⟨its',r',⟨o',n',e',_,_,d'⟩,_⟩:=I.list h'
  rw [e] at e'; cases e'
  rw [d] at d'
  injection d' with d1 _
  have:its=its':=by simpa using congrArg Array.toList d1
  subst this
  exact r.inj r'
theorem Inv.J3 (I:Inv X pins σ H s) (h:SqT X.K H a xs) (h':SqT X.K H a ys):xs=ys:=by
  obtain ⟨its,r,⟨o,e,_,n,d⟩,_⟩:=I.tuple h
  obtain ⟨its',r',⟨o',e',_,n',d'⟩,_⟩:=I.tuple h'
  rw [e] at e'; cases e'
  rw [d] at d'
  injection d' with d1 _
  have:its=its':=by simpa using congrArg Array.toList d1
  subst this
  exact r.inj r'
end
noncomputable abbrev Cx.wish (X:Cx) (E:Value→Shared→Prop):Cx:={ X with xe:=E }
noncomputable abbrev Cx.nox (X:Cx):Cx:=X.wish fun _ _=>False
theorem Cx.Ok.wish {X:Cx} (ok:X.Ok) (E:Value→Shared→Prop):(X.wish E).Ok :=
  ⟨ok.mod,ok.kind,ok.glob,ok.blt,ok.above,ok.inj,ok.has,ok.cab,ok.hd,ok.frames,ok.stk,ok.exf,ok.bs,ok.bsz,ok.noex,ok.exfs,ok.Vz,ok.frf⟩
theorem Cx.Ok.Fy {X:Cx} {E:Value→Shared→Prop} (ok:(X.wish E).Ok):X.Ok :=
  ⟨ok.mod,ok.kind,ok.glob,ok.blt,ok.above,ok.inj,ok.has,ok.cab,ok.hd,ok.frames,ok.stk,ok.exf,ok.bs,ok.bsz,ok.noex,ok.exfs,ok.Vz,ok.frf⟩
noncomputable section
variable {X:Cx} {pins:List (Addr × Obj)} {σ:St} {H:Hp} {s:Shared} {E:Value→Shared→Prop}
theorem Inv.wish (I:Inv X pins σ H s) (E:Value→Shared→Prop):Inv (X.wish E) pins σ H s:=⟨I.ok.wish E,I.os,I.bare,I.base,I.loc,I.cell,I.free,I.freeC,I.pin,I.hok,I.len⟩
theorem Inv.Fy (I:Inv (X.wish E) pins σ H s):Inv X pins σ H s:=⟨I.ok.Fy,I.os,I.bare,I.base,I.loc,I.cell,I.free,I.freeC,I.pin,I.hok,I.len⟩
theorem SP.Fy {D:Ends} {f:Flow} {s':Shared} (h:SP (X.wish E) pins D f s'):SP X pins D f s':=by
  cases f with
  | next=>obtain ⟨σ',H',I,q⟩:=h; exact ⟨σ',H',I.Fy,q⟩
  | brk=>obtain ⟨σ',H',I,q⟩:=h; exact ⟨σ',H',I.Fy,q⟩
  | cont=>obtain ⟨σ',H',I,q⟩:=h; exact ⟨σ',H',I.Fy,q⟩
  | ret u=>obtain ⟨v,σ',H',I,r,q⟩:=h; exact ⟨v,σ',H',I.Fy,r,q⟩
theorem PE.nox {e:Expr} {t:TE} (h:PE X.nox e t):PE X e t:=fun pins s σ H Q I hw =>
  wpAny_mono (h pins s σ H Q (I.wish _) hw) (fun _ _ z7=>by obtain ⟨v,H',I',r,q⟩:=z7; exact ⟨v,H',I'.Fy,r,q⟩) fun _ _ z=>False.elim z
theorem PT.nox {e:Expr} {t:TT} (h:PT X.nox e t):PT X e t:=fun pins s σ H Q I hw =>
  wpAny_mono (h pins s σ H Q (I.wish _) hw) (fun _ _ z7=>by obtain ⟨H',I',q⟩:=z7; exact ⟨H',I'.Fy,q⟩) fun _ _ z=>False.elim z
theorem PSs.nox {st:List Stmt} {t:TS} (h:PSs X.nox st t):PSs X st t:=fun pins s σ H D I hw =>
  wpAny_mono (h pins s σ H D (I.wish _) hw) (fun _ _ q=>q.Fy) fun _ _ z=>False.elim z
end
noncomputable section
variable {X:Cx} {st:Stmt} {rest:List Stmt} {t u:TS} {e:Expr} {te:TE} {pos:Pos}
noncomputable def a8f:TS:=fun D σ H=>D.nx σ H
noncomputable def a9i (t u:TS):TS:=fun D σ H=>t { D with nx:=u D } σ H
theorem a2v:PSs X [] a8f:=fun _ _ σ H _ I h=>wpAny_execs_nil ⟨σ,H,I,h⟩
theorem Z4 (h1:PS X st t) (h2:PSs X rest u):PSs X (st::rest) (a9i t u):=by
  intro pins s σ H D I h
  refine wpAny_execs_cons (thn (h1 pins s σ H { D with nx:=u D } I h) fun f s1 q=>?_)
  cases f with
  | next =>
    obtain ⟨σ',H',I',q⟩:=q
    exact h2 pins s1 σ' H' D I' q
  | ret v=>exact q
  | brk=>exact q
  | cont=>exact q
theorem a2t (h1:PS X st t):PSs X [st] t:=by
  intro pins s σ H D I h
  refine wpAny_execs_cons (thn (h1 pins s σ H D I h) fun f s1 q=>?_)
  cases f with
  | next=>exact wpAny_execs_nil q
  | ret v=>exact q
  | brk=>exact q
  | cont=>exact q
theorem Inv.quiet {pins:List (Addr × Obj)} {σ:St} {H:Hp} {s:Shared} (I:Inv X pins σ H s):interactive X.env=false:=by simp [interactive,I.ok.kind]
noncomputable def a3y (te:TE):TS:=fun D σ H=>te σ H fun _ H1=>D.nx σ H1
theorem vp (he:PE X e te) (hs:swapsWith e none pos.line X.env=pure false:=by rfl):PS X (.Expr e pos) (a3y te):=by
  intro pins s σ H D I h
  exact wpAny_Expr_any (thn (he pins s σ H _ I h) fun v s1 z7=>by obtain ⟨x,H1,I1,r1,q1⟩:=z7; exact ⟨σ,H1,I1,q1⟩) I.quiet hs
noncomputable def a9o (te:TE):TS:=fun D σ H=>te σ H D.rt
theorem a67 (he:PE X e te):PS X (.Return (some e) pos) (a9o te):=by
  intro pins s σ H D I h
  exact wpAny_Return_some (thn (he pins s σ H _ I h) fun v s1 z7=>by obtain ⟨x,H1,I1,r1,q1⟩:=z7; exact ⟨x,σ,H1,I1,r1,q1⟩)
noncomputable def a9z (c:TT) (t u:TS):TS:=fun D σ H=>c σ H fun b H1=>if b=true then t D σ H1 else u D σ H1
theorem a90 {c:Expr} {a b:List Stmt} {tc:TT} (hc:PT X c tc) (ha:PSs X a t) (hb:PSs X b u):PS X (.If c a b pos) (a9z tc t u):=by
  intro pins s σ H D I h
  refine wpAny_If (thn (hc pins s σ H _ I h) fun d s1 z0=>?_)
  obtain ⟨H1,I1,q1⟩:=z0
  cases d with
  | true=>exact ha pins s1 σ H1 D I1 q1
  | false=>exact hb pins s1 σ H1 D I1 q1
end
noncomputable abbrev TG:=V→St→Hp→(St→Hp→Prop)→Prop
noncomputable abbrev TGs:=List V→St→Hp→(St→Hp→Prop)→Prop
noncomputable def PG (X:Cx) (target:Expr) (t:TG):Prop :=
  ∀ (pins:List (Addr × Obj)) (s:Shared) (σ:St) (H:Hp) (v:V) (u:Value) (Q:St→Hp→Prop),Inv X pins σ H s→RelV v u→t v σ H Q →
    wpAny (model X.prog X.w) X.A (assign target X.env u) (fun _ s'=>∃ σ' H',Inv X pins σ' H' s'∧Q σ' H') X.xe s
noncomputable def PGs (X:Cx) (ts:List Expr) (t:TGs):Prop :=
  ∀ (pins:List (Addr × Obj)) (s:Shared) (σ:St) (H:Hp) (vs:List V) (us:List Value) (Q:St→Hp→Prop),Inv X pins σ H s→Vals vs us→t vs σ H Q →
    wpAny (model X.prog X.w) X.A (assignInOrder ((assignEach ts X.env).map (·.2)) us) (fun _ s'=>∃ σ' H',Inv X pins σ' H' s'∧Q σ' H') X.xe s
noncomputable section
variable {X:Cx} {pos:Pos}
noncomputable def Hz (i:Nat):TG:=fun v σ H Q=>Q (σ.set i (some v)) H
theorem jr {i:Nat} {x:Str} (hN:X.N.Nodup) (hi:X.N[i]? = some x) (hx:Loc X.env.scope x) (hf:X.fn x=true∨X.env.scope.names.lookup x=some .local:=by first | exact .inl rfl | exact .inr rfl | assumption):PG X (.Name x pos) (Hz i):=by
  intro pins s σ H v u Q I r h
  exact wpAny_assign_Name (U8 I hN hi hx r (fun s' I'=>⟨_,H,I',h⟩) hf)
noncomputable def a7u:TGs:=fun vs σ H Q=>vs=[]∧Q σ H
noncomputable def Vg (t:TG) (u:TGs):TGs:=fun vs σ H Q=>∃ v r,vs=v::r∧t v σ H fun σ' H'=>u r σ' H' Q
theorem Bf:PGs X [] a7u:=by
  intro pins s σ H vs us Q I r h
  obtain ⟨e,h⟩:=h
  subst e
  cases r
  exact assignInOrder_nil ⟨σ,H,I,h⟩
theorem n6 {e:Expr} {es:List Expr} {t:TG} {u:TGs} (h1:PG X e t) (h2:PGs X es u)
    (hs:(assignEach (e::es) X.env).map (·.2)=assign e X.env::(assignEach es X.env).map (·.2):=by rfl):PGs X (e::es) (Vg t u):=by
  intro pins s σ H vs us Q I r h
  obtain ⟨v,vr,e1,h⟩:=h
  subst e1
  cases r with
  | cons r rr =>
    rw [hs]
    refine assignInOrder_cons (thn (h1 pins s σ H _ _ _ I r h) fun _ s1 z0=>?_)
    obtain ⟨σ1,H1,I1,q1⟩:=z0
    exact h2 pins s1 σ1 H1 _ _ Q I1 rr q1
noncomputable def a7w (K:PySem.W.Frag) (n:Nat) (t:TGs):TG:=fun v σ H Q=>∃ a xs,v=.ref a∧SqT K H a xs∧xs.length=n∧t xs σ H Q
theorem Dh {es:List Expr} {k:Nat} {t:TGs} {n:Nat} (hc:X.calm=true) (h:PGs X es t)
    (hn:(assignEach es X.env).length=n:=by rfl) (hst:(assignEach es X.env).findIdx? (·.1)=none:=by rfl):PG X (.Tuple es k pos) (a7w X.K n t):=by
  intro pins s σ H v u Q I r hw
  obtain ⟨a,xs,e1,hq,hl,hw⟩:=hw
  subst e1
  cases r
  obtain ⟨its,rv,ht,hz⟩:=I.tuple hq
  refine assign_Tuple_tuple (I.ok.hd hc) ht (by simp [hn,← hl,rv.length]) hst fun h' hx=>?_
  have I1:Inv X pins σ H { s with heap:=h' }:=I.kept (t':=s.toks) fun b o e=>hx b o (Nat.ne_of_lt (Heap.lt_size e)) e
  exact h pins _ σ H xs _ Q I1 (by simpa using rv) hw
noncomputable def a2w (te:TE) (g:TG):TS:=fun D σ H=>te σ H fun x H1=>g x σ H1 D.nx
theorem Tr {tg e:Expr} {te:TE} {g:TG} (he:PE X e te) (hg:PG X tg g) (hs:swapsWithSole [tg] e pos.line X.env=pure false:=by rfl) (hw:swappedStores [tg] e X.env=pure none:=by rfl)
    (h1:(assignEach [tg] X.env).map (·.2)=[assign tg X.env]:=by rfl):PS X (.Assign [tg] e pos) (a2w te g):=by
  intro pins s σ H D I h
  refine wpAny_Assign_stores (thn (he pins s σ H _ I h) fun v s1 z0=>?_) hs hw
  obtain ⟨x,H1,I1,r1,q1⟩:=z0
  rw [h1]
  exact thn (hg pins s1 σ H1 x v _ I1 r1 q1) fun _ s2 q=>q
theorem m6 {i:Nat} {x:Str} {e:Expr} {te:TE} {pos':Pos} (hN:X.N.Nodup) (hi:X.N[i]? = some x) (hx:Loc X.env.scope x) (he:PE X e te) (hs:swapsWith e (some (.Name x pos')) pos.line X.env=pure false:=by rfl) (hf:X.fn x=true∨X.env.scope.names.lookup x=some .local:=by first | exact .inl rfl | exact .inr rfl | assumption) :
    PS X (.Assign [.Name x pos'] e pos) (a2w te (Hz i)):=by
  intro pins s σ H D I h
  refine wpAny_Assign_Name (thn (he pins s σ H _ I h) fun v s1 z0=>?_) hs
  obtain ⟨y,H1,I1,r1,q1⟩:=z0
  exact U8 I1 hN hi hx r1 (fun s2 I2=>⟨_,H1,I2,q1⟩) hf
end
noncomputable section
variable {X:Cx} {pos:Pos}
noncomputable def a6a (c:TT) (tb:TS):TS:=fun D σ H=>∃ W:Nat→St→Hp→Prop,(∃ m,W m σ H)∧∀ m σ H,W m σ H →
  c σ H fun b H1=>if b=true then ∃ N:St→Hp→Prop,(∀ σ' H',N σ' H'→∃ m',m'<m∧W m' σ' H')∧tb { D with nx:=N,ct:=N,bk:=D.nx } σ H1 else D.nx σ H1
theorem a0v {c:Expr} {body:List Stmt} {tc:TT} {tb:TS} (hp:PassesOwn (model X.prog X.w) X.A X.env X.xe) (hc:PT X c tc) (hb:PSs X body tb):PS X (.While c body [] pos) (a6a tc tb):=by
  intro pins s σ H D I h
  obtain ⟨W,⟨m0,w0⟩,turn⟩:=h
  refine wpAny_While (codeAny_whileLoop (fun n s'=>∃ σ' H',Inv X pins σ' H' s'∧W n σ' H') ?_ m0 ⟨σ,H,I,w0⟩)
  rintro n s1 ⟨σ1,H1,I1,w1⟩
  refine wpAny_passesOwn hp (thn (hc pins s1 σ1 H1 _ I1 (turn n σ1 H1 w1)) fun b s2 z0=>?_)
  obtain ⟨H2,I2,q2⟩:=z0
  cases b with
  | true =>
    obtain ⟨N,hN,q2⟩:=q2
    rw [if_pos rfl]
    refine wpAny_passesOwn hp (thn (hb pins s2 σ1 H2 _ I2 q2) fun f s3 q3=>?_)
    cases f with
    | next =>
      obtain ⟨σ3,H3,I3,n3⟩:=q3
      obtain ⟨m',hm,w3⟩:=hN σ3 H3 n3
      exact ⟨m',hm,σ3,H3,I3,w3⟩
    | cont =>
      obtain ⟨σ3,H3,I3,n3⟩:=q3
      obtain ⟨m',hm,w3⟩:=hN σ3 H3 n3
      exact ⟨m',hm,σ3,H3,I3,w3⟩
    | brk=>exact q3
    | ret v=>exact q3
  | false =>
    rw [if_neg Bool.false_ne_true]
    exact wpAny_execs_nil ⟨σ1,H2,I2,q2⟩
end
structure It where
  go:Nat→Hp→Prop
  yld:Nat→Hp→V→Hp→Prop
  stop:Nat→Hp→Prop
noncomputable def Ox (X:Cx) (pins:List (Addr × Obj)) (H:Hp) (b:Addr):Prop :=
  H b=none∧b≠X.env.locals∧b∉X.fs∧(b∈X.ex∨X.s₀.heap.objs.size≤b)∧(∀ x c,X.env.cells.lookup x=some c→c≠b)∧∀ p∈X.pn++pins,p.1≠b
theorem Inv.a5e {X:Cx} {pins:List (Addr × Obj)} {σ:St} {H H':Hp} {s:Shared} {b:Addr} (I:Inv X pins σ H s) (hb:s.heap.objs.size≤b) (hn:H' b=none):Ox X pins H' b:=by
  refine ⟨hn,Nat.ne_of_gt (Nat.lt_of_lt_of_le I.lt hb),I.aa0 hb,.inr (Nat.le_trans I.sz hb),fun x c e z=>?_,fun p hp z=>?_⟩
  · obtain ⟨v,q⟩:=I.cell x c e
    exact absurd (Nat.lt_of_lt_of_le q.lt (by rw [z]; exact hb)) (Nat.lt_irrefl _)
  · exact absurd (Nat.lt_of_lt_of_le (Heap.lt_size (I.pin p hp).1) (by rw [z]; exact hb)) (Nat.lt_irrefl _)
structure Turn (P:Program) (w:World) (K:PySem.W.Frag) (tg:Expr) (J:It) (fp:List Addr) (it:Addr) (tn:Nat→Heap→Prop):Prop where
  mem:it∈fp
  obj:∀ i h,tn i h→∀ b∈fp,∃ o,h.get? b=some o∧∀ v,o.data≠.cell v
  keep:∀ i h h',tn i h→(∀ b∈fp,∀ o,h.get? b=some o→h'.get? b=some o)→tn i h'
  item:∀ (X:Cx),X.prog=P→X.w=w→X.K=K→X.calm=true→∀ (i:Nat) (pins:List (Addr × Obj)) (s:Shared) (σ:St) (H:Hp) (E:Value→Shared→Prop),Inv X pins σ H s→(∀ b∈fp,Ox X pins H b)→tn i s.heap→J.go i H →
    wpAny (model P w) X.A (pyNext (.ref it)) (fun r s1=>∃ u,r=some u ∧
      wpAny (model P w) X.A (letOwnedTupleGo tg (.ref it) u) (fun _ s2=>∃ x H',Inv X pins σ H' s2∧RelV x u∧J.yld i H x H'∧tn (i+1) s2.heap∧∀ b∈fp,H' b=none) E s1) E s
  done:∀ (X:Cx),X.prog=P→X.w=w→X.K=K→X.calm=true→∀ (i:Nat) (pins:List (Addr × Obj)) (s:Shared) (σ:St) (H:Hp) (E:Value→Shared→Prop),Inv X pins σ H s→(∀ b∈fp,Ox X pins H b)→tn i s.heap→J.stop i H →
    wpAny (model P w) X.A (pyNext (.ref it)) (fun r s1=>r=none∧Inv X pins σ H s1) E s
  self:∀ (A:Around) (i:Nat) (s:Shared) (Q:Value→Shared→Prop) (E:Value→Shared→Prop),tn i s.heap→Q (.ref it) s→wpAny (model P w) A (pyIter (.ref it)) Q E s
noncomputable abbrev TI:=St→Hp→(It→Hp→Prop)→Prop
noncomputable def PIE (X:Cx) (pins:List (Addr × Obj)) (σ:St) (tg:Expr) (R:It→Hp→Prop) (itv:Value) (s2:Shared):Prop :=
  ∃ (it:Addr) (fp:List Addr) (tn:Nat→Heap→Prop) (J:It) (H':Hp),itv=.ref it∧Inv X pins σ H' s2∧Turn X.prog X.w X.K tg J fp it tn∧tn 0 s2.heap∧(∀ b∈fp,Ox X pins H' b)∧R J H'
noncomputable def PI (X:Cx) (tg iter:Expr) (wi:TI):Prop :=
  ∀ (pins:List (Addr × Obj)) (s:Shared) (σ:St) (H:Hp) (R:It→Hp→Prop),Inv X pins σ H s→wi σ H R →
    wpAny (model X.prog X.w) X.A (eval iter X.env) (fun v s1=>wpAny (model X.prog X.w) X.A (pyIter v) (PIE X pins σ tg R) X.xe s1) X.xe s
theorem a2l {M:Model} {A:Around} {E:Value→Shared→Prop} {s:Shared} {tg:Expr} {it:Addr} {u:Value} {o:Obj} {n:String} {vs:Array Value} {Q:Unit→Shared→Prop} (ho:s.heap.get? it=some o) (hc:o.cls=.type n) (hd:o.data=.fields vs)
    (hn:["enumerate","zip","dict_itemiterator","dict_reverseitemiterator","odict_iterator","itertools.zip_longest","itertools.pairwise"].contains n=false) (hQ:Q () s):wpAny M A (letOwnedTupleGo tg (.ref it) u) Q E s:=by
  unfold letOwnedTupleGo
  cases tg <;> first
    | exact wpAny_pure hQ
    | (cases u <;> first
        | exact wpAny_pure hQ
        | (refine wpAny_bind (wpAny_load ho ?_)
           rw [hc,hd]
           show wpAny M A (if (["enumerate","zip","dict_itemiterator","dict_reverseitemiterator","odict_iterator","itertools.zip_longest","itertools.pairwise"].contains n&&vs[0]? == some (rawInt _))=true then _ else _) Q E s
           rw [if_neg (by intro h; rw [hn,Bool.false_and] at h; cases h)]
           exact wpAny_pure hQ))
noncomputable def Itl (K:PySem.W.Frag) (a:Addr):It :=
  ⟨fun i H=>∃ xs x,SqL K H a xs∧xs[i]? = some x,fun i H x H'=>H'=H∧∀ xs,SqL K H a xs→xs[i]? = some x,fun i H=>∃ xs,SqL K H a xs∧xs.length≤i⟩
noncomputable def Itt (K:PySem.W.Frag) (a:Addr):It :=
  ⟨fun i H=>∃ xs x,SqT K H a xs∧xs[i]? = some x,fun i H x H'=>H'=H∧∀ xs,SqT K H a xs→xs[i]? = some x,fun i H=>∃ xs,SqT K H a xs∧xs.length≤i⟩
noncomputable def Itr (lo:Int) (n:Nat):It:=⟨fun i _=>i<n,fun i H x H'=>H'=H∧x=.int (lo+i),fun i _=>n≤i⟩
theorem Xk {P:Program} {w:World} {K:PySem.W.Frag} {tg:Expr} (a it:Addr):Turn P w K tg (Itl K a) [it] it (fun i h=>h.IsListIter it a i) where
  mem:=by simp
  obj:=fun i h st b hb=>by
    have e:b=it:=by simpa using hb
    subst e
    obtain ⟨o,e,c,d⟩:=st
    exact ⟨o,e,fun v z=>by rw [d] at z; cases z⟩
  keep:=fun i h h' st k=>st.at fun o e=>k it (by simp) o e
  item:=by
    intro X hP hw hK hc i pins s σ H E I hf st hg
    subst hP hw hK
    obtain ⟨xs,x,hq,hx⟩:=hg
    obtain ⟨its,rv,p,hz⟩:=I.list hq
    obtain ⟨u,hu,ru⟩:=rv.get hx
    obtain ⟨f0,f1,f2,f3,f4,f5⟩:=hf it (by simp)
    refine wpAny_pyNext_list_item st p.isList (x:=u) (by simpa using hu) fun h' st' sb=>?_
    have I1:Inv X pins σ H { s with heap:=h' }:=I.turned (t':=s.toks) (fun b o hb e=>(sb.2 b hb).trans e) f0 f1 f3 f4 f5
    obtain ⟨o,e,c,d⟩:=id st'
    exact ⟨u,rfl,a2l (s:={ s with heap:=h' }) e c d (by decide) ⟨x,H,I1,ru,⟨rfl,fun ys hy=>by rw [I.Uq hy hq]; exact hx⟩,st',fun b hb=>(hf b hb).1⟩⟩
  done:=by
    intro X hP hw hK hc i pins s σ H E I hf st hg
    subst hP hw hK
    obtain ⟨xs,hq,hx⟩:=hg
    obtain ⟨its,rv,p,hz⟩:=I.list hq
    obtain ⟨f0,f1,f2,f3,f4,f5⟩:=hf it (by simp)
    have hl:=rv.length
    exact wpAny_pyNext_list_end (I.ok.hd hc) st p.isList (by simp; omega) fun h' eb=>⟨rfl,I.turned (t':=s.toks) (fun b o hb e=>eb b o hb e) f0 f1 f3 f4 f5⟩
  self:=fun _ _ _ _ _ st h=>wpAny_pyIter_listiter st h
theorem Vq {P:Program} {w:World} {K:PySem.W.Frag} {tg:Expr} (a it:Addr):Turn P w K tg (Itt K a) [it] it (fun i h=>h.IsTupleIter it a i) where
  mem:=by simp
  obj:=fun i h st b hb=>by
    have e:b=it:=by simpa using hb
    subst e
    obtain ⟨o,e,c,d⟩:=st
    exact ⟨o,e,fun v z=>by rw [d] at z; cases z⟩
  keep:=fun i h h' st k=>st.at fun o e=>k it (by simp) o e
  item:=by
    intro X hP hw hK hc i pins s σ H E I hf st hg
    subst hP hw hK
    obtain ⟨xs,x,hq,hx⟩:=hg
    obtain ⟨its,rv,p,hz⟩:=I.tuple hq
    obtain ⟨u,hu,ru⟩:=rv.get hx
    obtain ⟨f0,f1,f2,f3,f4,f5⟩:=hf it (by simp)
    refine wpAny_pyNext_tuple_item st (show s.heap.IsTuple a its.toArray from p) (x:=u) (by simpa using hu) fun h' st' sb=>?_
    have I1:Inv X pins σ H { s with heap:=h' }:=I.turned (t':=s.toks) (fun b o hb e=>(sb.2 b hb).trans e) f0 f1 f3 f4 f5
    obtain ⟨o,e,c,d⟩:=id st'
    exact ⟨u,rfl,a2l (s:={ s with heap:=h' }) e c d (by decide) ⟨x,H,I1,ru,⟨rfl,fun ys hy=>by rw [I.J3 hy hq]; exact hx⟩,st',fun b hb=>(hf b hb).1⟩⟩
  done:=by
    intro X hP hw hK hc i pins s σ H E I hf st hg
    subst hP hw hK
    obtain ⟨xs,hq,hx⟩:=hg
    obtain ⟨its,rv,p,hz⟩:=I.tuple hq
    obtain ⟨f0,f1,f2,f3,f4,f5⟩:=hf it (by simp)
    have hl:=rv.length
    exact wpAny_pyNext_tuple_end (I.ok.hd hc) st (show s.heap.IsTuple a its.toArray from p) (by simp; omega) fun h' eb=>⟨rfl,I.turned (t':=s.toks) (fun b o hb e=>eb b o hb e) f0 f1 f3 f4 f5⟩
  self:=fun _ _ _ _ _ st h=>wpAny_pyIter_tupleiter st h
theorem Ve {P:Program} {w:World} {K:PySem.W.Frag} {tg:Expr} (it:Addr) (lo:Int) (n:Nat):Turn P w K tg (Itr lo n) [it] it (fun i h=>IsRangeIter h it (lo+(i:Nat) * 1) ((n:Int) - (i:Nat)) 1) where
  mem:=by simp
  obj:=fun i h st b hb=>by
    have e:b=it:=by simpa using hb
    subst e
    exact ⟨_,st,fun v z=>by
      have z':Data.fields _=Data.cell v:=z
      cases z'⟩
  keep:=fun i h h' st k=>k it (by simp) _ st
  item:=by
    intro X hP hw hK hc i pins s σ H E I hf st hg
    subst hP hw hK
    obtain ⟨f0,f1,f2,f3,f4,f5⟩:=hf it (by simp)
    have W:=Walks.range (prog:=X.prog) (w:=X.w) (I.ok.hd hc) it lo 1 n
    refine W.item i s _ _ hg st fun v h' tk hv st' kk=>?_
    obtain ⟨t,rfl⟩:=hv
    have I1:Inv X pins σ H { s with heap:=h',toks:=tk }:=I.turned (fun b o hb e=>kk b o (by simpa using hb) e) f0 f1 f3 f4 f5
    refine ⟨_,rfl,a2l (s:={ s with heap:=h',toks:=tk }) (n := "range_iterator") st' rfl rfl (by decide) ⟨.int (lo+i),H,I1,⟨t,?_⟩,⟨rfl,rfl⟩,st',fun b hb=>(hf b hb).1⟩⟩
    rw [Int.mul_one]
  done:=by
    intro X hP hw hK hc i pins s σ H E I hf st hg
    subst hP hw hK
    obtain ⟨f0,f1,f2,f3,f4,f5⟩:=hf it (by simp)
    exact wpAny_pyNext_range_end (I.ok.hd hc) st (by have:n≤i:=hg; omega) fun h' eb=>⟨rfl,I.turned (t':=s.toks) (fun b o hb e=>eb b o hb e) f0 f1 f3 f4 f5⟩
  self:=fun _ _ _ _ _ st h=>wpAny_pyIter_rangeiter st h
end L2
namespace L2
open PySem PySem.Spec PyProof.Rows
noncomputable section
variable {X:Cx} {tg:Expr}
theorem Z5 {pins:List (Addr × Obj)} {σ:St} {H:Hp} {s:Shared} {R:It→Hp→Prop} {E:Value→Shared→Prop} {lo hi:Int} {t u v:Tok} {tk:Nat} (I:Inv X pins σ H s) (h1:-(2 ^ 62)≤lo) (h2:lo<2 ^ 62) (h3:-(2 ^ 62)≤hi) (h4:hi<2 ^ 62)
    (q:R (Itr lo (hi - lo).toNat) H):wpAny (model X.prog X.w) X.A (pyIter (.ref s.heap.objs.size)) (PIE X pins σ tg R) E { s with heap:=s.heap.push { cls:=.type "range",data:=.fields #[.int lo t,.int hi u,.int 1 v] },toks:=tk }:=by
  refine wpAny_pyIter_range (IsRange.new ..) (small_one h1 h2 h3 h4) ?_
  have I1:Inv X pins σ H { s with heap:=s.heap.push { cls:=.type "range",data:=.fields #[.int lo t,.int hi u,.int 1 v] },toks:=tk }:=I.kept fun b o e=>Heap.get?_push_of_some _ e
  refine ⟨(s.heap.push { cls:=.type "range",data:=.fields #[.int lo t,.int hi u,.int 1 v] }).objs.size,[(s.heap.push { cls:=.type "range",data:=.fields #[.int lo t,.int hi u,.int 1 v] }).objs.size],_,_,H,rfl,
    I1.kept (t':=tk) fun b o e=>Heap.get?_push_of_some _ e,Ve _ lo (hi - lo).toNat,?_,fun b hb=>?_,q⟩
  · have e1:lo+((0:Nat):Int) * 1=lo:=by simp
    have e2:(((hi - lo).toNat:Nat):Int) - ((0:Nat):Int)=Builtin.Range.rangeSize lo hi 1:=by rw [rangeSize_one]; split <;> omega
    show IsRangeIter _ _ (lo+((0:Nat):Int) * 1) ((((hi - lo).toNat:Nat):Int) - ((0:Nat):Int)) 1
    rw [e1,e2]
    exact Heap.get?_push_size _ rfl
  · have e:b=(s.heap.push { cls:=.type "range",data:=.fields #[.int lo t,.int hi u,.int 1 v] }).objs.size:=by simpa using hb
    subst e
    exact I1.a5e (Nat.le_refl _) (I1.hok.fresh (Nat.le_refl _))
noncomputable def a85 (ta:TA):TI:=fun σ H R=>ta σ H fun vs H1=>∃ j:Int,vs=[.int j]∧-(2 ^ 62)≤j∧j<2 ^ 62∧R (Itr 0 j.toNat) H1
theorem Ys {a:Expr} {ta:TA} {p pos:Pos} (hg:Gl X "range") (hm:X.mg "range" = none) (ha:PA X [a] ta) (hs:starEach [a] X.env=[(false,eval a X.env)]:=by rfl):PI X tg (.Call (.Name "range" p) [a] [] pos) (a85 ta):=by
  intro pins s σ H R I h
  refine Call_ (Lp I hg hm boot_range (PyProof.Rows.callWith_type1 (thn (ha pos pins s σ H _ I h) fun us s1 z0=>?_) hs rfl))
  obtain ⟨vs,H1,I1,r1,q1⟩:=z0
  obtain ⟨j,e,q1,q2,q⟩:=q1
  subst e
  cases r1 with
  | cons r rr =>
    cases rr
    obtain ⟨t,rfl⟩:=r
    exact call_range_1 (Z5 I1 (by omega) (by omega) q1 q2 (by simpa using q))
noncomputable def a9x (wi:TI) (g:TG) (tb:TS):TS:=fun D σ H=>wi σ H fun J H1=>∃ W:Nat→Nat→St→Hp→Prop,(∃ m,W 0 m σ H1)∧∀ i m σ H,W i m σ H →
  (J.stop i H∧D.nx σ H)∨(J.go i H∧∃ N:St→Hp→Prop,(∀ σ' H',N σ' H'→∃ m',m'<m∧W (i+1) m' σ' H')∧∀ x H',J.yld i H x H'→g x σ H' fun σ2 H2=>tb { D with nx:=N,ct:=N,bk:=D.nx } σ2 H2)
noncomputable def Om (fp:List Addr) (h:Heap):List (Addr × Obj):=fp.filterMap fun b=>(h.get? b).map fun o=>(b,o)
theorem Dr {fp:List Addr} {h:Heap} {b:Addr} {o:Obj} (hb:b∈fp) (e:h.get? b=some o):(b,o)∈Om fp h:=List.mem_filterMap.mpr ⟨b,hb,by rw [e]; rfl⟩
theorem Xe {fp:List Addr} {h:Heap} {p:Addr × Obj} (hp:p∈Om fp h):p.1∈fp∧h.get? p.1=some p.2:=by
  obtain ⟨b,hb,e⟩:=List.mem_filterMap.mp hp
  cases q:h.get? b with
  | none=>rw [q] at e; cases e
  | some o =>
    rw [q] at e
    have e':(b,o)=p:=Option.some.inj e
    subst e'
    exact ⟨hb,q⟩
theorem Inv.pinned {pins:List (Addr × Obj)} {σ:St} {H:Hp} {s:Shared} {fp:List Addr} (I:Inv X pins σ H s) (hf:∀ b∈fp,Ox X pins H b) (ho:∀ b∈fp,∃ o,s.heap.get? b=some o∧∀ v,o.data≠.cell v):Inv X (pins++Om fp s.heap) σ H s :=
  I.X8 fun p hp=>(List.mem_append.mp hp).elim (fun z=>I.pin p (List.mem_append_right _ z)) fun z=>by
    obtain ⟨hb,e⟩:=Xe z
    obtain ⟨f0,f1,f2,_⟩:=hf p.1 hb
    obtain ⟨o,e',d⟩:=ho p.1 hb
    rw [e] at e'; cases e'
    exact ⟨e,f0,f1,f2,d⟩
theorem Inv.Gn {pins pl:List (Addr × Obj)} {σ:St} {H:Hp} {s:Shared} (I:Inv X (pins++pl) σ H s):Inv X pins σ H s:=I.X8 fun p hp=>I.pin p (List.mem_append_right _ (List.mem_append_left _ hp))
theorem a6r {iter:Expr} {body:List Stmt} {wi:TI} {g:TG} {tb:TS} {pos:Pos} (hp:PassesOwn (model X.prog X.w) X.A X.env X.xe) (hc:X.calm=true) (hi:PI X tg iter wi) (hg:PG X tg g) (hb:PSs X body tb)
    (hs:∀ x,foldedSetIterable iter X.env x=pure x:=by intro _; rfl):PS X (.For tg iter body [] pos) (a9x wi g tb):=by
  intro pins s σ H D I h
  refine wpAny_For (thn (hi pins s σ H _ I h) fun v s1 h1=>thn h1 fun itv s2 h2=>?_) hs
  obtain ⟨it,fp,tn,J,H2,e,I2,T,st2,f2,W,⟨m0,w0⟩,turn⟩:=h2
  subst e
  have stat:∀ {H':Hp},(∀ b∈fp,H' b=none)→∀ b∈fp,Ox X pins H' b:=fun hn b hb=>⟨hn b hb,(f2 b hb).2⟩
  refine codeAny_forLoop_any (fun n s'=>∃ i σ' H',Inv X pins σ' H' s'∧tn i s'.heap∧(∀ b∈fp,H' b=none)∧W i n σ' H') ?_ m0 ⟨0,σ,H2,I2,st2,fun b hb=>(f2 b hb).1,w0⟩
  rintro n s3 ⟨i,σ3,H3,I3,st3,fr3,w3⟩
  rcases turn i n σ3 H3 w3 with ⟨stop,qn⟩ | ⟨go,N,hN,step⟩
  · refine wpAny_passesOwn hp (thn (T.done X rfl rfl rfl hc i pins s3 σ3 H3 X.xe I3 (stat fr3) st3 stop) fun r s4 z0=>?_)
    obtain ⟨hr,I4⟩:=z0
    subst hr
    exact wpAny_execs_nil ⟨σ3,H3,I4,qn⟩
  · refine wpAny_passesOwn hp (thn (T.item X rfl rfl rfl hc i pins s3 σ3 H3 X.xe I3 (stat fr3) st3 go) fun r s4 z0=>?_)
    obtain ⟨u,hr,h4⟩:=z0
    subst hr
    refine wpAny_passesOwn hp (thn h4 fun _ s5 z0=>?_)
    obtain ⟨x,H5,I5,r5,y5,st5,fr5⟩:=z0
    have I5':=I5.pinned (stat fr5) (T.obj _ _ st5)
    refine wpAny_passesOwn hp (thn (hg _ s5 σ3 H5 x u _ I5' r5 (step x H5 y5)) fun _ s6 z0=>?_)
    obtain ⟨σ6,H6,I6,q6⟩:=z0
    refine wpAny_passesOwn hp (thn (hb _ s6 σ6 H6 _ I6 q6) fun f s7 q7=>?_)
    have again:∀ {σ7:St} {H7:Hp},Inv X (pins++Om fp s5.heap) σ7 H7 s7→N σ7 H7→∃ m,m<n∧∃ i σ' H',Inv X pins σ' H' s7∧tn i s7.heap∧(∀ b∈fp,H' b=none)∧W i m σ' H':=fun {σ7 H7} I7 n7=>by
      obtain ⟨m',hm,w7⟩:=hN σ7 H7 n7
      refine ⟨m',hm,i+1,σ7,H7,I7.Gn,T.keep _ _ _ st5 fun b hb o e=>(I7.pin (b,o) (List.mem_append_right _ (List.mem_append_right _ (Dr hb e)))).1,fun b hb=>?_,w7⟩
      obtain ⟨o,e,d⟩:=T.obj _ _ st5 b hb
      exact (I7.pin (b,o) (List.mem_append_right _ (List.mem_append_right _ (Dr hb e)))).2.1
    cases f with
    | next=>obtain ⟨σ7,H7,I7,n7⟩:=q7; exact again I7 n7
    | cont=>obtain ⟨σ7,H7,I7,n7⟩:=q7; exact again I7 n7
    | brk=>obtain ⟨σ7,H7,I7,q7⟩:=q7; exact ⟨σ7,H7,I7.Gn,q7⟩
    | ret v=>obtain ⟨x7,σ7,H7,I7,r7,q7⟩:=q7; exact ⟨x7,σ7,H7,I7.Gn,r7,q7⟩
end
end L2
namespace L2
open PySem PySem.Spec PyProof.Rows
noncomputable abbrev R2:=V→V→Hp→VK→Prop
noncomputable def OpR (X:Cx) (f:Value→Value→Sem Value) (r:R2):Prop :=
  ∀ (pins:List (Addr × Obj)) (s:Shared) (σ:St) (H:Hp) (x y:V) (v u:Value) (Q:VK),Inv X pins σ H s→RelV x v→RelV y u→r x y H Q →
    wpAny (model X.prog X.w) X.A (f v u) (EP X pins σ Q) X.xe s
noncomputable def UnR (X:Cx) (f:Value→Sem Value) (r:V→Hp→VK→Prop):Prop :=
  ∀ (pins:List (Addr × Obj)) (s:Shared) (σ:St) (H:Hp) (x:V) (v:Value) (Q:VK),Inv X pins σ H s→RelV x v→r x H Q →
    wpAny (model X.prog X.w) X.A (f v) (EP X pins σ Q) X.xe s
noncomputable def Em (X:Cx) (f:Value) (r:List V→Hp→VK→Prop):Prop :=
  ∀ (pins:List (Addr × Obj)) (s:Shared) (σ:St) (H:Hp) (xs:List V) (us:List Value) (Q:VK),Inv X pins σ H s→Vals xs us→r xs H Q →
    wpAny (model X.prog X.w) X.A (call f us) (EP X pins σ Q) X.xe s
noncomputable def tOp (r:R2) (ta tb:TE):TE:=fun σ H Q=>ta σ H fun x H1=>tb σ H1 fun y H2=>r x y H2 Q
noncomputable def tUn (r:V→Hp→VK→Prop) (ta:TE):TE:=fun σ H Q=>ta σ H fun x H1=>r x H1 Q
noncomputable def rI (C:Int→Int→Prop) (g:Int→Int→V):R2:=fun x y H Q=>∃ i j,x=.int i∧y=.int j∧C i j∧Q (g i j) H
noncomputable def rI0 (g:Int→Int→V):R2:=fun x y H Q=>∃ i j,x=.int i∧y=.int j∧Q (g i j) H
noncomputable def rU (g:Int→V):V→Hp→VK→Prop:=fun x H Q=>∃ i,x=.int i∧Q (g i) H
noncomputable section
variable {X:Cx} {a b c:Expr} {ta tb tc:TE} {pos:Pos}
theorem a8z (ha:PE X a ta) (hb:PE X b tb) {pins:List (Addr × Obj)} {s:Shared} {σ:St} {H:Hp} {R:V→V→Hp→Prop} (I:Inv X pins σ H s)
    (h:ta σ H fun x H1=>tb σ H1 fun y H2=>R x y H2) {Q:Value→Shared→Prop} {f:Value→Value→Sem Value}
    (hf:∀ v u s2 x y H2,Inv X pins σ H2 s2→RelV x v→RelV y u→R x y H2→wpAny (model X.prog X.w) X.A (f v u) Q X.xe s2) :
    wpAny (model X.prog X.w) X.A (eval a X.env) (fun v s₁=>wpAny (model X.prog X.w) X.A (eval b X.env) (fun u s₂=>wpAny (model X.prog X.w) X.A (f v u) Q X.xe s₂) X.xe s₁) X.xe s:=by
  refine thn (ha pins s σ H _ I h) fun v s1 z0=>?_
  obtain ⟨x,H1,I1,r1,q1⟩:=z0
  refine thn (hb pins s1 σ H1 _ I1 q1) fun u s2 z0=>?_
  obtain ⟨y,H2,I2,r2,q2⟩:=z0
  exact hf v u s2 x y H2 I2 r1 r2 q2
theorem a7z {op:Operator} {r:R2} (ho:OpR X (binaryOp op) r) (ha:PE X a ta) (hb:PE X b tb):PE X (.BinOp a op b pos) (tOp r ta tb):=by
  intro pins s σ H Q I h
  exact wpAny_BinOp (a8z ha hb I h fun v u s2 x y H2 I2 rx ry q=>ho pins s2 σ H2 x y v u Q I2 rx ry q)
theorem a7a {op:UnaryOp} {r:V→Hp→VK→Prop} (ho:UnR X (unaryOp op) r) (ha:PE X a ta):PE X (.UnaryOp op a pos) (tUn r ta):=by
  intro pins s σ H Q I h
  exact UnaryOp_ (thn (ha pins s σ H _ I h) fun v s1 z7=>by obtain ⟨x,H1,I1,r1,q1⟩:=z7; exact ho pins s1 σ H1 x v Q I1 r1 q1)
theorem opI {f:Value→Value→Sem Value} {C:Int→Int→Prop} {g:Int→Int→Int}
    (rule:∀ (i j:Int) (t u:Tok) (s:Shared) (Q:Value→Shared→Prop) (E:Value→Shared→Prop),C i j→Q (.int (g i j) s.toks) { s with toks:=s.toks+1 }→wpAny (model X.prog X.w) X.A (f (.int i t) (.int j u)) Q E s) :
    OpR X f (rI C fun i j=>.int (g i j)):=by
  intro pins s σ H x y v u Q I rx ry h
  obtain ⟨i,j,rfl,rfl,hc,q⟩:=h
  obtain ⟨t,rfl⟩:=rx
  obtain ⟨t',rfl⟩:=ry
  exact rule i j t t' s _ _ hc ⟨.int (g i j),H,I.tok _,⟨_,rfl⟩,q⟩
theorem a97 {f:Value→Value→Sem Value} {g:Int→Int→Int}
    (rule:∀ (i j:Int) (t u:Tok) (s:Shared) (Q:Value→Shared→Prop) (E:Value→Shared→Prop),Q (.int (g i j) s.toks) { s with toks:=s.toks+1 }→wpAny (model X.prog X.w) X.A (f (.int i t) (.int j u)) Q E s) :
    OpR X f (rI0 fun i j=>.int (g i j)):=by
  intro pins s σ H x y v u Q I rx ry h
  obtain ⟨i,j,rfl,rfl,q⟩:=h
  obtain ⟨t,rfl⟩:=rx
  obtain ⟨t',rfl⟩:=ry
  exact rule i j t t' s _ _ ⟨.int (g i j),H,I.tok _,⟨_,rfl⟩,q⟩
theorem a7y {f:Value→Value→Sem Value} {g:Int→Int→Bool}
    (rule:∀ (i j:Int) (t u:Tok) (s:Shared) (Q:Value→Shared→Prop) (E:Value→Shared→Prop),Q (.bool (g i j)) s→wpAny (model X.prog X.w) X.A (f (.int i t) (.int j u)) Q E s) :
    OpR X f (rI0 fun i j=>.bl (g i j)):=by
  intro pins s σ H x y v u Q I rx ry h
  obtain ⟨i,j,rfl,rfl,q⟩:=h
  obtain ⟨t,rfl⟩:=rx
  obtain ⟨t',rfl⟩:=ry
  exact rule i j t t' s _ _ ⟨.bl (g i j),H,I,rfl,q⟩
noncomputable def a9l (i j:Int):Prop:=0≤j∧j≤1000000∧i.natAbs<2 ^ 64
noncomputable def a8t (i j:Int):Prop:=(-(2 ^ 64)<i∧i<2 ^ 64)∨(-(2 ^ 64)<j∧j<2 ^ 64)
theorem a8t.ok {i j:Int} (h:a8t i j):IntMulOk i j:=by
  rcases h with ⟨h1,h2⟩ | ⟨h1,h2⟩
  · exact .of_left (intBits_le_64 h1 h2)
  · exact .of_right (intBits_le_64 h1 h2)
theorem a6p:OpR X (binaryOp .Add) (rI0 fun i j=>.int (i+j)):=a97 fun _ _ _ _ _ _ _ q=>add_int q
theorem a5s:OpR X (binaryOp .Sub) (rI0 fun i j=>.int (i - j)):=a97 fun _ _ _ _ _ _ _ q=>sub_int q
theorem a5q:OpR X (binaryOp .Mult) (rI a8t fun i j=>.int (i * j)):=opI fun _ _ _ _ _ _ _ hc q=>mul_int q hc.ok
theorem a5x:OpR X (binaryOp .Mod) (rI (fun _ j=>0<j) fun i j=>.int (i%j)):=opI fun i j _ _ _ _ _ hc q=>by
  have h1:(0:Int)<j:=hc
  exact mod_int' (by omega) (by rw [Int.fmod_eq_emod_of_nonneg i (by omega)]; exact q)
theorem a7b:OpR X (binaryOp .Pow) (rI a9l fun i j=>.int (i ^ j.toNat)):=opI fun _ _ _ _ _ _ _ hc q=>pow_int_small hc.1 hc.2.1 hc.2.2 q
theorem unI {f:Value→Sem Value} {g:Int→Int}
    (rule:∀ (i:Int) (t:Tok) (s:Shared) (Q:Value→Shared→Prop) (E:Value→Shared→Prop),Q (.int (g i) s.toks) { s with toks:=s.toks+1 }→wpAny (model X.prog X.w) X.A (f (.int i t)) Q E s) :
    UnR X f (rU fun i=>.int (g i)):=by
  intro pins s σ H x v Q I rx h
  obtain ⟨i,rfl,q⟩:=h
  obtain ⟨t,rfl⟩:=rx
  exact rule i t s _ _ ⟨.int (g i),H,I.tok _,⟨_,rfl⟩,q⟩
theorem a1o:UnR X (unaryOp .USub) (rU fun i=>.int (-i)):=unI fun _ _ _ _ _ q=>neg_int q
end
noncomputable def Xx:V→V→Bool
  | .non,.non=>true | .non,.int _=>true | .int _,.non=>true | .non,.bl _=>true | .bl _,.non=>true | .non,.str _=>true | .str _,.non=>true
  | .int _,.int _=>true | .bl _,.bl _=>true | .str _,.str _=>true | .byt _,.byt _=>true
  | .int _,.str _=>true | .str _,.int _=>true | .bl _,.str _=>true | .str _,.bl _=>true
  | _,_=>false
noncomputable section
variable {X:Cx} {a b c:Expr} {ta tb tc:TE} {pos:Pos}
theorem a1k {pins:List (Addr × Obj)} {σ:St} {H:Hp} {s:Shared} {Q:VK} {k k':Bool} (I:Inv X pins σ H s) (q:Q (.bl k) H) (e:k=k'):EP X pins σ Q (.bool k') s:=by
  subst e
  exact ⟨.bl k,H,I,rfl,q⟩
theorem a8x:OpR X (compareOp .Lt) (rI0 fun i j=>.bl (decide (i<j))):=a7y fun _ _ _ _ _ _ _ q=>lt_int q
theorem a80:OpR X (compareOp .LtE) (rI0 fun i j=>.bl (decide (i≤j))):=a7y fun _ _ _ _ _ _ _ q=>le_int q
theorem a8g:OpR X (compareOp .Gt) (rI0 fun i j=>.bl (decide (j<i))):=a7y fun _ _ _ _ _ _ _ q=>gt_int q
theorem a8k:OpR X (compareOp .GtE) (rI0 fun i j=>.bl (decide (j≤i))):=a7y fun _ _ _ _ _ _ _ q=>ge_int q
theorem a5n:OpR X (compareOp .Is) (fun x y H Q=>y=.non∧Q (.bl (decide (x=.non))) H):=by
  intro pins s σ H x y v u Q I rx ry h
  obtain ⟨rfl,q⟩:=h
  cases ry
  refine is_none_gen (a1k I q ?_)
  cases x <;> first
    | (cases rx; rfl)
    | (obtain ⟨t,rfl⟩:=rx; rfl)
theorem a3e:OpR X (compareOp .IsNot) (fun x y H Q=>y=.non∧Q (.bl (!decide (x=.non))) H):=by
  intro pins s σ H x y v u Q I rx ry h
  obtain ⟨rfl,q⟩:=h
  cases ry
  refine isnot_none_gen (a1k I q ?_)
  cases x <;> first
    | (cases rx; rfl)
    | (obtain ⟨t,rfl⟩:=rx; rfl)
theorem OpR.or {f:Value→Value→Sem Value} {r r':R2} (h:OpR X f r) (h':OpR X f r'):OpR X f (fun x y H Q=>r x y H Q∨r' x y H Q):=by
  intro pins s σ H x y v u Q I rx ry q
  rcases q with q | q
  · exact h pins s σ H x y v u Q I rx ry q
  · exact h' pins s σ H x y v u Q I rx ry q
theorem mq (b:Expr) {op:CmpOp} (h:op≠.In:=by decide) (h2:op≠.NotIn:=by decide):behindInMarks op b=false:=by
  have e1:(op==CmpOp.In)=false:=by cases op <;> first | rfl | exact absurd rfl h
  have e2:(op==CmpOp.NotIn)=false:=by cases op <;> first | rfl | exact absurd rfl h2
  cases b <;> simp [behindInMarks,e1,e2]
theorem a4j {op:CmpOp} {r:R2} (ho:OpR X (compareOp op) r) (ha:PE X a ta) (hb:PE X b tb) (hm:behindInMarks op b=false):PE X (.Compare a [op] [b] pos) (tOp r ta tb):=by
  intro pins s σ H Q I h
  exact wpAny_Compare1 (a8z ha hb I h fun v u s2 x y H2 I2 rx ry q=>ho pins s2 σ H2 x y v u Q I2 rx ry q) hm
noncomputable def a6m (t:TE):TT:=fun σ H Q=>t σ H fun x H'=>∃ k,x=.bl k∧Q k H'
theorem a3d {op:CmpOp} {r:R2} (ho:OpR X (compareOp op) r) (ha:PE X a ta) (hb:PE X b tb) (hm:behindInMarks op b=false):PT X (.Compare a [op] [b] pos) (a6m (tOp r ta tb)):=by
  intro pins s σ H Q I h
  refine wpAny_isTrue_Compare1 (thn (ha pins s σ H _ I h) fun v s1 ⟨x,H1,I1,r1,q1⟩=>thn (hb pins s1 σ H1 _ I1 q1) fun u s2 ⟨y,H2,I2,r2,q2⟩ =>
    thn (ho pins s2 σ H2 x y v u _ I2 r1 r2 q2) fun c s3 ⟨z,H3,I3,r3,k,e,q3⟩=>?_) hm
  subst e
  cases r3
  exact wpAny_truthy_bool ⟨H3,I3,q3⟩
theorem Nz:(sizeLine:Nat)<2 ^ 63:=by rw [sizeLine_eq]; decide
theorem V4:OpR X (binaryOp .Add) (fun x y H Q=>∃ i j,x=.str i∧y=.str j∧i.length+j.length≤sizeLine∧Q (.str (i++j)) H):=by
  intro pins s σ H x y v u Q I rx ry h
  obtain ⟨i,j,rfl,rfl,hz,q⟩:=h
  obtain ⟨t,rfl⟩:=rx
  obtain ⟨t',rfl⟩:=ry
  exact add_str (fun t' tk=>⟨.str (i++j),H,I.tok _,⟨_,rfl⟩,q⟩) hz
theorem vals1 {x:V} {us:List Value} (r:Vals [x] us):∃ u,us=[u]∧RelV x u:=by
  cases r with
  | cons r1 r2=>cases r2; exact ⟨_,rfl,r1⟩
theorem Zr:Em X (.builtin "abs") (fun xs H Q=>∃ i,xs=[.int i]∧Q (.int (if i<0 then -i else i)) H):=by
  intro pins s σ H xs us Q I r h
  obtain ⟨i,rfl,q⟩:=h
  obtain ⟨u,rfl,t,rfl⟩:=vals1 r
  exact call_abs_int fun u tk=>⟨.int (if i<0 then -i else i),H,I.tok _,⟨_,rfl⟩,q⟩
theorem Oa:Em X (.type "int") (fun xs H Q=>(∃ i,xs=[.int i]∧Q (.int i) H)∨∃ k,xs=[.bl k]∧Q (.int (if k then 1 else 0)) H):=by
  intro pins s σ H xs us Q I r h
  rcases h with ⟨i,rfl,q⟩ | ⟨k,rfl,q⟩
  · obtain ⟨u,rfl,t,rfl⟩:=vals1 r
    exact call_int_int ⟨.int i,H,I,⟨_,rfl⟩,q⟩
  · obtain ⟨u,rfl,r1⟩:=vals1 r
    cases r1
    exact call_int_bool ⟨.int (if k then 1 else 0),H,I.tok _,⟨_,rfl⟩,q⟩
end
end L2
namespace L2
open PySem PySem.Spec PyProof.Rows
structure a91 (h:Heap) (x dx C:Addr) (mA:Str→Option Value):Prop where
  obj:h.get? x=some (PySem.W.instObj C dx)
  ns:h.Ns1 dx mA
  ne:dx≠x
theorem Y8 {h:Heap} {dx:Addr} {mA:Str→Option Value} (n:h.Ns1 dx mA):∃ od,h.get? dx=some od∧∀ name,PySem.W.lookIn name od=some (mA name):=by
  obtain ⟨o,es,ep,ho,hd,hk,_,hm⟩:=n
  refine ⟨o,ho,fun name=>?_⟩
  have e:=hm name
  unfold nsFind findBy at e
  rw [← Array.find?_toList] at e
  unfold PySem.W.lookIn
  rw [hd]
  dsimp only
  split
  · rename_i y q
    rw [q] at e
    exact congrArg some e
  · rename_i q
    rw [q] at e
    have a:es.toList.any (·.refKey)=false:=by
      rw [List.any_eq_false]
      intro y hy
      obtain ⟨z,t,hkey⟩:=hk y (Array.mem_toList_iff.mp hy)
      simp [DictEntry.refKey,hkey]
    have a':¬ es.toList.any (·.refKey)=true:=by rw [a]; exact Bool.false_ne_true
    rw [if_neg a']
    exact congrArg some e
theorem a91.look {h:Heap} {x dx C:Addr} {mA:Str→Option Value} (I:a91 h x dx C mA):∃ od,PySem.W.InstAt h x (PySem.W.instObj C dx) C (some od)∧∀ name,PySem.W.lookIn name od=some (mA name) :=
  let ⟨od,ho,hl⟩:=Y8 I.ns
  ⟨od,⟨I.obj,rfl,rfl,ho⟩,hl⟩
noncomputable section
variable {prog:Program} {w:World} {A:Around} {E:Value→Shared→Prop} {s:Shared} {K:PySem.W.Frag} {x dx C f:Addr} {mA:Str→Option Value} {name:Str} {v:Value}
end
theorem Pb.some_of {v:V} {o:Option Value} (r:Pb (some v) o):∃ u,o=some u∧RelV v u:=by
  cases o with
  | none=>exact (show False from r).elim
  | some u=>exact ⟨u,rfl,r⟩
theorem Pb.none_of {o:Option Value} (r:Pb none o):o=none:=by
  cases o with
  | none=>rfl
  | some u=>exact (show False from r).elim
noncomputable section
variable {P:Program} {w:World} {H H':Hp} {h h':Heap} {a C dx:Addr} {fs fs':List (Str × V)}
theorem a3v (hok:HOk P w H h) (e:H a=some (.ins C dx fs)):∃ mA,a91 h a dx C mA∧(∀ f,Pb (fs.lookup f) (mA f))∧PySem.Within mA (fs.map (·.1))∧fs.length≤1000∧H dx=some (.own a):=by
  obtain ⟨d,z,ne,ob,mA,n,r,q⟩:=(show Bh P w H h a (.ins C dx fs) from hok a _ e)
  exact ⟨mA,⟨ob,n,ne⟩,r,q,z,d⟩
end
structure Cls (K:PySem.W.Frag) (C:Addr):Prop where
  pg:PySem.W.plainGet K C Str.empty=true
  hd:PySem.W.hasDictIn K C=true
  po:PySem.W.plainOver K C=true
  sa:PySem.W.findIn K (.ref C) "__setattr__" = some (some (.builtin "object.__setattr__"))
theorem Cls.get {K:PySem.W.Frag} {C:Addr} (c:Cls K C) (f:Str):PySem.W.plainGet K C f=true:=c.pg
structure Con (K:PySem.W.Frag) (C:Addr) (f:Str) (v:V) (u:Value):Prop where
  at_:PySem.W.findIn K (.ref C) f=some (some u)
  rel:RelV v u
  get:PySem.W.specialIn K u "__get__" = some none
  cp:PySem.W.copiedNames.contains f=false
structure Meth (K:PySem.W.Frag) (C:Addr) (m:Str) (f:Addr):Prop where
  at_:PySem.W.findIn K (.ref C) m=some (some (.ref f))
  fn:PySem.W.isFn K (.ref f)=true
  kp:PySem.W.keepIn K (.ref f)=true
noncomputable section
variable {X:Cx} {pins:List (Addr × Obj)} {σ:St} {H:Hp} {s:Shared} {a C dx:Addr} {fs:List (Str × V)} {f:Str} {v:V} {A:Around} {E:Value→Shared→Prop}
theorem Inv.made (I:Inv X pins σ H s):Inv X pins σ (upd (upd H s.heap.objs.size (.own (s.heap.objs.size+1))) (s.heap.objs.size+1) (.ins C s.heap.objs.size []))
    { s with heap:=(s.heap.push PySem.W.emptyDict).push (PySem.W.instObj C s.heap.objs.size) }:=by
  have e1:(s.heap.push PySem.W.emptyDict).get? s.heap.objs.size=some PySem.W.emptyDict:=Heap.get?_push_size s.heap rfl
  have e2:((s.heap.push PySem.W.emptyDict).push (PySem.W.instObj C s.heap.objs.size)).get? (s.heap.objs.size+1)=some (PySem.W.instObj C s.heap.objs.size):=by
    have:=Heap.get?_push_size (s.heap.push PySem.W.emptyDict) (o:=PySem.W.instObj C s.heap.objs.size) rfl
    rwa [Heap.size_push] at this
  have e3:(s.heap.push PySem.W.emptyDict).Ns s.heap.objs.size (fun _=>none):=⟨PySem.W.emptyDict,#[],_,e1,rfl,(fun e he=>absurd he (by simp)),fun _=>rfl⟩
  have I1:=I.laid (a:=s.heap.objs.size) (o:=.own (s.heap.objs.size+1)) (h':=s.heap.push PySem.W.emptyDict) (t':=s.toks) (fun b u q=>Heap.get?_push_of_some _ q) (Nat.le_refl _) ⟨_,e1⟩
  refine I1.laid (a:=s.heap.objs.size+1) (o:=.ins C s.heap.objs.size []) (t':=s.toks) (fun b u q=>Heap.get?_push_of_some _ q) (Nat.le_of_eq (Heap.size_push _ _)) ?_
  have ne:s.heap.objs.size≠s.heap.objs.size+1:=Nat.ne_of_lt (Nat.lt_succ_self _)
  refine ⟨by rw [ql ne,kj],Nat.zero_le _,ne,e2,fun _=>none,(Heap.Ns1.of_empty e3).at fun o q=>Heap.get?_push_of_some _ q,fun _=>True.intro,fun y hy=>absurd rfl hy⟩
end
noncomputable section
variable {X:Cx} {o e value:Expr} {f:Str} {pos pos' tpos:Pos} {ta tv:TE}
end
noncomputable section
variable {X:Cx} {pins:List (Addr × Obj)} {σ:St} {H:Hp} {s:Shared} {A:Around} {E:Value→Shared→Prop} {Q:Value→Shared→Prop} {c:Value} {b:Bool}
inductive W0 (K:PySem.W.Frag) (H:Hp):V→Value→Prop where
  | non:W0 K H .non (.type "NoneType")
  | bl (x:Bool):W0 K H (.bl x) (.type "bool")
  | int (i:Int):W0 K H (.int i) (.type "int")
  | str (x:Str):W0 K H (.str x) (.type "str")
  | flt (x:UInt64):W0 K H (.flt x) (.type "float")
  | lst {a:Addr} {xs:List V} (e:H a=some (.lst xs)):W0 K H (.ref a) (.type "list")
  | frz {a:Addr} {o:Obj} {xs:List V} (e:H a=some (.frz o (.lst xs))):W0 K H (.ref a) (.type "list")
  | tup {a:Addr} {xs:List V} (e:H a=some (.tup xs)):W0 K H (.ref a) (.type "tuple")
  | dK {a:Addr} {kvs:List (Key × V)} (e:H a=some (.dK kvs)):W0 K H (.ref a) (.type "dict")
  | dT {a:Addr} {kvs:List (List Key × V)} (e:H a=some (.dT kvs)):W0 K H (.ref a) (.type "dict")
  | ins {a C dx:Addr} {fs:List (Str × V)} (e:H a=some (.ins C dx fs)) (cl:Cls K C) (ha:PySem.W.findIn K (.ref C) "__class__" = some (some (.builtin "object.__class__")))
      (hn:PySem.W.specialIn K (.builtin "object.__class__") "__get__" = some (some (.builtin "getset_descriptor.__get__"))) (htk:PySem.W.takesIn K (.builtin "object.__class__")=some true)
      (hm:PySem.W.mroIn K C (.type "object")=some true):W0 K H (.ref a) (.ref C)
theorem Gi {x:V} {u t:Value} (I:Inv X pins σ H s) (rx:RelV x u) (ty:W0 X.K H x t) (e:PySem.W.kitOne X.K t c=some b) (h:∀ tk,Q (.bool b) { s with toks:=tk }) :
    wpAny (model X.prog X.w) A (call (.builtin "isinstance") [u,c]) Q E s:=by
  cases ty with
  | non=>cases (show u=Value.none from rx); exact PySem.W.kia_one PySem.W.kitx_none I.kIn True.intro e (fun z=>nomatch z) h
  | bl y=>cases (show u=Value.bool y from rx); exact PySem.W.kia_one PySem.W.kitx_bool I.kIn True.intro e (fun z=>nomatch z) h
  | int i=>obtain ⟨t,q⟩:=(show ∃ t,u=Value.int i t from rx); cases q; exact PySem.W.kia_one PySem.W.kitx_int I.kIn True.intro e (fun z=>nomatch z) h
  | str y=>obtain ⟨t,q⟩:=(show ∃ t,u=Value.str y t from rx); cases q; exact PySem.W.kia_one PySem.W.kitx_str I.kIn True.intro e (fun z=>nomatch z) h
  | flt y=>obtain ⟨t,q⟩:=(show ∃ t,u=Value.float y t from rx); cases q; exact PySem.W.kia_one PySem.W.kitx_float I.kIn True.intro e (fun z=>nomatch z) h
  | @lst a xs ea =>
    cases (show u=Value.ref a from rx)
    obtain ⟨_,_,n,_,h1⟩:=(show Bh X.prog X.w H s.heap a (.lst xs) from I.hok a _ ea)
    exact PySem.W.kia_one PySem.W.kitx_list I.kIn ⟨_,h1,rfl⟩ e (fun z=>nomatch z) h
  | @frz a ob xs ea =>
    cases (show u=Value.ref a from rx)
    obtain ⟨_,_,_,n,_,h1⟩:=(show Bh X.prog X.w H s.heap a (.frz ob (.lst xs)) from I.hok a _ ea)
    exact PySem.W.kia_one PySem.W.kitx_list I.kIn ⟨_,h1,rfl⟩ e (fun z=>nomatch z) h
  | @tup a xs ea =>
    cases (show u=Value.ref a from rx)
    obtain ⟨_,_,_,p⟩:=(show Bh X.prog X.w H s.heap a (.tup xs) from I.hok a _ ea)
    obtain ⟨o,h1,h2,_⟩:=p
    exact PySem.W.kia_one PySem.W.kitx_tuple I.kIn ⟨o,h1,h2⟩ e (fun z=>nomatch z) h
  | @dK a kvs ea =>
    cases (show u=Value.ref a from rx)
    obtain ⟨_,_,vs,_,p⟩:=(show Bh X.prog X.w H s.heap a (.dK kvs) from I.hok a _ ea)
    obtain ⟨o,es,ep,h1,h2,_⟩:=p
    exact PySem.W.kia_one PySem.W.kitx_dict I.kIn ⟨o,h1,h2.1⟩ e (fun z=>nomatch z) h
  | @dT a kvs ea =>
    cases (show u=Value.ref a from rx)
    obtain ⟨_,_,xs,_,o,es,ep,h1,h2,_⟩:=(show Bh X.prog X.w H s.heap a (.dT kvs) from I.hok a _ ea)
    exact PySem.W.kia_one PySem.W.kitx_dict I.kIn ⟨o,h1,h2.1⟩ e (fun z=>nomatch z) h
  | @ins a C dx fs ea cl ha hn htk hm =>
    cases (show u=Value.ref a from rx)
    obtain ⟨mA,O,_⟩:=a3v I.hok ea
    obtain ⟨od,J,_⟩:=O.look
    exact PySem.W.kia_one (PySem.W.kitx_own (cl.get _) cl.hd ha hn htk hm) I.kIn J e (fun z=>nomatch z) h
end
end L2
namespace L2
open PySem PySem.Spec PyProof.Rows
structure Ke (k:Nat) (A:Around):Prop where
  hd:A.handled=none
  dp:A.depth+3 * k+5<recursionLimit
  un:A.units+16 * k+200<cLine
theorem Ke.mono {j k:Nat} {A:Around} (r:Ke k A) (h:j≤k):Ke j A:=⟨r.hd,by have:=r.dp; omega,by have:=r.un; omega⟩
theorem Ke.deeper {k:Nat} {A:Around} (r:Ke (k+1) A) (env:Env):Ke k (A.deeper env) :=
  ⟨r.hd,by have:=r.dp; show A.depth+1+3 * k+5<_; omega,by have:=r.un; show A.units+3+16 * k+200<_; omega⟩
theorem Ke.depth {k:Nat} {A:Around} (r:Ke k A):A.depth<recursionLimit:=by have:=r.dp; omega
theorem Ke.units {k:Nat} {A:Around} (r:Ke k A):A.units+64<cLine:=by have:=r.un; omega
noncomputable def a5d:TA:=fun _ H Q=>Q [] H
noncomputable def Qi (ta:TE) (tr:TA):TA:=fun σ H Q=>ta σ H fun x H1=>tr σ H1 fun xs H2=>Q (x::xs) H2
noncomputable section
variable {X:Cx} {e:Expr} {es:List Expr} {te:TE} {t:TA} {pos:Pos}
theorem vf:PA X [] a5d:=fun _ _ _ _ H Q I h=>Calls.spliced_nil ⟨[],H,I,.nil,h⟩
theorem qp (ha:PE X e te) (hr:PA X es t) (hs:starEach (e::es) X.env=(false,eval e X.env)::starEach es X.env:=by rfl):PA X (e::es) (Qi te t):=by
  intro pos pins s σ H Q I h
  rw [hs]
  show wpAny _ _ (spliced ((false,eval e X.env)::backTo pos (starEach es X.env))) _ _ s
  refine Calls.spliced_cons (thn (ha pins s σ H _ I h) fun u s1 z0=>?_)
  obtain ⟨x,H1,I1,r1,q1⟩:=z0
  exact thn (hr pos pins s1 σ H1 _ I1 q1) fun us s2 ⟨xs,H2,I2,r2,q2⟩=>⟨x::xs,H2,I2,.cons r1 r2,q2⟩
noncomputable def a9p (t:TA):TE:=fun σ H Q=>t σ H fun xs H1=>xs.length≤sizeLine∧∀ p,H1 p=none→Q (.ref p) (upd H1 p (.tup xs))
noncomputable def a9h (t:TA):TE:=fun σ H Q=>t σ H fun xs H1=>xs.length≤sizeLine∧∀ p,H1 p=none→Q (.ref p) (upd H1 p (.lst xs))
theorem a5z {x1} (h:PA X es t):PE X (.Tuple es x1 pos) (a9p t):=by
  intro pins s σ H Q I hq
  refine wpAny_Tuple_spliced (thn (h pos pins s σ H _ I hq) fun us s1 ⟨xs,H1,I1,r,z,q⟩=>⟨by rw [← r.length]; exact z,?_⟩)
  have hf:H1 s1.heap.objs.size=none:=I1.hok.fresh (Nat.le_refl _)
  refine ⟨.ref s1.heap.objs.size,upd H1 s1.heap.objs.size (.tup xs),I1.laid (t':=s1.toks) (fun b u e=>Heap.get?_push_of_some _ e) (Nat.le_refl _) ?_,rfl,q _ hf⟩
  exact ⟨z,us,r,⟨_,Heap.get?_push_size _ rfl,rfl,rfl,_,rfl⟩⟩
theorem a2b (h:PA X es t):PE X (.List es pos) (a9h t):=by
  intro pins s σ H Q I hq
  refine wpAny_List_spliced (thn (h pos pins s σ H _ I hq) fun us s1 ⟨xs,H1,I1,r,z,q⟩=>⟨by rw [← r.length]; exact z,?_⟩)
  have hf:H1 s1.heap.objs.size=none:=I1.hok.fresh (Nat.le_refl _)
  refine ⟨.ref s1.heap.objs.size,upd H1 s1.heap.objs.size (.lst xs),I1.laid (t':=s1.toks) (fun b u e=>Heap.get?_push_of_some _ e) (Nat.le_refl _) ?_,rfl,q _ hf⟩
  exact ⟨z,us,0,r,Heap.get?_push_size _ rfl⟩
end
noncomputable abbrev Sp:=List V→Hp→VK→XK→Prop
noncomputable abbrev CXT:=List Env→Hp→Shared→XK→Value→Shared→Prop
structure a7t (P:Program) (w:World) (K:PySem.W.Frag) (mg:Str→Option Value) (base:Heap) (A:Around) (outer:List Env) (s:Shared) (H:Hp):Prop where
  frames:A.frames=some outer
  mod:Mod K mg base
  bs:∀ b o,base.get? b=some o→s.heap.get? b=some o∧H b=none
  bsz:base.objs.size≤s.heap.objs.size
  Vz:s.heap.FunFrames base outer
  frf:∀ b∈frs outer,H b=none
  hok:HOk P w H s.heap
  bare:AllBare s.gens
noncomputable def CE (outer:List Env) (P:Program) (w:World) (H:Hp) (s:Shared) (Q:VK) (u:Value) (s':Shared):Prop :=
  ∃ v H',s'.os=s.os∧AllBare s'.gens∧Un (frs outer) [] H H' s.heap s'.heap∧HOk P w H' s'.heap∧RelV v u∧Q v H'
noncomputable def CR (CX:CXT) (outer:List Env) (P:Program) (w:World) (H:Hp) (s:Shared) (Q:VK) (E:XK) (r:Result) (s':Shared):Prop :=
  match r with
  | .ok (.ret u)=>CE outer P w H s Q u s'
  | .ok _=>False
  | .error e=>CX outer H s E e s'
structure Ce (P:Program) (w:World) (K:PySem.W.Frag) (mg:Str→Option Value) (base:Heap) (CX:CXT) (k:Nat) (f:Addr) (fd:FuncData) (ps:List Str) (sp:Sp):Prop where
  len:∀ vs H Q E,sp vs H Q E→vs.length=ps.length
  run:∀ (A:Around) (outer:List Env) (s:Shared) (H:Hp) (args:Args) (us:List Value) (vs:List V) (Q:VK) (E:XK),Ke k A→a7t P w K mg base A outer s H→BindsTo s fd args (ps.zip us)→Vals vs us→sp vs H Q E →
    codeAny (model P w) A (.call (.ref f) args) (CR CX outer P w H s Q E) s
theorem Ce.mono {P:Program} {w:World} {K:PySem.W.Frag} {mg:Str→Option Value} {base:Heap} {CX:CXT} {j k:Nat} {f:Addr} {fd:FuncData} {ps:List Str} {sp:Sp} (F:Ce P w K mg base CX j f fd ps sp) (h:j≤k) :
    Ce P w K mg base CX k f fd ps sp:=⟨F.len,fun A outer s H args us vs Q E hr=>F.run A outer s H args us vs Q E (hr.mono h)⟩
theorem Ce.imp {P:Program} {w:World} {K:PySem.W.Frag} {mg:Str→Option Value} {base:Heap} {CX:CXT} {k:Nat} {f:Addr} {fd:FuncData} {ps:List Str} {sp sp':Sp} (F:Ce P w K mg base CX k f fd ps sp)
    (h:∀ vs H Q E,sp' vs H Q E→sp vs H Q E):Ce P w K mg base CX k f fd ps sp' :=
  ⟨fun vs H Q E q=>F.len vs H Q E (h _ _ _ _ q),fun A outer s H args us vs Q E hr he hb hv hs=>F.run A outer s H args us vs Q E hr he hb hv (h _ _ _ _ hs)⟩
noncomputable section
variable {X:Cx} {pins:List (Addr × Obj)} {σ:St} {H:Hp} {s s':Shared}
theorem Inv.env0 (I:Inv X pins σ H s):a7t X.prog X.w X.K X.mg X.base X.A X.stack s H :=
  ⟨I.ok.frames,I.ok.mod,I.bs,Nat.le_trans I.ok.bsz I.sz,I.stack,I.W4,I.hok,I.bare⟩
theorem Inv.after {Q:VK} {u:Value} (I:Inv X pins σ H s) (h:CE X.stack X.prog X.w H s Q u s'):EP X pins σ Q u s':=by
  obtain ⟨v,H',os,bare,un,hok,r,q⟩:=h
  obtain ⟨hh,g,d,t,os'⟩:=s'
  obtain rfl:os'=s.os:=os
  exact ⟨v,H',I.call (h':=hh) (g':=g) (d':=d) (t':=t) (ch:=[]) un hok bare (fun b z=>absurd z (by simp)),r,q⟩
end
noncomputable def a8c (sp:Sp) (dvs:List V) (E:XK) (t:TA):TE:=fun σ H Q=>t σ H fun vs H1=>sp (vs++dvs) H1 Q E
noncomputable def Binds (K:PySem.W.Frag) (fd:FuncData) (ps:List Str) (ds:List Value):Prop :=
  ∀ (s:Shared) (us:List Value),K.In s.heap→(us++ds).length=ps.length→BindsTo s fd ⟨us,[]⟩ (ps.zip (us++ds))
theorem Binds.all {K:PySem.W.Frag} {fd:FuncData} {ps:List Str} (h:∀ us:List Value,us.length=ps.length→bindArgs fd ⟨us,[]⟩=pure (ps.zip us)):Binds K fd ps []:=fun s us _ hl=>by
  rw [List.append_nil] at hl ⊢
  exact .of_eq (h us hl)
noncomputable def Passes (CX:CXT) (X:Cx) (E:XK):Prop:=∀ (pins:List (Addr × Obj)) (σ:St) (H:Hp) (s:Shared) (e:Value) (s':Shared),Inv X pins σ H s→CX X.stack H s E e s'→X.xe e s'
noncomputable section
variable {X:Cx} {CX:CXT} {k:Nat} {f C:Addr} {fd:FuncData} {ps:List Str} {sp:Sp} {dvs:List V} {ds:List Value} {E:XK} {x m:Str} {p pos apos:Pos} {e o:Expr} {es:List Expr} {ta:TE} {t:TA}
theorem a7r {pins:List (Addr × Obj)} {σ:St} {H:Hp} {s:Shared} {Q:VK} {us:List Value} {vs:List V} (F:Ce X.prog X.w X.K X.mg X.base CX k f fd ps sp) (hr:Ke k X.A) (hb:Binds X.K fd ps ds) (hd:Vals dvs ds) (hx:Passes CX X E)
    (I:Inv X pins σ H s) (r:Vals vs us) (h:sp (vs++dvs) H Q E):wpAny (model X.prog X.w) X.A (call (.ref f) us) (EP X pins σ Q) X.xe s:=by
  have r2:Vals (vs++dvs) (us++ds):=r.append hd
  have hl:(us++ds).length=ps.length:=by rw [← r2.length]; exact F.len _ _ _ _ h
  refine wpAny_call (codeAny_mono (F.run X.A X.stack s H ⟨us,[]⟩ (us++ds) (vs++dvs) Q E hr I.env0 (hb s us I.kIn hl) r2 h) fun r s' hq=>?_)
  cases r with
  | error e=>exact hx pins σ H s e s' I hq
  | ok fl =>
    cases fl with
    | ret u=>exact I.after hq
    | next=>exact False.elim hq
    | brk=>exact False.elim hq
    | cont=>exact False.elim hq
theorem a2z (F:Ce X.prog X.w X.K X.mg X.base CX k f fd ps sp) (hr:Ke k X.A) (hg:Gl X x) (hm:X.mg x=some (.ref f)) (hk:PySem.W.keepIn X.K (.ref f)=true) (hb:Binds X.K fd ps ds) (hd:Vals dvs ds) (hx:Passes CX X E)
    (ha:PA X (e::es) t) (hdb:(x==("__debug__" : Str))=false:=by decide) (he:starEach (e::es) X.env=(false,eval e X.env)::starEach es X.env:=by rfl) (hpl:(backTo pos (starEach es X.env)).any (·.1)=false:=by rfl) :
    PE X (.Call (.Name x p) (e::es) [] pos) (a8c sp dvs E t):=by
  intro pins s σ H Q I h
  refine wpAny_Call_Name_kw (Yt I hg hm ?_ hdb)
  refine PySem.W.callWith_K (h₀:=X.base) I.ok.mod.kin hk (thn (ha pos pins s σ H _ I h) fun us s1 ⟨vs,H1,I1,r,q⟩=>⟨I1.kIn,?_⟩) he hpl
  exact a7r F hr hb hd hx I1 r q
structure Mk (K:PySem.W.Frag) (C f:Addr):Prop where
  makes:PySem.W.makesIn K C=true
  init:PySem.W.findIn K (.ref C) "__init__" = some (some (.ref f))
  fn:PySem.W.isFn K (.ref f)=true
  kp:PySem.W.keepIn K (.ref C)=true
end
noncomputable section
variable {X:Cx} {CX:CXT} {k:Nat} {f C:Addr} {fd:FuncData} {ps ks:List Str} {sp:Sp} {E:XK} {x m:Str} {p pos apos kpos:Pos} {e o:Expr} {es:List Expr} {kws:List Keyword} {te ta:TE} {t tk:TA} {nm:Option Str}
structure a9b (K:PySem.W.Frag) (fd:FuncData) (ps ks:List Str) (g:List Value→List Value→List Value) (gV:List V→List V→List V):Prop where
  to:∀ (s:Shared) (us ws:List Value),K.In s.heap→(g us ws).length=ps.length→BindsTo s fd ⟨us,ks.zip ws⟩ (ps.zip (g us ws))
  rel:∀ {vs:List V} {us:List Value} {zs:List V} {ws:List Value},Vals vs us→Vals zs ws→Vals (gV vs zs) (g us ws)
variable {g:List Value→List Value→List Value} {gV:List V→List V→List V}
end
structure nq (N P:List Str) (sc:Scope):Prop where
  kind:sc.kind=.function
  co:sc.isCoroutine=false
  gen:sc.isGenerator=false
  nd:N.Nodup
  pre:N.take P.length=P
  par:∀ x∈P,sc.names.lookup x=some .local∨sc.names.lookup x=some .cell
  nofree:∀ y∈sc.names,y.2≠.free
theorem O9 {kindOf:Str→Option NameKind} {x:Str}:∀ {binds:List (Str × Value)} {m:Str→Option Value},(∀ v,(x,v)∉binds)→bindL kindOf binds m x=m x
  | [],_,_=>rfl
  | (n,v)::r,m,h=>by
    unfold bindL
    rw [O9 fun w hw=>h w (List.mem_cons_of_mem _ hw)]
    split
    · have:x≠n:=by rintro rfl; exact h v List.mem_cons_self
      simp [this]
    · rfl
theorem Oz {kindOf:Str→Option NameKind} {x:Str}:∀ {binds:List (Str × Value)} {m:Str→Option Value},(∀ v,(x,v)∉binds)→bindC kindOf binds m x=m x
  | [],_,_=>rfl
  | (n,v)::r,m,h=>by
    unfold bindC
    rw [Oz fun w hw=>h w (List.mem_cons_of_mem _ hw)]
    split
    · rfl
    · have:x≠n:=by rintro rfl; exact h v List.mem_cons_self
      simp [this]
theorem Nj {kindOf:Str→Option NameKind} {x:Str} {v:Value}:∀ {P:List Str} {vs:List Value} {i:Nat} {m:Str→Option Value},P.Nodup→P[i]? = some x→vs[i]? = some v→kindOf x=some .local →
    bindL kindOf (P.zip vs) m x=some v
  | [],_,_,_,_,h,_,_=>by simp at h
  | _::_,[],_,_,_,_,h,_=>by simp at h
  | p::P,w::vs,0,m,nd,h1,h2,hk=>by
    simp at h1 h2; subst h1; subst h2
    show bindL kindOf ((p,w)::P.zip vs) m p=_
    unfold bindL
    rw [O9 fun v hv=>(List.nodup_cons.mp nd).1 (List.of_mem_zip hv).1,if_pos hk]
    simp
  | p::P,w::vs,i+1,m,nd,h1,h2,hk=>by
    show bindL kindOf ((p,w)::P.zip vs) m x=_
    unfold bindL
    exact Nj (i:=i) (List.nodup_cons.mp nd).2 (by simpa using h1) (by simpa using h2) hk
theorem Ow {kindOf:Str→Option NameKind} {x:Str} {v:Value}:∀ {P:List Str} {vs:List Value} {i:Nat} {m:Str→Option Value},P.Nodup→P[i]? = some x→vs[i]? = some v→kindOf x≠some .local →
    bindC kindOf (P.zip vs) m x=some v
  | [],_,_,_,_,h,_,_=>by simp at h
  | _::_,[],_,_,_,_,h,_=>by simp at h
  | p::P,w::vs,0,m,nd,h1,h2,hk=>by
    simp at h1 h2; subst h1; subst h2
    show bindC kindOf ((p,w)::P.zip vs) m p=_
    unfold bindC
    rw [Oz fun v hv=>(List.nodup_cons.mp nd).1 (List.of_mem_zip hv).1,if_neg hk]
    simp
  | p::P,w::vs,i+1,m,nd,h1,h2,hk=>by
    show bindC kindOf ((p,w)::P.zip vs) m x=_
    unfold bindC
    exact Ow (i:=i) (List.nodup_cons.mp nd).2 (by simpa using h1) (by simpa using h2) hk
noncomputable def start (N:List Str) (vs:List V):St:=vs.map some++List.replicate (N.length - vs.length) none
noncomputable def a3q (CX:CXT) (P:Program) (w:World) (K:PySem.W.Frag) (mg:Str→Option Value) (base:Heap) (N:List Str) (qual:Str) (scope:Scope) (f:Addr) (cd:Value) (A:Around) (outer:List Env) (s:Shared) (H:Hp) (E:XK):Cx where
  prog:=P
  w:=w
  K:=K
  mg:=mg
  base:=base
  A:=A.deeper (envOfC qual scope s.heap.objs.size f cd)
  N:=N
  s₀:=s
  H₀:=H
  env:=envOfC qual scope s.heap.objs.size f cd
  outer:=outer
  stack:=envOfC qual scope s.heap.objs.size f cd::outer
  ex:=[]
  calm:=true
  fn:=fun _=>true
  pn:=[]
  xe:=fun e s'=>wpAny (model P w) (A.deeper (envOfC qual scope s.heap.objs.size f cd)) (leaving (envOfC qual scope s.heap.objs.size f cd) e) (fun _ s''=>CX outer H s E e s'') (fun e' s''=>CX outer H s E e' s'') s'
theorem Te {sc:Scope} {n:Nat} {x:Str} (h:sc.names.lookup x=some .cell):∃ c,(cellsFrom n sc.names []).lookup x=some c:=by
  have q:=PySem.W.cellsFrom_some sc.names n [] (.inl h)
  exact Option.isSome_iff_exists.mp q
theorem Xi {CX:CXT} {P:Program} {w:World} {K:PySem.W.Frag} {mg:Str→Option Value} {base:Heap} {N ps:List Str} {qual:Str} {scope:Scope} {f:Addr} {cd:Value} {A:Around} {outer:List Env} {s s1:Shared} {H:Hp} {E:XK} {us:List Value} {vs:List V}
    (S:nq N ps scope) (hd:A.handled=none) (e0:a7t P w K mg base A outer s H) (hl:vs.length=ps.length) (r:Vals vs us)
    (x:InCallC s s.heap.objs.size (bindL (envOfC qual scope s.heap.objs.size f cd).kindOf (ps.zip us) fun _=>none) (cellsFrom (s.heap.objs.size+1) scope.names []) (bindC (envOfC qual scope s.heap.objs.size f cd).kindOf (ps.zip us) fun _=>none) s1) :
    Inv (a3q CX P w K mg base N qual scope f cd A outer s H E) [] (start N vs) H s1:=by
  have hpl:ps.length≤N.length:=by have:=congrArg List.length S.pre; rw [List.length_take] at this; omega
  obtain ⟨h1,tk,rfl,hk⟩:=x.done
  have noA:∀ b:Addr,b∉(a3q CX P w K mg base N qual scope f cd A outer s H E).ex:=fun b z=>absurd (show b∈([]:List Addr) from z) (by simp)
  refine ⟨⟨e0.mod,S.kind,rfl,rfl,Nat.le_refl _,fun y z c h1 h2=>?_,fun y hy=>?_,fun y c _ h=>?_,fun _=>hd,Around.frames_deeper e0.frames,.inr ⟨rfl,rfl⟩,fun b z=>absurd z (noA b),e0.bs,e0.bsz,fun b _ _=>noA b,fun b z=>absurd z (noA b),e0.Vz,e0.frf⟩,
    rfl,e0.bare,Un.kept hk,⟨_,x.toInCall.ns,fun i y v h1 h2 h3=>?_⟩,fun y c h=>⟨_,x.cell y c h⟩,e0.hok.fresh (Nat.le_refl _),fun y c h=>?_,fun p hp=>absurd (show p∈([]:List (Addr × Obj)) from hp) (by simp),e0.hok.kept hk,?_⟩
  · exact name_of_addr x.apart (PySem.mem_of_lookup h1) (PySem.mem_of_lookup h2)
  · have hy:scope.names.lookup y=some .cell∨scope.names.lookup y=some .free:=hy
    rcases hy with hy | hy
    · exact Te hy
    · exact absurd rfl (S.nofree _ (PySem.mem_of_lookup hy))
  · exact Nat.le_of_lt (x.above y c (PySem.mem_of_lookup h))
  · have hi:i<vs.length:=by
      unfold start at h2
      by_cases hi:i<vs.length
      · exact hi
      · rw [List.getElem?_append_right (by simpa using hi)] at h2
        rw [List.getElem?_replicate] at h2
        split at h2 <;> cases h2
    have ha:vs[i]? = some v:=by
      unfold start at h2
      rw [List.getElem?_append_left (by simpa using hi),List.getElem?_map] at h2
      cases e:vs[i]? with
      | none=>rw [e] at h2; cases h2
      | some a=>rw [e] at h2; cases h2; rfl
    obtain ⟨u,hu,rv⟩:=r.get ha
    have hp:ps[i]? = some y:=by
      rw [← S.pre,List.getElem?_take_of_lt (by omega)]; exact h1
    have ndP:ps.Nodup:=by rw [← S.pre]; exact S.nd.sublist (List.take_sublist _ _)
    refine ⟨u,rv,?_⟩
    rcases S.par y (List.mem_of_getElem? hp) with k | k
    · exact .inl ⟨k,Nj ndP hp hu k⟩
    · obtain ⟨c,e⟩:=Te (n:=s.heap.objs.size+1) k
      refine .inr ⟨.inl k,c,e,?_⟩
      have q:=x.cell y c e
      rw [Ow ndP hp hu (by show scope.names.lookup y≠_; rw [k]; decide)] at q
      exact q
  · exact e0.hok.fresh (Nat.le_of_lt (x.above y c (PySem.mem_of_lookup h)))
  · unfold start
    show _=N.length
    rw [List.length_append,List.length_map,List.length_replicate]
    omega
theorem a81 {CX:CXT} {P:Program} {w:World} {K:PySem.W.Frag} {mg:Str→Option Value} {base:Heap} {k:Nat} {f:Addr} {name qual:Str} {params:Arguments} {body:List Stmt} {scope:Scope} {dV kV doc pm cdv ct oc:Value} {an od:Option Addr}
    {osl:Array (Option Value)} {N ps:List Str} {sp:Sp} (lk:K.lookup f=some ⟨oc,od,.func (PySem.W.fnOf name qual params body scope dV kV doc pm an cdv ct),osl⟩) (hcd:PySem.W.codeIn K cdv qual=true) (S:nq N ps scope)
    (len:∀ vs H Q E,sp vs H Q E→vs.length=ps.length)
    (hbody:∀ (A:Around) (outer:List Env) (s:Shared) (H:Hp) (vs:List V) (Q:VK) (E:XK),Ke k (A.deeper (envOfC qual scope s.heap.objs.size f cdv))→sp vs H Q E →
      ∃ t,PSs (a3q CX P w K mg base N qual scope f cdv A outer s H E) body t∧t { nx:=fun _ H'=>Q .non H',rt:=Q } (start N vs) H) :
    Ce P w K mg base CX (k+1) f (PySem.W.fnOf name qual params body scope dV kV doc pm an cdv ct) ps sp:=by
  refine ⟨len,fun A outer s H args us vs Q E hr e0 hb r hsp=>?_⟩
  have hl:=len _ _ _ _ hsp
  have KX:K.In s.heap:=e0.mod.kin.keeps fun b o e=>(e0.bs b o e).1
  have lim:s.heap.NoLimit:=e0.mod.nolimit.keeps fun b o e=>(e0.bs b o e).1
  have hkind:∀ y∈ps.zip us,scope.names.lookup y.1=some .local∨(scope.names.lookup y.1=some .cell∧((cellsFrom (s.heap.objs.size+1) scope.names []).lookup y.1).isSome=true):=fun ⟨n,v⟩ hy=>by
    rcases S.par n (List.of_mem_zip hy).1 with q | q
    · exact .inl q
    · exact .inr ⟨q,PySem.W.cellsFrom_some _ _ _ (.inl q)⟩
  refine codeAny_call_function hr.depth (KX _ _ lk) rfl S.co S.gen rfl (PySem.W.codeRec_of KX hcd) (hb _ _ _ _ ?_)
  refine wpAny_newFunctionEnv_cells S.kind hkind fun env he s1 x=>?_
  subst he
  refine ⟨lim.keeps x.toInCall.keep,codeAny_func ?_⟩
  obtain ⟨t,ht,hq⟩:=hbody A outer s H vs Q E (hr.deeper _) hsp
  have I:Inv (a3q CX P w K mg base N qual scope f cdv A outer s H E) [] (start N vs) H s1:=Xi S hr.hd e0 hl r x
  refine wpAny_mono (ht [] s1 (start N vs) H _ I hq) (fun fl s' hs=>?_) fun e s' hs=>hs
  have fin:∀ {σ':St} {H':Hp} {v:V} {u:Value},Inv (a3q CX P w K mg base N qual scope f cdv A outer s H E) [] σ' H' s'→RelV v u→Q v H'→CE outer P w H s Q u s' :=
    fun {σ' H' v u} J rv q=>⟨v,H',J.os,J.bare,J.base,J.hok,rv,q⟩
  cases fl with
  | ret u =>
    obtain ⟨v,σ',H',J,rv,q⟩:=hs
    exact fin J rv q
  | next =>
    obtain ⟨σ',H',J,q⟩:=hs
    exact fin (v:=V.non) (u:=Value.none) J rfl q
  | brk =>
    obtain ⟨_,_,_,q⟩:=hs
    exact False.elim q
  | cont =>
    obtain ⟨_,_,_,q⟩:=hs
    exact False.elim q
end L2
namespace L2
open PySem PySem.Spec PyProof.Rows
noncomputable section
variable {X:Cx} {x:Str} {p pos:Pos} {e:Expr} {es:List Expr} {t:TA} {id T:String} {r:List V→Hp→VK→Prop}
noncomputable def tCB (r:List V→Hp→VK→Prop) (t:TA):TE:=fun σ H Q=>t σ H fun vs H1=>r vs H1 Q
theorem qg (hc:Em X (.builtin id) r) (hg:Gl X x) (hm:X.mg x=none) (hv:bootBuiltins x=some (.builtin id)) (ha:PA X (e::es) t) (hn:x ≠ "__name__" := by decide) (hdb:(x==("__debug__" : Str))=false:=by decide)
    (he:starEach (e::es) X.env=(false,eval e X.env)::starEach es X.env:=by rfl) (hpl:(backTo pos (starEach es X.env)).any (·.1)=false:=by rfl):PE X (.Call (.Name x p) (e::es) [] pos) (tCB r t):=by
  intro pins s σ H Q I h
  refine wpAny_Call_Name_kw (Lp I hg hm hv ?_ hn hdb)
  exact PyProof.Rows.callWith_builtin1 (thn (ha pos pins s σ H _ I h) fun us s1 z7=>by obtain ⟨vs,H1,I1,r1,q1⟩:=z7; exact hc pins s1 σ H1 vs us Q I1 r1 q1) he hpl
theorem qt (hc:Em X (.type T) r) (hg:Gl X x) (hm:X.mg x=none) (hv:bootBuiltins x=some (.type T)) (ha:PA X (e::es) t) (hn:x ≠ "__name__" := by decide) (hdb:(x==("__debug__" : Str))=false:=by decide)
    (he:starEach (e::es) X.env=(false,eval e X.env)::starEach es X.env:=by rfl) (hpl:(backTo pos (starEach es X.env)).any (·.1)=false:=by rfl):PE X (.Call (.Name x p) (e::es) [] pos) (tCB r t):=by
  intro pins s σ H Q I h
  refine wpAny_Call_Name_kw (Lp I hg hm hv ?_ hn hdb)
  exact PyProof.Rows.callWith_type1 (thn (ha pos pins s σ H _ I h) fun us s1 z7=>by obtain ⟨vs,H1,I1,r1,q1⟩:=z7; exact hc pins s1 σ H1 vs us Q I1 r1 q1) he hpl
end
end L2
end
noncomputable section
set_option linter.all false
set_option maxRecDepth 100000
namespace HT
open PySem PyProof.Rows
noncomputable section
open PySem.SeqAt
open PySem.AutoSeq1 (wpAny_loadPart')
open PySem.MeetsSeq PySem.MeetsSeq2 PySem.MeetsSeq3
end
noncomputable section
variable {prog:Program} {w:World} {A:Around} {E:Value→Shared→Prop} {s:Shared}
theorem a4c {t b:Addr} {vs ws:List Value} {Q:Value→Shared→Prop} (ht:IsTup s.heap t vs.toArray) (hb:IsTup s.heap b ws.toArray) (hv:vs≠[])
    (h1:ws=[]→Q (.ref t) s) (h2:ws≠[]→Q (.ref s.heap.objs.size) { s with heap:=s.heap.push { cls:=.type "tuple",data:=.seq (vs++ws).toArray } })
    (hsz:vs.length+ws.length≤sizeLine):wpAny (model prog w) A (binaryOp .Add (.ref t) (.ref b)) Q E s:=by
  obtain ⟨⟨cls,dd,data,sl⟩,ho,hc,n,hd⟩:=id ht
  obtain ⟨⟨cls2,dd2,data2,sl2⟩,ho2,hc2,n2,hd2⟩:=id hb
  simp only at hc hd hc2 hd2
  subst hc hd hc2 hd2
  have e:vs.toArray++ws.toArray=(vs++ws).toArray:=by simp
  by_cases hw:ws=[]
  · exact concat_meets ⟨_,ho,rfl⟩ ⟨_,ho2,rfl⟩ noFill_tuple_add seq_tuple_add PySem.F.slot_tuple_add PySem.F.entry_tuple_add (PySem.F.args_tuple_add_2 _ _)
      (tuple_addW1 t b vs.toArray ws.toArray n n2 dd dd2 sl sl2 (by simpa using hv) (by simp [hw])) ⟨ho,ho2,h1 hw⟩
  · refine concat_meets ⟨_,ho,rfl⟩ ⟨_,ho2,rfl⟩ noFill_tuple_add seq_tuple_add PySem.F.slot_tuple_add PySem.F.entry_tuple_add (PySem.F.args_tuple_add_2 _ _)
      (tuple_addW2 t b vs.toArray ws.toArray n n2 dd dd2 sl sl2 (by simpa using hv) (by simpa using hw) (by rw [List.size_toArray,List.size_toArray]; exact hsz)) ⟨ho,ho2,?_⟩
    rw [e]
    exact h2 hw
noncomputable def sIx (n d:Nat):Option Int→Nat
  | none=>d
  | some v=>if v<0 then (v+(n:Int)).toNat else min v.toNat n
theorem Zn (n d:Nat):sIx n d none=d:=rfl
theorem a3n (n d k:Nat):sIx n d (some (k:Int))=min k n:=by
  show (if (k:Int)<0 then ((k:Int)+(n:Int)).toNat else min (k:Int).toNat n)=min k n
  rw [if_neg (by omega),Int.toNat_natCast]
theorem a6l (n d:Nat) (hd:d≤n) (o:Option Int):sIx n d o≤n:=by
  cases o with
  | none=>exact hd
  | some v =>
    show (if v<0 then (v+(n:Int)).toNat else min v.toNat n)≤n
    by_cases hv:v<0
    · rw [if_pos hv]; omega
    · rw [if_neg hv]; exact Nat.min_le_right _ _
theorem Wg (v:Int) (n d:Nat):(if v<0 then max (v+(n:Int)) 0 else min v (n:Int))=((sIx n d (some v):Nat):Int):=by
  show (if v<0 then max (v+(n:Int)) 0 else min v (n:Int))=(((if v<0 then (v+(n:Int)).toNat else min v.toNat n):Nat):Int)
  by_cases hv:v<0
  · simp only [if_pos hv]; omega
  · simp only [if_neg hv]; omega
theorem V5 (lo hi:Option Int) (n:Nat):Builtin.Slice.sliceAdjust lo hi 1 (n:Int)=(((sIx n 0 lo:Nat):Int),((sIx n n hi:Nat):Int)):=by
  have h1:¬ ((1:Int)<0):=by omega
  unfold Builtin.Slice.sliceAdjust
  simp only [h1,if_false]
  refine Prod.ext ?_ ?_
  · cases lo with
    | none=>rfl
    | some v=>exact Wg v n 0
  · cases hi with
    | none=>rfl
    | some v=>exact Wg v n n
theorem Vl (i j:Nat):Builtin.Slice.slicePlaces (i:Int) (j:Int) 1=j - i:=by
  unfold Builtin.Slice.slicePlaces
  have h1:(1:Int) > 0:=by omega
  simp only [h1,if_true,Int.ediv_one]
  split <;> omega
theorem Ds {v:Value} {o:Option Int} {Q:Option Int→Shared→Prop} (p:IsPart v o) (h:Q o s):wpAny (model prog w) A (Builtin.Slice.slicePartIndex v) Q E s:=by
  cases p with
  | none=>exact slicePart_none h
  | int i t=>exact slicePart_int h
theorem Ie {sl:Addr} {vl vu:Value} {lo hi:Option Int} {n:Nat} {Q:Int × Int × Nat→Shared→Prop} (hs:s.heap.IsSliceOf sl vl vu .none) (pl:IsPart vl lo) (pu:IsPart vu hi)
    (h:Q (((sIx n 0 lo:Nat):Int),1,sIx n n hi - sIx n 0 lo) s):wpAny (model prog w) A (Builtin.Slice.sliceApplied (.ref sl) (pure (n:Int))) Q E s:=by
  obtain ⟨os,hos,hcs,hds⟩:=id hs
  unfold Builtin.Slice.sliceApplied Builtin.Slice.sliceFields
  refine wpAny_bind (wpAny_bind (wpAny_field hos hds (x:=vl) rfl (wpAny_bind (wpAny_field hos hds (x:=vu) rfl (wpAny_bind (wpAny_field hos hds (x:=.none) rfl (wpAny_pure ?_)))))))
  refine wpAny_bind (slicePart_none ?_)
  show wpAny _ _ (if ((1:Int)==0)=true then _ else _) _ _ s
  rw [if_neg (by decide)]
  refine wpAny_bind (Ds pl (wpAny_bind (Ds pu (wpAny_bind (wpAny_pure ?_)))))
  show wpAny _ _ (match Builtin.Slice.sliceAdjust lo hi 1 (n:Int) with | (lo,hi)=>pure (lo,(1:Int),Builtin.Slice.slicePlaces lo hi 1)) _ _ s
  rw [V5 lo hi n]
  show wpAny _ _ (pure (((sIx n 0 lo:Nat):Int),(1:Int),Builtin.Slice.slicePlaces ((sIx n 0 lo:Nat):Int) ((sIx n n hi:Nat):Int) 1)) _ _ s
  rw [Vl]
  exact wpAny_pure h
theorem a0d (xs:Array Value) (i k:Nat):((List.range k).filterMap fun (m:Nat)=>xs[((i:Int)+(m:Int) * 1).toNat]?).toArray=((xs.toList.drop i).take k).toArray:=by
  have e:(fun (m:Nat)=>xs[((i:Int)+(m:Int) * 1).toNat]?)=fun m=>xs[i+m]?:=by
    funext m
    have:((i:Int)+(m:Int) * 1).toNat=i+m:=by omega
    rw [this]
  rw [e]
  have:=pick_run xs i k
  rw [List.filterMap_map] at this
  have e2:((fun x=>xs[x]?) ∘ fun x=>i+x)=fun m=>xs[i+m]?:=rfl
  rw [e2] at this
  rw [this]
theorem Hf {t sl:Addr} {items:Array Value} {vl vu:Value} {lo hi:Option Int} {Q:Value→Shared→Prop} (ht:IsTup s.heap t items) (hs:s.heap.IsSliceOf sl vl vu .none) (pl:IsPart vl lo) (pu:IsPart vu hi)
    (hw:¬ (sIx items.size 0 lo=0∧sIx items.size items.size hi=items.size))
    (h:Q (.ref s.heap.objs.size) { s with heap:=s.heap.push { cls:=.type "tuple",data:=.seq ((items.toList.drop (sIx items.size 0 lo)).take (sIx items.size items.size hi - sIx items.size 0 lo)).toArray } })
    (hsz:items.size≤sizeLine):wpAny (model prog w) A (getItem (.ref t) (.ref sl)) Q E s:=by
  have htake:sizeOk (.seq ((items.toList.drop (sIx items.size 0 lo)).take (sIx items.size items.size hi - sIx items.size 0 lo)).toArray):=by
    show ((items.toList.drop (sIx items.size 0 lo)).take (sIx items.size items.size hi - sIx items.size 0 lo)).toArray.size≤sizeLine
    rw [List.size_toArray,List.length_take,List.length_drop,Array.length_toList]
    omega
  have hj:sIx items.size items.size hi≤items.size:=a6l _ _ (Nat.le_refl _) hi
  obtain ⟨os,hos,hcs,hds⟩:=id hs
  have hTs:s.TypeIs (.ref sl) "slice" := ⟨os,hos,hcs⟩
  unfold getItem
  try with_reducible refine wpAny_holding ?_
  first | refine wpAny_bind (wpAny_pure ?_) | skip
  refine wpAny_bind (wpAny_sequenceKey ht.typeIs (by decide) ?_)
  refine wpAny_bind (wpAny_callSpecial?_slot (name:=Str.ofString "__getitem__") ht.typeIs PyProof.Rows.slot_tuple_getitem
    (wpAny_call_entry PyProof.Rows.slot_tuple_getitem ht.typeIs entry_tuple_getitem ?_ (args_tuple_getitem _ _)))
  show wpAny _ _ (Builtin.Tuple.tupleItemsOf (.ref t) >>= _) _ _ s
  refine wpAny_bind (tupleItemsOf_ ht ?_)
  refine wpAny_bind (wpAny_typeOf hTs ?_)
  rw [if_pos (by decide)]
  refine wpAny_bind (Ie hs pl pu ?_)
  have hno:¬ ((((sIx items.size 0 lo:Nat):Int)==0&&(1:Int)==1&&(sIx items.size items.size hi - sIx items.size 0 lo)==items.size)=true):=by
    intro q
    rw [Bool.and_eq_true,Bool.and_eq_true] at q
    have q1:((sIx items.size 0 lo:Nat):Int)=0:=eq_of_beq q.1.1
    have q2:sIx items.size items.size hi - sIx items.size 0 lo=items.size:=eq_of_beq q.2
    exact hw ⟨by omega,by omega⟩
  show wpAny _ _ (if (((sIx items.size 0 lo:Nat):Int)==0&&(1:Int)==1&&(sIx items.size items.size hi - sIx items.size 0 lo)==items.size)=true then _ else _) _ _ s
  rw [if_neg hno,a0d]
  first
    | exact wpAny_bind (m:=Builtin.Tuple.tupleExact _) (wpAny_newObj_type (wpAny_pure ⟨_,rfl,wpAny_pure h⟩) htake)
    | exact wpAny_bind (m:=Builtin.Tuple.tupleExact _) (wpAny_newObj_type (wpAny_bind (wpAny_pure (wpAny_pure ⟨_,rfl,wpAny_pure h⟩))) htake)
    | exact wpAny_bind (wpAny_bind (m:=Builtin.Tuple.tupleExact _) (wpAny_newObj_type (wpAny_pure (wpAny_pure ⟨_,rfl,wpAny_pure h⟩)) htake))
    | exact wpAny_bind (wpAny_bind (m:=Builtin.Tuple.tupleExact _) (wpAny_newObj_type (wpAny_pure ⟨_,rfl,wpAny_pure h⟩) htake))
end
end HT
namespace L2
open PySem PySem.Spec PyProof.Rows
noncomputable abbrev TO:=St→Hp→(Option Int→Hp→Prop)→Prop
noncomputable def PO (X:Cx) (e:Option Expr) (t:TO):Prop :=
  ∀ (pins:List (Addr × Obj)) (s:Shared) (σ:St) (H:Hp) (Q:Option Int→Hp→Prop),Inv X pins σ H s→t σ H Q →
    wpAny (model X.prog X.w) X.A (evalPart e X.env) (fun u s'=>∃ o H',Inv X pins σ H' s'∧IsPart u o∧Q o H') X.xe s
noncomputable def a4o:TO:=fun _ H Q=>Q none H
noncomputable def a8d (t:TE):TO:=fun σ H Q=>t σ H fun x H1=>∃ i,x=.int i∧Q (some i) H1
noncomputable section
variable {X:Cx} {e:Expr} {te:TE} {lo hi:Option Expr} {tl th:TO} {pos p2:Pos}
theorem a3g:PO X none a4o:=by
  intro pins s σ H Q I h
  rw [evalPart_none]
  exact wpAny_pure ⟨none,H,I,.none,h⟩
theorem a4b (h:PE X e te):PO X (some e) (a8d te):=by
  intro pins s σ H Q I hw
  rw [evalPart_some]
  refine thn (h pins s σ H _ I hw) fun u s1 z0=>?_
  obtain ⟨x,H1,I1,r1,q1⟩:=z0
  obtain ⟨i,rfl,q⟩:=q1
  obtain ⟨t,rfl⟩:=r1
  exact ⟨some i,H1,I1,.int i t,q⟩
noncomputable def SlR (X:Cx) (r:V→Option Int→Option Int→Hp→VK→Prop):Prop :=
  ∀ (pins:List (Addr × Obj)) (s:Shared) (σ:St) (H:Hp) (x:V) (v vl vu:Value) (lo hi:Option Int) (sl:Addr) (Q:VK),Inv X pins σ H s→RelV x v→s.heap.IsSliceOf sl vl vu .none→IsPart vl lo→IsPart vu hi→r x lo hi H Q →
    ∃ T id,typeLookup (.type T) "__getitem__" = pure (some (.builtin id))∧s.TypeIs v T∧wpAny (model X.prog X.w) X.A (getItem v (.ref sl)) (EP X pins σ Q) X.xe s
theorem SlR.or {r r':V→Option Int→Option Int→Hp→VK→Prop} (h:SlR X r) (h':SlR X r'):SlR X (fun x lo hi H Q=>r x lo hi H Q∨r' x lo hi H Q):=by
  intro pins s σ H x v vl vu lo hi sl Q I rx hs pl pu q
  rcases q with q | q
  · exact h pins s σ H x v vl vu lo hi sl Q I rx hs pl pu q
  · exact h' pins s σ H x v vl vu lo hi sl Q I rx hs pl pu q
noncomputable def tSl (r:V→Option Int→Option Int→Hp→VK→Prop) (te:TE) (tl th:TO):TE:=fun σ H Q=>te σ H fun x H1=>tl σ H1 fun l H2=>th σ H2 fun u H3=>r x l u H3 Q
theorem a03 {r:V→Option Int→Option Int→Hp→VK→Prop} (hr:SlR X r) (he:PE X e te) (hl:PO X lo tl) (hu:PO X hi th):PE X (.Subscript e (.Slice lo hi none p2) pos) (tSl r te tl th):=by
  intro pins s σ H Q I h
  refine Subscript_ (thn (he pins s σ H _ I h) fun v s1 z0=>?_)
  obtain ⟨x,H1,I1,r1,q1⟩:=z0
  refine wpAny_Slice (thn (hl pins s1 σ H1 _ I1 q1) fun vl s2 ⟨l,H2,I2,pl,q2⟩=>thn (hu pins s2 σ H2 _ I2 q2) fun vu s3 ⟨u,H3,I3,pu,q3⟩=>?_)
  rw [evalPart_none]
  refine wpAny_pure ?_
  have I4:Inv X pins σ H3 { s3 with heap:=s3.heap.push { cls:=.type "slice",data:=.fields #[vl,vu,.none] } }:=I3.kept (t':=s3.toks) fun b ob q=>Heap.get?_push_of_some _ q
  obtain ⟨T,id,hT,ht,hg⟩:=hr pins { s3 with heap:=s3.heap.push { cls:=.type "slice",data:=.fields #[vl,vu,.none] } } σ H3 x v vl vu l u s3.heap.objs.size Q I4 r1 (Heap.IsSliceOf.new ..) pl pu q3
  show wpAny (model X.prog X.w) X.A (subscriptTail e (.Slice lo hi none p2) v (.ref s3.heap.objs.size)) (EP X pins σ Q) X.xe { s3 with heap:=s3.heap.push { cls:=.type "slice",data:=.fields #[vl,vu,.none] } }
  exact tail_any (ops:=[.ref s3.heap.objs.size,v]) ht hT hg (by with_unfolding_all rfl)
noncomputable def Vw (xs:List V) (lo hi:Option Int):List V:=(xs.drop (HT.sIx xs.length 0 lo)).take (HT.sIx xs.length xs.length hi - HT.sIx xs.length 0 lo)
theorem J4 (xs:List V) (lo hi:Option Int):(Vw xs lo hi).length≤xs.length:=by
  unfold Vw
  rw [List.length_take,List.length_drop]
  omega
noncomputable def a9v (K:PySem.W.Frag):V→Option Int→Option Int→Hp→VK→Prop:=fun x lo hi H Q=>∃ a xs,x=.ref a∧SqT K H a xs ∧
  ¬ (HT.sIx xs.length 0 lo=0∧HT.sIx xs.length xs.length hi=xs.length)∧∀ p,H p=none→Q (.ref p) (upd H p (.tup (Vw xs lo hi)))
theorem a6g:SlR X (a9v X.K):=by
  intro pins s σ H x v vl vu lo hi sl Q I rx hs pl pu h
  obtain ⟨a,xs,rfl,hx,hw,q⟩:=h
  cases rx
  obtain ⟨its,r,ht,hz⟩:=I.tuple hx
  have hlen:its.toArray.size=xs.length:=by rw [List.size_toArray]; exact r.length.symm
  refine ⟨"tuple",_,PyProof.Rows.slot_tuple_getitem.lookup,ht.typeIs,?_⟩
  refine HT.Hf ht hs pl pu (by rw [hlen]; exact hw) ?_ (by rw [hlen]; exact hz)
  rw [hlen]
  refine ⟨.ref s.heap.objs.size,_,I.laid (t':=s.toks) (o:=.tup (Vw xs lo hi)) (fun b ob q=>Heap.get?_push_of_some _ q) (Nat.le_refl _) ?_,rfl,q _ (I.hok.fresh (Nat.le_refl _))⟩
  exact ⟨Nat.le_trans (J4 xs lo hi) hz,_,(r.drop (HT.sIx xs.length 0 lo)).take (HT.sIx xs.length xs.length hi - HT.sIx xs.length 0 lo),Yx.new _ _⟩
noncomputable def a8e (K:PySem.W.Frag):R2:=fun x y H Q=>∃ a b xs ys,x=.ref a∧y=.ref b∧SqT K H a xs∧SqT K H b ys∧xs≠[]∧xs.length+ys.length≤sizeLine ∧
  (ys=[]→Q (.ref a) H)∧(ys≠[]→∀ p,H p=none→Q (.ref p) (upd H p (.tup (xs++ys))))
theorem Vals.S9 {xs:List V} {us:List Value} (r:Vals xs us):us=[]↔xs=[]:=by
  cases r with
  | nil=>simp
  | cons _ _=>simp
theorem a3c:OpR X (binaryOp .Add) (a8e X.K):=by
  intro pins s σ H x y v u Q I rx ry h
  obtain ⟨a,b,xs,ys,rfl,rfl,ha,hb,hx,hz,q1,q2⟩:=h
  cases rx
  cases ry
  obtain ⟨its,r1,p1,_⟩:=I.tuple ha
  obtain ⟨its2,r2,p2,_⟩:=I.tuple hb
  refine HT.a4c p1 p2 (fun z=>hx (r1.S9.mp z)) (fun z=>⟨.ref a,H,I,rfl,q1 (r2.S9.mp z)⟩) (fun z=>?_) (by rw [← r1.length,← r2.length]; exact hz)
  refine ⟨.ref s.heap.objs.size,_,I.laid (t':=s.toks) (o:=.tup (xs++ys)) (fun b ob q=>Heap.get?_push_of_some _ q) (Nat.le_refl _) ?_,rfl,q2 (fun w=>z (r2.S9.mpr w)) _ (I.hok.fresh (Nat.le_refl _))⟩
  exact ⟨by rw [List.length_append]; exact hz,_,r1.append r2,Yx.new _ _⟩
end
end L2
namespace L2
open PySem PySem.Spec PyProof.Rows
noncomputable def ixN (n:Nat) (i:Int):Option Nat:=if 0≤i then (if i<n then some i.toNat else none) else if -(n:Int)≤i then some (i+n).toNat else none
noncomputable def atI {α:Type} (xs:List α) (i:Int):Option α:=(ixN xs.length i).bind fun j=>xs[j]?
theorem a3a {n:Nat} {i:Int} {j:Nat} (h:ixN n i=some j):seqIndex? i n=some j∧j<n∧-(n:Int)≤i∧i<n:=by
  unfold ixN at h
  by_cases h0:0≤i
  · rw [if_pos h0] at h
    by_cases h1:i<n
    · rw [if_pos h1] at h
      have e:i.toNat=j:=Option.some.inj h
      exact ⟨by rw [seqIndex_of h0 h1,e],by omega,by omega,h1⟩
    · rw [if_neg h1] at h; cases h
  · rw [if_neg h0] at h
    by_cases h1:-(n:Int)≤i
    · rw [if_pos h1] at h
      have e:(i+n).toNat=j:=Option.some.inj h
      exact ⟨by rw [seqIndex_neg (by omega) h1,e],by omega,h1,by omega⟩
    · rw [if_neg h1] at h; cases h
theorem Qa {α:Type} {xs:List α} {i:Int} {v:α} (h:atI xs i=some v):∃ j,seqIndex? i xs.length=some j∧xs[j]? = some v∧j<xs.length∧-(xs.length:Int)≤i∧i<xs.length:=by
  unfold atI at h
  cases e:ixN xs.length i with
  | none=>rw [e] at h; cases h
  | some j =>
    rw [e] at h
    obtain ⟨h1,h2,h3,h4⟩:=a3a e
    exact ⟨j,h1,h,h2,h3,h4⟩
noncomputable def Xr (b:Expr):Prop:=∀ o i,subscripted b false o i=operate [o,i] (getItem o i)
noncomputable def IxR (X:Cx) (r:R2):Prop :=
  ∀ (value slice:Expr) (pins:List (Addr × Obj)) (s:Shared) (σ:St) (H:Hp) (x y:V) (v u:Value) (Q:VK),Inv X pins σ H s→RelV x v→RelV y u→r x y H Q →
    subscripted slice false v u=operate [v,u] (getItem v u)→wpAny (model X.prog X.w) X.A (subscriptTail value slice v u) (EP X pins σ Q) X.xe s
noncomputable def MtR (X:Cx) (id:String) (r:V→List V→Hp→VK→Prop):Prop :=
  ∀ (pins:List (Addr × Obj)) (s:Shared) (σ:St) (H:Hp) (x:V) (xs:List V) (v:Value) (us:List Value) (Q:VK),Inv X pins σ H s→RelV x v→Vals xs us→r x xs H Q →
    wpAny (model X.prog X.w) X.A (call (.builtin id) (v::us)) (EP X pins σ Q) X.xe s
noncomputable section
variable {X:Cx} {a b:Expr} {ta tb:TE} {pos:Pos}
theorem IxR.or {r r':R2} (h:IxR X r) (h':IxR X r'):IxR X (fun x y H Q=>r x y H Q∨r' x y H Q):=by
  intro value slice pins s σ H x y v u Q I rx ry q hs
  rcases q with q | q
  · exact h value slice pins s σ H x y v u Q I rx ry q hs
  · exact h' value slice pins s σ H x y v u Q I rx ry q hs
theorem MtR.or {id:String} {r r':V→List V→Hp→VK→Prop} (h:MtR X id r) (h':MtR X id r'):MtR X id (fun x xs H Q=>r x xs H Q∨r' x xs H Q):=by
  intro pins s σ H x xs v us Q I rx rs q
  rcases q with q | q
  · exact h pins s σ H x xs v us Q I rx rs q
  · exact h' pins s σ H x xs v us Q I rx rs q
theorem a8h {r:R2} (hr:IxR X r) (ha:PE X a ta) (hb:PE X b tb) (hs:Xr b):PE X (.Subscript a b pos) (tOp r ta tb):=by
  intro pins s σ H Q I h
  exact Subscript_ (a8z ha hb I h fun v u s2 x y H2 I2 rx ry q=>hr a b pins s2 σ H2 x y v u Q I2 rx ry q (hs _ _))
noncomputable def a9s (K:PySem.W.Frag):R2:=fun x y H Q=>∃ p xs i v,x=.ref p∧y=.int i∧SqL K H p xs∧atI xs i=some v∧Q v H
noncomputable def a9f (K:PySem.W.Frag):R2:=fun x y H Q=>∃ p xs i v,x=.ref p∧y=.int i∧SqT K H p xs∧atI xs i=some v∧Q v H
noncomputable def a9g:R2:=fun x y H Q=>∃ z i c,x=.str z∧y=.int i∧z.length≤sizeLine∧atI z.cps.toList i=some c∧Q (.str ⟨#[c]⟩) H
theorem a3i:IxR X (a9s X.K):=by
  intro value slice pins s σ H x y v u Q I rx ry h hs
  obtain ⟨p,xs,i,z,rfl,rfl,hq,he,q⟩:=h
  cases rx
  obtain ⟨t,rfl⟩:=ry
  obtain ⟨its,r,pl,hz⟩:=I.list hq
  obtain ⟨j,h1,h2,h3,h4,h5⟩:=Qa he
  obtain ⟨w,ew,rw'⟩:=r.get h2
  have hl:=r.length
  have hn:=Nz
  have fin:EP X pins σ Q w s:=⟨z,H,I,rw',q⟩
  by_cases h0:0≤i
  · have hj:i.toNat=j:=by
      rw [seqIndex_of h0 h5] at h1
      exact Option.some.inj h1
    exact item_listR pl.isList h0 (by omega) (by rw [hj]; simpa using ew) fin hs
  · have hj:(i+(its.toArray.size:Int)).toNat=j:=by
      rw [seqIndex_neg (by omega) h4] at h1
      rw [List.size_toArray,← hl]
      exact Option.some.inj h1
    exact subscriptTail_builtinR (x:=w) pl.isList.typeIs slot_list_getitem.lookup
      (wpAny_getItem_list_neg (Q:=fun r s'=>r=w∧EP X pins σ Q r s') pl.isList (by omega) (by rw [List.size_toArray] <;> omega) (by omega) (by rw [hj]; simpa using ew) ⟨rfl,fin⟩) hs
theorem a6x:IxR X (a9f X.K):=by
  intro value slice pins s σ H x y v u Q I rx ry h hs
  obtain ⟨p,xs,i,z,rfl,rfl,hq,he,q⟩:=h
  cases rx
  obtain ⟨t,rfl⟩:=ry
  obtain ⟨its,r,pl,hz⟩:=I.tuple hq
  obtain ⟨j,h1,h2,h3,h4,h5⟩:=Qa he
  obtain ⟨w,ew,rw'⟩:=r.get h2
  have hl:=r.length
  have hn:=Nz
  have fin:EP X pins σ Q w s:=⟨z,H,I,rw',q⟩
  exact subscriptTail_builtinR (x:=w) pl.typeIs slot_tuple_getitem.lookup
    (getItem_tuple (j:=j) (Q:=fun r s'=>r=w∧EP X pins σ Q r s') pl (by omega) (by omega) (by rw [List.size_toArray,← hl]; exact h1) (by simpa using ew) ⟨rfl,fin⟩) hs
theorem a6o:IxR X a9g:=by
  intro value slice pins s σ H x y v u Q I rx ry h hs
  obtain ⟨z,i,c,rfl,rfl,hz,he,q⟩:=h
  obtain ⟨t,rfl⟩:=rx
  obtain ⟨t',rfl⟩:=ry
  obtain ⟨j,h1,h2,h3,h4,h5⟩:=Qa he
  have hl:z.cps.toList.length=z.length:=by simp [Str.length]
  rw [hl] at h1 h4 h5
  have hn:=Nz
  exact tail_any (typeIs_str s z t) slot_str_getitem.lookup (getItem_str (c:=c) (by
    have e1:decide (i < -(2 ^ 63:Int))=false:=decide_eq_false (by omega)
    have e2:decide (i ≥ 2 ^ 63)=false:=decide_eq_false (by omega)
    rw [e1,e2,Bool.or_false]) (by rw [h1]; simpa using h2) ⟨.str ⟨#[c]⟩,H,I.tok _,⟨_,rfl⟩,q⟩) hs
theorem Inv.lst {pins:List (Addr × Obj)} {σ:St} {H:Hp} {s:Shared} {p:Addr} {xs:List V} (I:Inv X pins σ H s) (h:H p=some (.lst xs)) :
    ∃ (its:List Value) (n:Nat),Vals xs its∧s.heap.get? p=some { cls:=.type "list",data:=.seq its.toArray n }∧xs.length≤sizeLine:=by
  obtain ⟨z,its,n,r,e⟩:=I.hok p _ h
  exact ⟨its,n,r,e,z⟩
theorem Oc (lo hi:Option Int) (n:Nat):(sliceBounds lo hi none n).1=((HT.sIx n 0 lo:Nat):Int)∧(sliceBounds lo hi none n).2.1=((HT.sIx n n hi:Nat):Int)∧(sliceBounds lo hi none n).2.2=1:=by
  refine ⟨?_,?_,rfl⟩
  · cases lo with
    | none=>simp [sliceBounds,HT.sIx]
    | some i =>
      simp only [sliceBounds,HT.sIx,Option.getD_none,show (1:Int) > 0 by decide,if_true]
      by_cases h:i<0
      · simp only [h,if_true] <;> omega
      · simp only [h,if_false] <;> omega
  · cases hi with
    | none=>simp [sliceBounds,HT.sIx]
    | some i =>
      simp only [sliceBounds,HT.sIx,Option.getD_none,show (1:Int) > 0 by decide,if_true]
      by_cases h:i<0
      · simp only [h,if_true] <;> omega
      · simp only [h,if_false] <;> omega
theorem Ly (its:List Value) (lo hi:Option Int):slicePick its.toArray lo hi none=((its.drop (HT.sIx its.length 0 lo)).take (HT.sIx its.length its.length hi - HT.sIx its.length 0 lo)).toArray:=by
  obtain ⟨h1,h2,h3⟩:=Oc lo hi its.toArray.size
  unfold slicePick
  rw [h1,h2,h3]
  simp only [sliceRange_one,pick_run,List.size_toArray] <;> rfl
noncomputable def a9m (K:PySem.W.Frag):V→Option Int→Option Int→Hp→VK→Prop:=fun x lo hi H Q=>∃ a xs,x=.ref a∧SqL K H a xs∧∀ p,H p=none→Q (.ref p) (upd H p (.lst (Vw xs lo hi)))
theorem a2q:SlR X (a9m X.K):=by
  intro pins s σ H x v vl vu lo hi sl Q I rx hs pl pu h
  obtain ⟨a,xs,rfl,hx,q⟩:=h
  cases rx
  obtain ⟨its,r,ht,hz⟩:=I.list hx
  have hlen:=r.length
  refine ⟨"list",_,slot_list_getitem.lookup,ht.isList.typeIs,?_⟩
  refine wpAny_getItem_list_slice ht.isList hs pl pu .none (by simp) ?_ (by rw [List.size_toArray] <;> omega)
  rw [Ly,← hlen]
  refine ⟨.ref s.heap.objs.size,_,I.laid (t':=s.toks) (o:=.lst (Vw xs lo hi)) (fun b ob q=>Heap.get?_push_of_some _ q) (Nat.le_refl _) ?_,rfl,q _ (I.hok.fresh (Nat.le_refl _))⟩
  exact ⟨Nat.le_trans (J4 xs lo hi) hz,_,0,(r.drop (HT.sIx xs.length 0 lo)).take (HT.sIx xs.length xs.length hi - HT.sIx xs.length 0 lo),Heap.get?_push_size _ rfl⟩
theorem Es:Em X (.builtin "len") (fun xs H Q=>∃ p ys,xs=[.ref p]∧(SqL X.K H p ys∨SqT X.K H p ys)∧Q (.int ys.length) H):=by
  intro pins s σ H xs us Q I r h
  obtain ⟨p,ys,rfl,hq,q⟩:=h
  obtain ⟨u,rfl,rx⟩:=vals1 r
  cases rx
  have hn:=Nz
  rcases hq with hq | hq
  · obtain ⟨its,r',pl,hz⟩:=I.list hq
    have hlen:=r'.length
    exact Calls.call_len_list pl.isList (by simp only [List.size_toArray] <;> omega) ⟨.int ys.length,H,I.tok _,⟨s.toks+1,by rw [List.size_toArray,hlen]⟩,q⟩
  · obtain ⟨its,r',pl,hz⟩:=I.tuple hq
    have hlen:=r'.length
    exact len_tuple pl (by simp only [List.size_toArray] <;> omega) ⟨.int ys.length,H,I.tok _,⟨s.toks+1,by rw [List.size_toArray,hlen]⟩,q⟩
theorem Ny:Em X (.builtin "len") (fun xs H Q=>∃ z,xs=[.str z]∧z.length≤sizeLine∧Q (.int z.length) H):=by
  intro pins s σ H xs us Q I r h
  obtain ⟨z,rfl,hz,q⟩:=h
  obtain ⟨u,rfl,t,rfl⟩:=vals1 r
  have hn:=Nz
  exact len_str (by omega) ⟨.int z.length,H,I.tok _,⟨_,rfl⟩,q⟩
theorem Em.or {f:Value} {r r':List V→Hp→VK→Prop} (h:Em X f r) (h':Em X f r'):Em X f (fun xs H Q=>r xs H Q∨r' xs H Q):=by
  intro pins s σ H xs us Q I rs q
  rcases q with q | q
  · exact h pins s σ H xs us Q I rs q
  · exact h' pins s σ H xs us Q I rs q
theorem Fi:Em X (.type "list") (fun xs H Q=>∃ p ys,xs=[.ref p]∧(SqL X.K H p ys∨SqT X.K H p ys)∧∀ l,H l=none→Q (.ref l) (upd H l (.lst ys))):=by
  intro pins s σ H xs us Q I r h
  obtain ⟨p,ys,rfl,hq,q⟩:=h
  obtain ⟨u,rfl,rx⟩:=vals1 r
  cases rx
  have fin:∀ (its:List Value),Vals ys its→ys.length≤sizeLine→∀ (h':Heap) (c':Nat),(∀ b o',s.heap.get? b=some o'→h'.get? b=some o') →
      h'.get? s.heap.objs.size=some { cls:=.type "list",dict:=none,data:=.seq its.toArray c',slots:=#[] }→EP X pins σ Q (.ref s.heap.objs.size) { s with heap:=h' }:=fun its r' hz h' c' kp e =>
    ⟨.ref s.heap.objs.size,_,I.laid (t':=s.toks) kp (Nat.le_refl _) (show Bh X.prog X.w _ h' _ (.lst ys) from ⟨hz,its,c',r',e⟩),rfl,q _ (I.hok.fresh (Nat.le_refl _))⟩
  rcases hq with hq | hq
  · obtain ⟨its,r',pl,hz⟩:=I.list hq
    have hlen:=r'.length
    obtain ⟨o,ho,hc,n,hd⟩:=pl.isList
    exact call_list_seq p (.inl rfl) ho hc hd (fun h' c' kp e=>fin its r' hz h' c' kp e) (by simp only [List.size_toArray] <;> omega)
  · obtain ⟨its,r',pl,hz⟩:=I.tuple hq
    have hlen:=r'.length
    obtain ⟨o,ho,hc,n,hd⟩:=pl
    exact call_list_seq p (.inr rfl) ho hc hd (fun h' c' kp e=>fin its r' hz h' c' kp e) (by simp only [List.size_toArray] <;> omega)
theorem Gs:Em X (.type "tuple") (fun xs H Q=>∃ p ys,xs=[.ref p]∧((SqL X.K H p ys∧∀ l,H l=none→Q (.ref l) (upd H l (.tup ys)))∨(SqT X.K H p ys∧Q (.ref p) H))):=by
  intro pins s σ H xs us Q I r h
  obtain ⟨p,ys,rfl,h⟩:=h
  obtain ⟨u,rfl,rx⟩:=vals1 r
  cases rx
  rcases h with ⟨hq,q⟩ | ⟨hq,q⟩
  · obtain ⟨its,r',pl,hz⟩:=I.list hq
    have hlen:=r'.length
    refine call_tuple_list pl.isList (fun h' kp=>?_) (by simp only [List.size_toArray] <;> omega)
    have I1:Inv X pins σ H { s with heap:=h' }:=I.kept (t':=s.toks) kp
    have I2:Inv X pins σ (upd H h'.objs.size (.tup ys)) { s with heap:=h'.push { cls:=.type "tuple",data:=.seq its.toArray } } :=
      I1.laid (t':=s.toks) (fun b o e=>Heap.get?_push_of_some _ e) (Nat.le_refl _) (show Bh X.prog X.w _ _ _ (.tup ys) from ⟨hz,its,r',Yx.new _ _⟩)
    exact ⟨.ref h'.objs.size,_,I2,rfl,q _ (I1.hok.fresh (Nat.le_refl _))⟩
  · obtain ⟨its,r',pl,hz⟩:=I.tuple hq
    exact call_tuple_same pl ⟨.ref p,H,I,rfl,q⟩
noncomputable def tyV (K:PySem.W.Frag) (T:String) (x:V) (H:Hp):Prop:=match x with
  | .str _=>T = "str"
  | .int _=>T = "int"
  | .ref p=>(T = "list" ∧ ∃ xs,SqL K H p xs)∨(T = "tuple" ∧ ∃ o,K.lookup p=some o∧o.cls=.type "tuple" ∧ o.dict=none) ∨
      (T = "dict" ∧ ((∃ kvs,H p=some (.dK kvs))∨∃ kvs,H p=some (.dT kvs)))∨(T = "set" ∧ ∃ S n,H p=some (.set S n))
  | _=>False
theorem a1j {pins:List (Addr × Obj)} {σ:St} {H:Hp} {s:Shared} {T:String} {x:V} {v:Value} (I:Inv X pins σ H s) (r:RelV x v) (ty:tyV X.K T x H) :
    s.TypeIs v T∧∀ a,v=.ref a→∃ ob,s.heap.get? a=some ob∧ob.dict=none:=by
  cases x with
  | str z =>
    obtain ⟨t,rfl⟩:=r
    cases (show T = "str" from ty)
    exact ⟨typeIs_str s z t,fun _ e=>nomatch e⟩
  | int i =>
    obtain ⟨t,rfl⟩:=r
    cases (show T = "int" from ty)
    exact ⟨typeIs_int s i t,fun _ e=>nomatch e⟩
  | ref p =>
    cases r
    rcases ty with ⟨rfl,xs,hq⟩ | ⟨rfl,o,hk,hc,hd⟩ | ⟨rfl,hk⟩ | ⟨rfl,S,n,hk⟩
    · obtain ⟨its,_,pl,_⟩:=I.list hq
      refine ⟨pl.isList.typeIs,fun a e=>?_⟩
      cases e
      obtain ⟨o,n,e,c,hd,_⟩:=pl
      exact ⟨o,e,hd⟩
    · refine ⟨⟨o,I.kIn p o hk,hc⟩,fun a e=>?_⟩
      cases e
      exact ⟨o,I.kIn _ o hk,hd⟩
    · have z:∃ o,s.heap.get? p=some o∧o.ExactDict:=by
        rcases hk with ⟨kvs,hk⟩ | ⟨kvs,hk⟩
        · obtain ⟨_,_,_,_,o,_,_,e,ex,_⟩:=I.hok p _ hk
          exact ⟨o,e,ex⟩
        · obtain ⟨_,_,_,_,o,_,_,e,ex,_⟩:=I.hok p _ hk
          exact ⟨o,e,ex⟩
      obtain ⟨o,e,ex⟩:=z
      refine ⟨⟨o,e,ex.1⟩,fun a e2=>?_⟩
      cases e2
      exact ⟨o,e,ex.2.1⟩
    · obtain ⟨o,_,_,_,e,ex,_⟩:=I.hok p _ hk
      refine ⟨⟨o,e,ex.1⟩,fun a e2=>?_⟩
      cases e2
      exact ⟨o,e,ex.2.1⟩
  | _=>exact False.elim ty
noncomputable def a9a (K:PySem.W.Frag) (T:String) (r:V→List V→Hp→VK→Prop) (to:TE):TE:=fun σ H Q=>to σ H fun x H1=>tyV K T x H1∧r x [] H1 Q
noncomputable def tBM (K:PySem.W.Frag) (T:String) (r:V→List V→Hp→VK→Prop) (to:TE) (t:TA):TE:=fun σ H Q=>to σ H fun x H1=>tyV K T x H1∧t σ H1 fun xs H2=>r x xs H2 Q
variable {o e:Expr} {es:List Expr} {to:TE} {t:TA} {name:Str} {apos cpos:Pos} {T id:String} {r:V→List V→Hp→VK→Prop}
theorem a1h (pa:PlainAttrs T) (slot:Slot T name id) (hty:typeOf (.builtin id)=pure (.type "method_descriptor")) (hm:MtR X id r) (ho:PE X o to)
    (hbase:attributeBase o name X.env (eval o X.env)=eval o X.env:=by rfl) (hline:(apos.endLine==cpos.line)=true:=by rfl):PE X (.Call (.Attribute o name apos) [] [] cpos) (a9a X.K T r to):=by
  intro pins s σ H Q I h
  refine wpAny_Call_method0_late hbase hline (thn (ho pins s σ H _ I h) fun v s1 z0=>?_)
  obtain ⟨x,H1,I1,r1,ty,q1⟩:=z0
  obtain ⟨h1,h2⟩:=a1j I1 r1 ty
  exact ⟨T,id,pa,slot,hty,h1,h2,Calls.callWith_builtin rfl (PySem.evalArgs_none (hm pins s1 σ H1 x [] v [] Q I1 r1 .nil q1))⟩
theorem Dl (pa:PlainAttrs T) (slot:Slot T name id) (hty:typeOf (.builtin id)=pure (.type "method_descriptor")) (hm:MtR X id r) (ho:PE X o to) (ha:PA X (e::es) t)
    (hbase:attributeBase o name X.env (eval o X.env)=eval o X.env:=by rfl)
    (hfew:((backTo cpos (starEach (e::es) X.env)).all (fun x=>!x.1)&&(backToKw cpos (keywordEach [] X.env)).all (fun x=>x.1.isSome)
      && decide ((e::es).length+([]:List Keyword).length+(if ([]:List Keyword).isEmpty then 0 else 1)<30))=true:=by rfl)
    (hline:(apos.endLine==cpos.line)=true:=by rfl) (hs:starEach (e::es) X.env=(false,eval e X.env)::starEach es X.env:=by rfl) (hplain:(backTo cpos (starEach es X.env)).any (·.1)=false:=by rfl) :
    PE X (.Call (.Attribute o name apos) (e::es) [] cpos) (tBM X.K T r to t):=by
  intro pins s σ H Q I h
  refine wpAny_Call_method_late hbase hfew hline rfl (thn (ho pins s σ H _ I h) fun v s1 z0=>?_)
  obtain ⟨x,H1,I1,r1,ty,q1⟩:=z0
  obtain ⟨h1,h2⟩:=a1j I1 r1 ty
  refine ⟨T,id,pa,slot,hty,h1,h2,?_⟩
  have hA:=ha cpos pins s1 σ H1 _ I1 q1
  rw [hs] at hA ⊢
  refine Calls.callWith_builtin (by show (false||(backTo cpos (starEach es X.env)).any (·.1))=false; rw [hplain] <;> rfl) (Calls.evalArgs_plain ?_)
  exact thn hA fun us s2 ⟨vs,H2,I2,r2,q2⟩=>hm pins s2 σ H2 x vs v us Q I2 r1 r2 q2
end
end L2
namespace L2
open PySem PySem.Spec PyProof.Rows
noncomputable def MtM (X:Cx) (id:String) (r:V→List V→Hp→VK→Prop):Prop :=
  ∀ (pins:List (Addr × Obj)) (s:Shared) (σ:St) (H:Hp) (x:V) (xs:List V) (v:Value) (us:List Value) (Q:VK),Inv X pins σ H s→RelV x v→Vals xs us→r x xs H Q →
    wpAny (model X.prog X.w) X.A (call (.builtin id) (v::us)) (EP X pins σ Q) X.xe s
theorem Vals.one:∀ {x:V} {us:List Value},Vals [x] us→∃ u,us=[u]∧RelV x u
  | _,_,.cons r .nil=>⟨_,rfl,r⟩
theorem Vals.two:∀ {x y:V} {us:List Value},Vals [x,y] us→∃ u v,us=[u,v]∧RelV x u∧RelV y v
  | _,_,_,.cons r (.cons q .nil)=>⟨_,_,rfl,r,q⟩
theorem Vals.zero:∀ {us:List Value},Vals [] us→us=[]
  | _,.nil=>rfl
theorem Vals.dropLast {xs:List V} {us:List Value} (h:Vals xs us):Vals xs.dropLast us.dropLast:=by
  induction h with
  | nil=>exact .nil
  | cons r t ih =>
    cases t with
    | nil=>exact .nil
    | cons q t'=>exact .cons r ih
theorem Vals.reverse {xs:List V} {us:List Value} (h:Vals xs us):Vals xs.reverse us.reverse:=by
  induction h with
  | nil=>exact .nil
  | cons r t ih=>rw [List.reverse_cons,List.reverse_cons]; exact Vals.append ih (.cons r .nil)
theorem Vals.rep {xs:List V} {us:List Value} (h:Vals xs us):∀ k:Nat,Vals (List.replicate k xs).flatten (List.replicate k us).flatten
  | 0=>.nil
  | k+1=>by
    rw [List.replicate_succ,List.replicate_succ,List.flatten_cons,List.flatten_cons]
    exact Vals.append h (Vals.rep h k)
theorem V1 {α:Type} (l:List α):l.eraseIdx (l.length - 1)=l.dropLast:=by
  induction l with
  | nil=>rfl
  | cons a r ih =>
    cases r with
    | nil=>rfl
    | cons b r =>
      have e:(a::b::r).length - 1=((b::r).length - 1)+1:=by
        have h1:(a::b::r).length=r.length+2:=rfl
        have h2:(b::r).length=r.length+1:=rfl
        omega
      rw [e,List.eraseIdx_cons_succ,ih]
      all_goals rfl
noncomputable section
variable {X:Cx} {pins:List (Addr × Obj)} {σ:St} {H:Hp} {s:Shared} {l b:Addr} {xs ys zs:List V}
theorem Inv.a8i {its its':List Value} {n:Nat} {f:Array Value→Array Value} {t':Nat} (I:Inv X pins σ H s) (hH:H l=some (.lst xs))
    (e:s.heap.get? l=some { cls:=.type "list",data:=.seq its.toArray n }) (hf:f its.toArray=its'.toArray) (hv:Vals ys its') (hz:ys.length≤sizeLine) :
    Inv X pins σ (upd H l (.lst ys)) { s with heap:=s.heap.update l (Obj.mapSeq f),toks:=t' }:=by
  have q:=PySem.IsL.update e f
  rw [hf] at q
  refine I.write (x:=l) (e:=l) (by rw [hH]; exact trivial) (.inl rfl) (fun b' u hb hu=>(Heap.get?_update_other s.heap (Obj.mapSeq f) (Ne.symm hb)).trans hu) ⟨_,q⟩ ?_
  exact ⟨hz,its',_,hv,q⟩
theorem Inv.a9n {its:List Value} {t':Nat} (I:Inv X pins σ H s) (hv:Vals ys its) (hz:ys.length≤sizeLine) :
    Inv X pins σ (upd H s.heap.objs.size (.lst ys)) { s with heap:=s.heap.push { cls:=.type "list",data:=.seq its.toArray },toks:=t' } :=
  I.laid (fun _ _ q=>Heap.get?_push_of_some _ q) (Nat.le_refl _) ⟨hz,its,0,hv,Heap.get?_push_size _ rfl⟩
theorem Inv.fresh (I:Inv X pins σ H s):H s.heap.objs.size=none:=I.hok.fresh (Nat.le_refl _)
theorem Inv.a83 (I:Inv X pins σ H s) (hH:H l=some (.lst xs)):xs.length≤sizeLine∧∃ (its:List Value) (n:Nat),Vals xs its∧xs.length=its.length∧s.heap.get? l=some { cls:=.type "list",data:=.seq its.toArray n }:=by
  obtain ⟨z,its,n,r,e⟩:=I.hok l _ hH
  exact ⟨z,its,n,r,r.length,e⟩
theorem a0q {n:Nat} (h:n≤sizeLine):Builtin.List.listTooLong n=false:=by
  unfold Builtin.List.listTooLong
  exact decide_eq_false (by omega)
end
noncomputable section
variable {X:Cx}
noncomputable def Xo:V→List V→Hp→VK→Prop:=fun x vs H Q=>∃ l xs y,x=.ref l∧vs=[y]∧H l=some (.lst xs)∧xs.length<sizeLine∧Q .non (upd H l (.lst (xs++[y])))
theorem qz:MtM X "list.append" Xo:=by
  intro pins s σ H x vs v us Q I rx rv h
  obtain ⟨l,xs,y,rfl,rfl,hH,hz,q⟩:=h
  cases rx
  obtain ⟨u,rfl,ru⟩:=rv.one
  obtain ⟨z,its,n,r,hl,e⟩:=I.a83 hH
  refine call_meets F.slot_list_append ⟨_,e,rfl⟩ F.entry_list_append (F.args_list_append_2 _ _) (PySem.list_append l its.toArray n u (by rw [List.size_toArray]; omega)) ⟨e,?_⟩
  refine ⟨.non,_,I.a8i (its':=its++[u]) hH e (by simp) (r.append (.cons ru .nil)) ?_,rfl,q⟩
  rw [List.length_append,List.length_singleton]
  omega
noncomputable def a99:V→List V→Hp→VK→Prop:=fun x vs H Q=>∃ l xs y,x=.ref l∧vs=[]∧H l=some (.lst xs)∧xs[xs.length - 1]? = some y∧Q y (upd H l (.lst xs.dropLast))
theorem a1q:MtM X "list.pop" a99:=by
  intro pins s σ H x vs v us Q I rx rv h
  obtain ⟨l,xs,y,rfl,rfl,hH,hy,q⟩:=h
  cases rx
  have hus:=rv.zero
  subst hus
  obtain ⟨z,its,n,r,hl,e⟩:=I.a83 hH
  obtain ⟨u,hu,ru⟩:=r.get hy
  have hy':its.toArray[its.toArray.size - 1]? = some u:=by
    show its.toArray[its.length - 1]? = some u
    rw [← Array.getElem?_toList,← hl]
    exact hu
  refine call_meets F.slot_list_pop ⟨_,e,rfl⟩ F.entry_list_pop (F.args_list_pop_1 _) (MeetsSeq.list_pop_last l its.toArray n u hy' (by rw [List.size_toArray]; omega)) ⟨e,?_⟩
  refine ⟨y,_,I.a8i (its':=its.dropLast) hH e ?_ r.dropLast ?_,ru,q⟩
  · show its.toArray.eraseIdxIfInBounds (its.toArray.size - 1)=its.dropLast.toArray
    rw [List.size_toArray,List.eraseIdxIfInBounds_toArray,V1]
  · rw [List.length_dropLast]
    omega
end
noncomputable section
variable {prog:Program} {w:World} {A:Around} {E:Value→Shared→Prop} {s:Shared}
end
noncomputable section
variable {X:Cx}
end
end L2
end
noncomputable section
set_option linter.all false
set_option maxRecDepth 100000
namespace L2
open PySem PySem.Spec PyProof.Rows
noncomputable section
variable {κ:Type} [DecidableEq κ]
noncomputable def O7 (kvs:List (κ × V)) (k:κ):Option V:=(kvs.find? fun kv=>decide (kv.1=k)).map (·.2)
noncomputable def putK (kvs:List (κ × V)) (k:κ) (v:V):List (κ × V) :=
  if (kvs.any fun kv=>decide (kv.1=k))=true then kvs.map (fun kv=>if kv.1=k then (kv.1,v) else kv) else kvs++[(k,v)]
theorem Iu {p:κ × V} {r:List (κ × V)} {k:κ} (e:p.1=k):O7 (p::r) k=some p.2:=by simp [O7,List.find?_cons,e]
theorem Ip {p:κ × V} {r:List (κ × V)} {k:κ} (e:¬ p.1=k):O7 (p::r) k=O7 r k:=by simp [O7,List.find?_cons,e]
theorem Tf (k:κ):∀ kvs:List (κ × V),(kvs.any fun kv=>decide (kv.1=k))=(O7 kvs k).isSome
  | []=>rfl
  | p::r=>by
    rw [List.any_cons]
    by_cases e:p.1=k
    · simp only [Iu e,decide_eq_true e,Bool.true_or,Option.isSome_some]
    · rw [Ip e,decide_eq_false e,Bool.false_or]; exact Tf k r
theorem K5 (kvs:List (κ × V)) (k:κ) (v:V):(putK kvs k v).length≤kvs.length+1:=by
  unfold putK
  split
  · rw [List.length_map]; omega
  · rw [List.length_append,List.length_cons,List.length_nil]; omega
theorem Pb.Er {o:Option V} {u:Option Value} (r:Pb o u):o.isSome=u.isSome:=by
  cases o with
  | none=>cases u with
    | none=>rfl
    | some _=>exact (show False from r).elim
  | some _=>cases u with
    | none=>exact (show False from r).elim
    | some _=>rfl
theorem Pb.getD {o:Option V} {u:Option Value} {d:V} {d':Value} (r:Pb o u) (rd:RelV d d'):RelV (o.getD d) (u.getD d'):=by
  cases o with
  | none=>cases u with
    | none=>exact rd
    | some _=>exact (show False from r).elim
  | some _=>cases u with
    | none=>exact (show False from r).elim
    | some _=>exact r
theorem KV.val {kvs:List (κ × V)} {vs:List (κ × Value)} (r:KV kvs vs) (k:κ):Pb (O7 kvs k) (valueAt vs k):=by
  unfold KV at r
  induction r with
  | nil=>exact True.intro
  | @cons p q ps qs h t ih =>
    obtain ⟨h1,h2⟩:=h
    by_cases e:p.1=k
    · have e':q.1=k:=h1.symm.trans e
      have b:valueAt (q::qs) k=some q.2:=by simp [valueAt,List.find?_cons,e']
      rw [Iu e,b]; exact h2
    · have e':¬ q.1=k:=fun z=>e (h1.trans z)
      have b:valueAt (q::qs) k=valueAt qs k:=by simp [valueAt,List.find?_cons,e']
      rw [Ip e,b]; exact ih
theorem KV.any {kvs:List (κ × V)} {vs:List (κ × Value)} (r:KV kvs vs) (k:κ):(kvs.any fun kv=>decide (kv.1=k))=vs.any fun kv=>decide (kv.1=k):=by
  unfold KV at r
  induction r with
  | nil=>rfl
  | cons h t ih=>rw [List.any_cons,List.any_cons,ih,h.1]
theorem KV.repl {kvs:List (κ × V)} {vs:List (κ × Value)} (r:KV kvs vs) (k:κ) {y:V} {u:Value} (ry:RelV y u) :
    KV (kvs.map fun kv=>if kv.1=k then (kv.1,y) else kv) (vs.map fun kv=>if kv.1=k then (kv.1,u) else kv):=by
  unfold KV at r ⊢
  induction r with
  | nil=>exact .nil
  | @cons p q ps qs h t ih =>
    rw [List.map_cons,List.map_cons]
    refine .cons ?_ ih
    obtain ⟨h1,h2⟩:=h
    by_cases e:p.1=k
    · rw [if_pos e,if_pos (h1.symm.trans e)]; exact ⟨h1,ry⟩
    · rw [if_neg e,if_neg (fun z=>e (h1.trans z))]; exact ⟨h1,h2⟩
theorem KV.put {kvs:List (κ × V)} {vs:List (κ × Value)} (r:KV kvs vs) (k:κ) {y:V} {u:Value} (ry:RelV y u):KV (putK kvs k y) (stored vs k u):=by
  unfold putK stored
  rw [r.any k]
  by_cases e:(vs.any fun kv=>decide (kv.1=k))=true
  · rw [if_pos e,if_pos e]; exact r.repl k ry
  · rw [if_neg e,if_neg e]; exact Paired.snoc r ⟨rfl,ry⟩
theorem KV.keys {kvs:List (κ × V)} {vs:List (κ × Value)} (r:KV kvs vs):kvs.map (·.1)=vs.map (·.1):=by
  unfold KV at r
  induction r with
  | nil=>rfl
  | cons h t ih=>rw [List.map_cons,List.map_cons,ih,h.1]
theorem KV.length {kvs:List (κ × V)} {vs:List (κ × Value)} (r:KV kvs vs):kvs.length=vs.length:=Paired.length r
end
theorem Sh {P:Program} {w:World} {k:Key} {u:Value} (r:RelV (kV k) u):(v9 P w).is k u=true:=by
  cases k with
  | inl i=>obtain ⟨t,e⟩:=(show ∃ t,u=Value.int i t from r); subst e; exact Pu P w i t
  | inr x=>obtain ⟨t,e⟩:=(show ∃ t,u=Value.str x t from r); subst e; exact Qh P w x t
theorem Ni {P:Program} {w:World}:∀ {ks:List Key} {us:List Value},Vals (ks.map kV) us→ItemsAre (v9 P w) ks us
  | [],_,r=>by rw [List.map_nil] at r; cases r; exact .nil
  | k::ks,_,r=>by
    rw [List.map_cons] at r
    cases r with
    | cons h t=>exact .cons (Sh h) (Ni t)
noncomputable abbrev KT (H:Hp):List (List Key × V)→List (List Key × Addr × Value)→Prop:=Paired fun p q=>p.1=q.1∧H q.2.1=some (.tup (p.1.map kV))∧RelV p.2 q.2.2
theorem KT.val {H:Hp} {kvs:List (List Key × V)} {xs:List (List Key × Addr × Value)} (r:KT H kvs xs) (k:List Key):Pb (O7 kvs k) ((atKey xs k).map (·.2)):=by
  induction r with
  | nil=>exact True.intro
  | @cons p q ps qs h t ih =>
    obtain ⟨h1,_,h2⟩:=h
    by_cases e:p.1=k
    · have e':q.1=k:=h1.symm.trans e
      have b:atKey (q::qs) k=some q.2:=by simp [atKey,List.find?_cons,e']
      rw [Iu e,b]; exact h2
    · have e':¬ q.1=k:=fun z=>e (h1.trans z)
      have b:atKey (q::qs) k=atKey qs k:=by simp [atKey,List.find?_cons,e']
      rw [Ip e,b]; exact ih
theorem KT.repl {H:Hp} {kvs:List (List Key × V)} {xs:List (List Key × Addr × Value)} (r:KT H kvs xs) (k:List Key) {y:V} {u:Value} (ry:RelV y u) :
    KT H (kvs.map fun kv=>if kv.1=k then (kv.1,y) else kv) (xs.map (putAt k u)):=by
  induction r with
  | nil=>exact .nil
  | @cons p q ps qs h t ih =>
    rw [List.map_cons,List.map_cons]
    refine .cons ?_ ih
    obtain ⟨h1,h2,h3⟩:=h
    unfold putAt
    by_cases e:p.1=k
    · rw [if_pos e,if_pos (h1.symm.trans e)]; exact ⟨h1,h2,ry⟩
    · rw [if_neg e,if_neg (fun z=>e (h1.trans z))]; exact ⟨h1,h2,h3⟩
theorem KT.put {H:Hp} {kvs:List (List Key × V)} {xs:List (List Key × Addr × Value)} (r:KT H kvs xs) (k:List Key) {b:Addr} {y:V} {u:Value} (hb:H b=some (.tup (k.map kV))) (ry:RelV y u) :
    KT H (putK kvs k y) (storedH xs k b u):=by
  have e:(kvs.any fun kv=>decide (kv.1=k))=(atKey xs k).isSome:=by
    rw [Tf,(r.val k).Er,Option.isSome_map]
  unfold putK storedH
  rw [e]
  by_cases q:(atKey xs k).isSome=true
  · rw [if_pos q,if_pos q]; exact r.repl k ry
  · rw [if_neg q,if_neg q]; exact Paired.snoc r ⟨rfl,hb,ry⟩
theorem KT.keeps {H H':Hp} {kvs:List (List Key × V)} {xs:List (List Key × Addr × Value)} (r:KT H kvs xs) (ht:∀ b ys,H b=some (.tup ys)→H' b=some (.tup ys)):KT H' kvs xs :=
  Paired.a8a r fun _ _ z=>⟨z.1,ht _ _ z.2.1,z.2.2⟩
noncomputable section
variable {P:Program} {w:World} {H:Hp} {h:Heap} {a:Addr}
theorem a76 {u:HO} (ok:HOk P w H h) (e:Rd H a u):Bh P w H h a u:=e.ok ok
theorem Hl {kvs:List (Key × V)} (ok:HOk P w H h) (e:Rd H a (.dK kvs)):kvs.length≤sizeLine∧(a==sysModules)=false∧∃ vs,KV kvs vs∧h.DictOf (v9 P w) a vs :=
  show Bh P w H h a (.dK kvs) from a76 ok e
theorem a8s {kvs:List (Key × V)} (ok:HOk P w H h) (e:H a=some (.dK kvs)):kvs.length≤sizeLine∧(a==sysModules)=false∧∃ vs,KV kvs vs∧h.DictOf (v9 P w) a vs:=Hl ok (.inl e)
theorem Lj {ks:List Key} (ok:HOk P w H h) (e:H a=some (.tup (ks.map kV))):(tupleKind (v9 P w)).is h ks a:=by
  obtain ⟨_,its,r,o,h1,h2,_,n,h3⟩:=(show Bh P w H h a (.tup (ks.map kV)) from ok a _ e)
  exact ⟨o,its.toArray,n,h1,h2,h3,by simpa using Ni r⟩
theorem Rp {kvs:List (List Key × V)} (ok:HOk P w H h) (e:Rd H a (.dT kvs)):kvs.length≤sizeLine∧(a==sysModules)=false ∧
    ∃ xs,KT H kvs xs∧h.DictOfH (tupleKind (v9 P w)) a xs:=by
  obtain ⟨z,y,xs,r,o,es,ep,h1,h2,h3,h4,h5⟩:=(show Bh P w H h a (.dT kvs) from a76 ok e)
  refine ⟨z,y,xs,r,o,es,ep,h1,h2,h3,h4,fun x hx=>?_,h5⟩
  have all:∀ {l:List (List Key × V)} {m:List (List Key × Addr × Value)},KT H l m→∀ x∈m,(tupleKind (v9 P w)).is h x.1 x.2.1:=by
    intro l m q
    induction q with
    | nil=>intro x hx; exact nomatch hx
    | @cons p q ps qs hq t ih =>
      intro x hx
      rcases List.mem_cons.mp hx with e | hx
      · subst e
        exact Lj ok (by rw [← hq.1]; exact hq.2.1)
      · exact ih x hx
  exact all r x hx
theorem a86 {kvs:List (List Key × V)} (ok:HOk P w H h) (e:H a=some (.dT kvs)):kvs.length≤sizeLine∧(a==sysModules)=false ∧
    ∃ xs,KT H kvs xs∧h.DictOfH (tupleKind (v9 P w)) a xs:=Rp ok (.inl e)
end
noncomputable def Vx (H:Hp) (a:Addr) (y:V) (r:Option V):Prop :=
  (∃ kvs k,Rd H a (.dK kvs)∧y=kV k∧r=O7 kvs k)∨∃ kvs k b,Rd H a (.dT kvs)∧y=.ref b∧H b=some (.tup (k.map kV))∧r=O7 kvs k
noncomputable def a5b (H:Hp) (a:Addr) (y v:V) (H':Hp):Prop :=
  (∃ kvs k,H a=some (.dK kvs)∧y=kV k∧kvs.length<sizeLine∧H'=upd H a (.dK (putK kvs k v))) ∨
  ∃ kvs k b,H a=some (.dT kvs)∧y=.ref b∧H b=some (.tup (k.map kV))∧kvs.length<sizeLine∧H'=upd H a (.dT (putK kvs k v))
theorem Vx.k {H:Hp} {a:Addr} {kvs:List (Key × V)} {k:Key} (e:H a=some (.dK kvs)):Vx H a (kV k) (O7 kvs k):=.inl ⟨kvs,k,.inl e,rfl,rfl⟩
theorem Vx.t {H:Hp} {a b:Addr} {kvs:List (List Key × V)} {k:List Key} (e:H a=some (.dT kvs)) (eb:H b=some (.tup (k.map kV))):Vx H a (.ref b) (O7 kvs k):=.inr ⟨kvs,k,b,.inl e,rfl,eb,rfl⟩
theorem a5b.k {H:Hp} {a:Addr} {kvs:List (Key × V)} {k:Key} {v:V} (e:H a=some (.dK kvs)) (hl:kvs.length<sizeLine):a5b H a (kV k) v (upd H a (.dK (putK kvs k v))):=.inl ⟨kvs,k,e,rfl,hl,rfl⟩
theorem a5b.t {H:Hp} {a b:Addr} {kvs:List (List Key × V)} {k:List Key} {v:V} (e:H a=some (.dT kvs)) (eb:H b=some (.tup (k.map kV))) (hl:kvs.length<sizeLine) :
    a5b H a (.ref b) v (upd H a (.dT (putK kvs k v))):=.inr ⟨kvs,k,b,e,rfl,eb,hl,rfl⟩
noncomputable section
variable {X:Cx} {pins:List (Addr × Obj)} {σ:St} {H:Hp} {s:Shared} {a:Addr} {y v:V} {u r:Value} {o:Option V} {A:Around} {E:Value→Shared→Prop}
theorem Inv.big (I:Inv X pins σ H s):sysModules<s.heap.objs.size:=by
  have h:mainGlobals<s.heap.objs.size:=(I.mod.glob.keeps I.bk).lt
  exact Nat.lt_trans (by decide) h
theorem Xj {Q:Value→Shared→Prop} (hu:A.units+1<cLine) (I:Inv X pins σ H s) (g:Vx H a y (some v)) (ry:RelV y u) (h:∀ w' s',Inv X pins σ H s'→RelV v w'→Q w' s') :
    wpAny (model X.prog X.w) A (getItem (.ref a) u) Q E s:=by
  rcases g with ⟨kvs,k,e,ey,l⟩ | ⟨kvs,k,b,e,ey,eb,l⟩
  · subst ey
    obtain ⟨z,hd,vs,rel,dd⟩:=Hl I.hok e
    obtain ⟨w',hw,rw'⟩:=Pb.some_of (v:=v) (o:=valueAt vs k) (by rw [l]; exact rel.val k)
    exact wpAny_getItem_of (Sh ry) dd.mapOf hw (h w' _ (I.tok _) rw')
  · subst ey
    cases (show u=Value.ref b from ry)
    obtain ⟨z,hd,xs,rel,dd⟩:=Rp I.hok e
    obtain ⟨w',hw,rw'⟩:=Pb.some_of (v:=v) (o:=(atKey xs k).map (·.2)) (by rw [l]; exact rel.val k)
    obtain ⟨p,hp,hp2⟩:=Option.map_eq_some_iff.mp hw
    refine wpAny_getItem_heap (tupleKind_room_in1 hu) (Lj I.hok eb) dd hp ?_
    rw [hp2]
    exact h w' _ (I.tok _) rw'
theorem aa1 {Q:Value→Shared→Prop} (hu:A.units+1<cLine) (I:Inv X pins σ H s) (g:Vx H a y o) (ry:RelV y u) (h:∀ s',Inv X pins σ H s'→Q (.bool o.isSome) s') :
    wpAny (model X.prog X.w) A (compareOp .In u (.ref a)) Q E s:=by
  rcases g with ⟨kvs,k,e,ey,l⟩ | ⟨kvs,k,b,e,ey,eb,l⟩
  · subst ey
    obtain ⟨z,hd,vs,rel,dd⟩:=Hl I.hok e
    refine wpAny_in_of (Sh ry) hd dd.mapOf ?_
    rw [← (rel.val k).Er,← l]
    exact h _ (I.tok _)
  · subst ey
    cases (show u=Value.ref b from ry)
    obtain ⟨z,hd,xs,rel,dd⟩:=Rp I.hok e
    refine wpAny_in_heap (tupleKind_room_in1 hu) (Lj I.hok eb) hd dd ?_
    have q:=(rel.val k).Er
    rw [Option.isSome_map] at q
    rw [← q,← l]
    exact h _ (I.tok _)
theorem a4k {Q:Value→Shared→Prop} (hu:A.units+1<cLine) (I:Inv X pins σ H s) (g:Vx H a y o) (ry:RelV y u) (h:∀ s',Inv X pins σ H s'→Q (.bool (!o.isSome)) s') :
    wpAny (model X.prog X.w) A (compareOp .NotIn u (.ref a)) Q E s:=by
  rcases g with ⟨kvs,k,e,ey,l⟩ | ⟨kvs,k,b,e,ey,eb,l⟩
  · subst ey
    obtain ⟨z,hd,vs,rel,dd⟩:=Hl I.hok e
    refine wpAny_notIn_of (Sh ry) hd dd.mapOf ?_
    rw [← (rel.val k).Er,← l]
    exact h _ (I.tok _)
  · subst ey
    cases (show u=Value.ref b from ry)
    obtain ⟨z,hd,xs,rel,dd⟩:=Rp I.hok e
    refine wpAny_notIn_heap (tupleKind_room_in1 hu) (Lj I.hok eb) hd dd ?_
    have q:=(rel.val k).Er
    rw [Option.isSome_map] at q
    rw [← q,← l]
    exact h _ (I.tok _)
theorem Wa {h':Heap} {t':Nat} {ob:HO} (I:Inv X pins σ H s) (mu:Mut (H a)) (hs:Heap.SameBut a s.heap h') (he:∃ q,h'.get? a=some q) (new:Bh X.prog X.w (upd H a ob) h' a ob) :
    Inv X pins σ (upd H a ob) { s with heap:=h',toks:=t' } :=
  I.write (x:=a) (e:=a) mu (.inl rfl) (fun b q hb z=>(hs.2 b hb).trans z) he new
theorem T5 {P:Program} {w:World} {H':Hp} {h':Heap} {kvs:List (Key × V)} {vs:List (Key × Value)} (z:kvs.length≤sizeLine) (hd:(a==sysModules)=false) (rel:KV kvs vs) (dd:h'.DictOf (v9 P w) a vs) :
    Bh P w H' h' a (.dK kvs):=⟨z,hd,vs,rel,dd⟩
theorem Wt {H':Hp} {Q:Unit→Shared→Prop} (hu:A.units+1<cLine) (I:Inv X pins σ H s) (g:a5b H a y v H') (ry:RelV y u) (rv:RelV v r) (h:∀ s',Inv X pins σ H' s'→Q () s') :
    wpAny (model X.prog X.w) A (setItem (.ref a) u r) Q E s:=by
  rcases g with ⟨kvs,k,e,ey,l,eH⟩ | ⟨kvs,k,b,e,ey,eb,l,eH⟩
  · subst ey eH
    obtain ⟨z,hd,vs,rel,dd⟩:=a8s I.hok e
    have hz:vs.length≤sizeLine:=by rw [← rel.length]; exact z
    have hl:(putK kvs k v).length≤sizeLine:=by have:=K5 kvs k v; omega
    refine wpAny_setItem_pairs (hsz:=hz) (Sh ry) dd fun h' dd' hs=>h _ ?_
    have he:∃ q,h'.get? a=some q:=let ⟨q,_,_,hq,_⟩:=dd'; ⟨q,hq⟩
    exact Wa I (by rw [e]; exact True.intro) hs he (T5 hl hd (rel.put k rv) dd')
  · subst ey eH
    cases (show u=Value.ref b from ry)
    obtain ⟨z,hd,xs,rel,dd⟩:=a86 I.hok e
    have hz:xs.length≤sizeLine:=by rw [← Paired.length rel]; exact z
    have hl:(putK kvs k v).length≤sizeLine:=by have:=K5 kvs k v; omega
    refine wpAny_setItem_heap (hsz:=hz) (tupleKind_room_in1 hu) (Lj I.hok eb) dd fun h' dd' hs=>h _ ?_
    obtain ⟨q,es,ep,hq,h2,h3,h4,_,h5⟩:=dd'
    refine Wa I (by rw [e]; exact True.intro) hs ⟨q,hq⟩ ⟨hl,hd,_,(rel.put k eb rv).keeps fun c ys ec=>?_,q,es,ep,hq,h2,h3,h4,h5⟩
    rw [ql (a84 ec e (fun z=>nomatch z))]
    exact ec
end
noncomputable section
variable {X:Cx} {pins:List (Addr × Obj)} {σ:St} {H:Hp} {s:Shared} {a:Addr} {kvs:List (Key × V)} {k:Key} {u:Value} {A:Around} {E:Value→Shared→Prop}
theorem a7h {Q:Value→Shared→Prop} (I:Inv X pins σ H s) (e:Rd H a (.dK kvs)) (h:∀ t s',Inv X pins σ H s'→Q (.int kvs.length t) s'):wpAny (model X.prog X.w) A (call (.builtin "len") [.ref a]) Q E s:=by
  obtain ⟨z,hd,vs,rel,dd⟩:=Hl I.hok e
  refine call_len_dict hd dd (by rw [← rel.length]; rw [sizeLine_eq] at z; omega) ?_
  rw [← rel.length]
  exact h _ _ (I.tok _)
end
theorem Qy {X:Cx} {pins:List (Addr × Obj)} {σ:St} {H:Hp} {s:Shared} {a:Addr} {y:V} {o:Option V} (I:Inv X pins σ H s) (g:Vx H a y o):s.TypeIs (.ref a) "dict" := by
  rcases g with ⟨kvs,k,e,_,_⟩ | ⟨kvs,k,b,e,_,_,_⟩
  · obtain ⟨_,_,vs,_,dd⟩:=Hl I.hok e
    exact dd.typeIs
  · obtain ⟨_,_,xs,_,dd⟩:=Rp I.hok e
    exact dd.typeIs
noncomputable def a8b (td ty tv:TE):TS:=fun D σ H=>tv σ H fun v H1=>td σ H1 fun x H2=>ty σ H2 fun y H3=>∃ a H4,x=.ref a∧a5b H3 a y v H4∧D.nx σ H4
noncomputable section
variable {X:Cx} {o i e value:Expr} {pos pos' tpos:Pos} {td ty tv:TE}
theorem a2u (hu:X.A.units+1<cLine) (ho:PE X o td) (hi:PE X i ty) (hv:PE X value tv) (hs:swapsWith value (some (.Subscript o i pos')) pos.line X.env=pure false) :
    PS X (.Assign [.Subscript o i pos'] value pos) (a8b td ty tv):=by
  intro pins s σ H D I h
  refine wpAny_Assign_Subscript (thn (hv pins s σ H _ I h) fun r s1 ⟨v,H1,I1,rv,q1⟩=>thn (ho pins s1 σ H1 _ I1 q1) fun u s2 ⟨x,H2,I2,rx,q2⟩=>thn (hi pins s2 σ H2 _ I2 q2) fun iv s3 ⟨y,H3,I3,ry,a,H4,ex,g,q3⟩=>?_) hs
  subst ex
  obtain rfl:u=Value.ref a:=rx
  exact Wt hu I3 g ry rv fun s4 I4=>⟨σ,H4,I4,q3⟩
end
theorem Zv {P:Program} {w:World} {H:Hp} (h:Heap) (hb:sysModules<h.objs.size):Bh P w H (h.push { cls:=.type "dict",data:=.dict #[] }) h.objs.size (.dK []) :=
  ⟨Nat.zero_le _,beq_eq_false_iff_ne.mpr (Ne.symm (Nat.ne_of_lt hb)),[],.nil,Heap.DictOf.new h⟩
noncomputable def a72:TE:=fun _ H Q=>∀ p,H p=none→Q (.ref p) (upd H p (.dK []))
noncomputable section
variable {X:Cx} {pos:Pos}
theorem Zq:PE X (.Dict [] [] pos) a72:=fun pins s σ H Q I h =>
  wpAny_Dict_empty ⟨.ref s.heap.objs.size,_,I.laid (a:=s.heap.objs.size) (o:=.dK []) (t':=s.toks) (fun _ _ q=>Heap.get?_push_of_some _ q) (Nat.le_refl _) (Zv s.heap I.big),rfl,h _ (I.hok.fresh (Nat.le_refl _))⟩
end
structure M1 (X:Cx) (o:Expr) (m:Str) (apos:Pos) (e:Expr) (cpos:Pos):Prop where
  base:attributeBase o m X.env (eval o X.env)=eval o X.env
  few:((backTo cpos (starEach [e] X.env)).all (fun x=>!x.1)&&(backToKw cpos (keywordEach [] X.env)).all (fun x=>x.1.isSome)
    && decide (([e]:List Expr).length+([]:List Keyword).length+(if ([]:List Keyword).isEmpty then 0 else 1)<30))=true
  line:(apos.endLine==cpos.line)=true
  trees:backTo cpos (starEach [e] X.env)=[(false,eval e X.env)]
structure M2 (X:Cx) (o:Expr) (m:Str) (apos:Pos) (e f:Expr) (cpos:Pos):Prop where
  base:attributeBase o m X.env (eval o X.env)=eval o X.env
  few:((backTo cpos (starEach [e,f] X.env)).all (fun x=>!x.1)&&(backToKw cpos (keywordEach [] X.env)).all (fun x=>x.1.isSome)
    && decide (([e,f]:List Expr).length+([]:List Keyword).length+(if ([]:List Keyword).isEmpty then 0 else 1)<30))=true
  line:(apos.endLine==cpos.line)=true
  trees:backTo cpos (starEach [e,f] X.env)=[(false,eval e X.env),(false,eval f X.env)]
noncomputable def IsD (H:Hp) (a:Addr):Prop:=(∃ kvs,Rd H a (.dK kvs))∨∃ kvs,Rd H a (.dT kvs)
theorem a6y {X:Cx} {pins:List (Addr × Obj)} {σ:St} {H:Hp} {s:Shared} {a:Addr} (I:Inv X pins σ H s) (d:IsD H a) :
    s.TypeIs (.ref a) "dict" ∧ (∀ b,Value.ref a=.ref b→∃ ob,s.heap.get? b=some ob∧ob.dict=none)∧(a==sysModules)=false:=by
  rcases d with ⟨kvs,e⟩ | ⟨kvs,e⟩
  · obtain ⟨_,hd,vs,_,dd⟩:=Hl I.hok e
    refine ⟨dd.typeIs,fun b q=>?_,hd⟩
    cases q
    obtain ⟨ob,_,_,h1,h2,_⟩:=dd
    exact ⟨ob,h1,h2.2.1⟩
  · obtain ⟨_,hd,xs,_,dd⟩:=Rp I.hok e
    refine ⟨dd.typeIs,fun b q=>?_,hd⟩
    cases q
    obtain ⟨ob,_,_,h1,h2,_⟩:=dd
    exact ⟨ob,h1,h2.2.1⟩
noncomputable section
variable {X:Cx} {pins:List (Addr × Obj)} {σ:St} {H:Hp} {s:Shared} {a:Addr} {y d:V} {u r:Value} {o:Option V} {A:Around} {E:Value→Shared→Prop}
theorem a65 {Q:Value→Shared→Prop} (hu:A.units+1<cLine) (I:Inv X pins σ H s) (g:Vx H a y o) (ry:RelV y u) (rd:RelV d r) (h:∀ w' s',Inv X pins σ H s'→RelV (o.getD d) w'→Q w' s') :
    wpAny (model X.prog X.w) A (call (.builtin "dict.get") [.ref a,u,r]) Q E s:=by
  rcases g with ⟨kvs,k,e,ey,l⟩ | ⟨kvs,k,b,e,ey,eb,l⟩
  · subst ey
    obtain ⟨z,hd,vs,rel,dd⟩:=Hl I.hok e
    refine call_meetsIn PySem.F.slot_dict_get dd.typeIs PySem.F.entry_dict_get (PySem.F.args_dict_get_3 _ _ _) (meets_dict_get_default (v9 X.prog X.w) a (Sh ry) hd r) ⟨_,dd.mapOf,h _ _ (I.tok _) ?_⟩
    rw [l]
    exact (rel.val k).getD rd
  · subst ey
    cases (show u=Value.ref b from ry)
    obtain ⟨z,hd,xs,rel,dd⟩:=Rp I.hok e
    refine call_meetsIn PySem.F.slot_dict_get dd.typeIs PySem.F.entry_dict_get (PySem.F.args_dict_get_3 _ _ _) (meetsH_dict_get_default (tupleKind (v9 X.prog X.w)) a b hd r) ⟨tupleKind_room_in1 hu,k,xs,Lj I.hok eb,dd,h _ _ (I.tok _) ?_⟩
    rw [l]
    exact (rel.val k).getD rd
end
noncomputable def a77 (td ty tx:TE):TE:=fun σ H Q=>td σ H fun x H1=>∃ a,x=.ref a∧IsD H1 a∧ty σ H1 fun y H2=>tx σ H2 fun z H3=>∃ o,Vx H3 a y o∧Q (o.getD z) H3
noncomputable section
variable {X:Cx} {o e f:Expr} {apos cpos:Pos} {td ty tx:TE}
theorem Zu (hu:X.A.units+1<cLine) (ho:PE X o td) (he:PE X e ty) (hf:PE X f tx) (m:M2 X o "get" apos e f cpos):PE X (.Call (.Attribute o "get" apos) [e,f] [] cpos) (a77 td ty tx):=by
  intro pins s σ H Q I h
  refine wpAny_Call_method m.base m.few m.line PySem.F.plainAttrs_dict PySem.F.slot_dict_get PySem.F.type_dict_get (thn (ho pins s σ H _ I h) fun u s1 z0=>?_)
  obtain ⟨x,H1,I1,rx,a,ex,d,q1⟩:=z0
  subst ex
  obtain rfl:u=Value.ref a:=rx
  obtain ⟨t1,t2,_⟩:=a6y I1 d
  refine ⟨t1,t2,?_⟩
  rw [m.trees]
  refine Calls.callWith_builtin rfl (Calls.evalArgs_plain (Calls.spliced_cons (thn (he pins s1 σ H1 _ I1 q1) fun iv s2 ⟨y,H2,I2,ry,q2⟩ =>
    Calls.spliced_cons (thn (hf pins s2 σ H2 _ I2 q2) fun fv s3 ⟨z,H3,I3,rz,ov,g,q3⟩=>Calls.spliced_nil ?_))))
  exact a65 hu I3 g ry rz fun w' s4 I4 rw'=>⟨_,H3,I4,rw',q3⟩
end
noncomputable section
variable {X:Cx} {pins:List (Addr × Obj)} {σ:St} {H:Hp} {s:Shared} {a:Addr} {kvs:List (Key × V)} {A:Around} {E:Value→Shared→Prop}
theorem a1a {Q:Value→Shared→Prop} (I:Inv X pins σ H s) (e:Rd H a (.dK kvs)) (h:∀ p s',H p=none→Inv X pins σ (upd H p (.dK kvs)) s'→Q (.ref p) s'):wpAny (model X.prog X.w) A (call (.type "dict") [.ref a]) Q E s:=by
  obtain ⟨z,hd,vs,rel,dd⟩:=Hl I.hok e
  refine kt_call_dict hd dd (by rw [← rel.length]; exact z) fun h' dd' hs=>?_
  refine h _ _ (I.hok.fresh (Nat.le_refl _)) (I.laid (a:=s.heap.objs.size) (o:=.dK kvs) (t':=s.toks) (fun b q hq=>?_) (Nat.le_refl _) (T5 z (beq_eq_false_iff_ne.mpr (Ne.symm (Nat.ne_of_lt I.big))) rel dd'))
  exact (hs.2 b (Nat.ne_of_lt (Heap.lt_size hq))).trans (Heap.get?_push_of_some _ hq)
end
noncomputable section
variable {X:Cx} {pins:List (Addr × Obj)} {σ:St} {H:Hp} {s:Shared} {a:Addr} {y:V} {u:Value} {A:Around} {E:Value→Shared→Prop}
end
end L2
end
noncomputable section
set_option linter.all false
set_option maxRecDepth 100000
namespace Att
open PySem PySem.W PySem.Calls PyProof.Rows
theorem Jz {P:Params} {h:Heap}:∀ (ns:List Int) (vs:List Value),WellAll P h vs (ns.map WData.int)→IntsAre vs ns:=by
  intro ns
  induction ns with
  | nil =>
    intro vs w
    rw [List.map_nil] at w
    cases w
    exact .nil
  | cons n ns ih =>
    intro vs w
    rw [List.map_cons] at w
    cases w with
    | cons a b =>
      cases a
      exact .cons _ _ (ih _ b)
theorem Yp {l:OpenLaw} {n:Nat} (hn:l.most=some n) {P:Params} {h:Heap} {args:List WData} {vals:List Value}
    (hpre:l.row.toRowW.claim.pre args=true) (hwl:WellAll P h vals args) :
    ∃ a vs ns,vals=[Value.ref a]∧args=[WData.list (ns.map WData.int)]∧h.get? a=some { cls:=.type "list",data:=.seq vs.toArray }∧IntsAre vs ns∧ns.length≤n:=by
  have hsh:WShape.hasAll [] args [.list .int]=true:=(pre_splitW hpre).1
  have hc:l.pre.holds [] { args:=args } = true:=(pre_splitW hpre).2
  obtain ⟨d,r,rfl,h1,h2⟩:=hasAllW_cons hsh
  obtain rfl:=hasAllW_nil h2
  obtain ⟨xs,rfl,h3⟩:=hasW_list h1
  obtain ⟨ns,rfl⟩:=items_int h3
  have hlen:ns.length≤n:=by
    unfold OpenLaw.pre at hc
    have h4:(WTm.not (.lt (.lit (.int (n:Int))) (.len (.arg 0)))).holds [] { args:=[.list (ns.map .int)] } = true:=by
      have h4:=(holds_andW hc).1
      rw [hn] at h4
      exact h4
    have h5:=condW_of h4 (w_not (w_lt w_lit (w_len_list (w_arg rfl))))
    rw [List.length_map] at h5
    refine Nat.le_of_not_lt fun q=>?_
    have q':(n:Int)<((ns.length:Nat):Int):=by omega
    first
      | (rw [decide_eq_true q'] at h5; exact absurd h5 (by decide))
      | (simp at h5; omega)
  cases hwl with
  | cons w1 w2 =>
    cases w2
    cases w1 with
    | list ho hall=>exact ⟨_,_,ns,rfl,rfl,ho,Jz ns _ hall,hlen⟩
theorem Xq (l:OpenLaw) (args:List WData):l.row.toRowW.claim.post args (.bool true) args=true :=
  postW_of (r:=l.row.toRowW) (X:=(true==true))
    (show WShape.has [] (.bool true) .bool=true by first | rfl | decide | simp [WShape.has,WShape.arms,WShape.armsAll])
    (show (WTm.eq .res (.lit (.bool true))).value [] { args:=args,res:=some (.bool true),after:=args } = some (.bool (true==true)) from w_eq_bool (w_res rfl) w_lit) rfl
theorem Qn {l:OpenLaw} {n:Nat} {q:Program} {loose:List Str} {XP:(Str→Option Value)→Heap→Prop} {YP:World→Heap→Prop} {d:DefRec}
    (hn:l.most=some n) (hdf:d.params.defaults=[])
    (call:∀ (w:World) (s₀ s₁:Shared) (mg mb:Str→Option Value) (fa:Addr) (o:Obj) (pm cd doc:Value) (a:Addr) (vs:List Value) (ns:List Int),
      Ground q loose [] XP w s₀ mg mb s₁.heap→YP w s₁.heap →
      s₁.heap.get? fa=some o→o.data=.func (docDef d.name d.params d.body d.scope pm cd doc)→s₁.heap.CodeRec cd d.name→mg d.name=some (.ref fa) →
      s₁.heap.get? a=some { cls:=.type "list",data:=.seq vs.toArray }→IntsAre vs ns→ns.length≤n→s₁.gens = #[] →
      codeAny (model l.prog w) callerA (.call (.ref fa) ⟨[.ref a],[]⟩) (fun r s'=>r=.ok (.ret (.bool true))∧OldK s₁.heap s'.heap∧s'.os=s₁.os∧AllBare s'.gens) s₁) :
    WalkO q loose XP YP l.row.toRowW d [] (fun f vs=>PySem.call f vs):=by
  intro w s₀ s₁ mg mb G Y fa o pm cd doc dV kV ho hd hcd hD hmg hg args vals as hpre hlay hrd hwl hlo
  obtain rfl:dV=.none:=Dflts.none hD hdf
  obtain rfl:kV=.none:=Dflts.noKw hD
  obtain ⟨a,vs,ns,rfl,rfl,hobj,hints,hlen⟩:=Yp hn hpre hwl
  refine enter_call (codeAny_mono (call w s₀ s₁ mg mb fa o pm cd doc a vs ns G Y ho (fd_plain hd) hcd hmg hobj hints hlen hg) fun r s' hq=>?_)
  obtain ⟨rfl,h2,h3,h4⟩:=hq
  exact ⟨.inl ⟨.bool true,.bool true,[],rfl,fun _=>rfl,.bool true,Xq l _,fun _=>⟨List.Pairwise.nil,fun _ hm=>(nomatch hm)⟩⟩,h2,h3,h4⟩
noncomputable section
variable {prog:Program} {w:World} {A:Around} {E:Value→Shared→Prop} {s:Shared} {K:Frag}
end
end Att
namespace L2
open PySem PySem.Spec PyProof.Rows
theorem N6:∀ {vs:List Value} {ns:List Int},IntsAre vs ns→Vals (ns.map V.int) vs
  | _,_,.nil=>.nil
  | _,_,.cons n t h=>.cons ⟨t,rfl⟩ (N6 h)
noncomputable def Only (H:Hp):Prop:=∀ b,H b=none∨∃ o xs,H b=some (.frz o (.lst xs))
theorem a08 {P:Program} {w:World} {K:PySem.W.Frag} {mg mb:Str→Option Value} {CX:CXT} {k:Nat} {fa a:Addr} {fd:FuncData} {x:Str} {sp:Sp} {s₁:Shared} {vs:List Value} {ns:List Int}
    (KX:K.In s₁.heap) (hns:s₁.heap.Ns mainGlobals mg) (hb:s₁.heap.Ns builtinsNs mb) (hbb:∀ x:Str,x ≠ "__name__" → mb x=bootBuiltins x) (hlim:s₁.heap.NoLimit) (hg:s₁.gens = #[])
    (ha:s₁.heap.get? a=some { cls:=.type "list",data:=.seq vs.toArray }) (hi:IntsAre vs ns) (hl:ns.length≤sizeLine) (hr:Ke k callerA)
    (F:∀ base:Heap,K.In base→base.Ns mainGlobals mg→Ce P w K mg base CX k fa fd [x] sp) (hbind:∀ (s:Shared) (u:Value),BindsTo s fd ⟨[u],[]⟩ [(x,u)])
    (hsp:∀ H:Hp,Only H→SqL K H a (ns.map V.int)→sp [.ref a] H (fun v _=>v=.bl true) fun _ _ _=>False)
    (hCX:∀ H e s',CX [] H s₁ (fun _ _ _=>False) e s'→False) :
    codeAny (model P w) callerA (.call (.ref fa) ⟨[.ref a],[]⟩) (fun r s'=>r=.ok (.ret (.bool true))∧OldK s₁.heap s'.heap∧s'.os=s₁.os∧AllBare s'.gens) s₁:=by
  have rv:=N6 hi
  have lenV:=hi.length
  have core:∀ H:Hp,Only H→SqL K H a (ns.map V.int)→HOk P w H s₁.heap→(∀ b,H b≠none→b=a)→(H a≠none→K.lookup a=none) →
      codeAny (model P w) callerA (.call (.ref fa) ⟨[.ref a],[]⟩) (fun r s'=>r=.ok (.ret (.bool true))∧OldK s₁.heap s'.heap∧s'.os=s₁.os∧AllBare s'.gens) s₁:=by
    intro H hO hS hok hA hK
    have base_of:∀ {b:Addr} {o:Obj},s₁.heap.get? b=some o→H b=none→(a02 s₁.heap H).get? b=some o:=fun e n=>a01 e n
    have noA:∀ {b:Addr} {o:Obj} {es:Array DictEntry} {ep:Nat},s₁.heap.get? b=some o→o.data=.dict es ep→H b=none:=fun {b o es ep} e d=>by
      cases q:H b with
      | none=>rfl
      | some u =>
        have e':b=a:=hA b (by rw [q]; simp)
        subst e'
        rw [ha] at e; cases e
        have d':Data.seq vs.toArray _=Data.dict es ep:=d
        cases d'
    have nsK:∀ {b:Addr} {m:Str→Option Value},s₁.heap.Ns b m→(a02 s₁.heap H).Ns b m:=fun {b m} ⟨o,es,ep,e,d,r⟩=>⟨o,es,ep,base_of e (noA e d),d,r⟩
    have hKb:K.In (a02 s₁.heap H):=fun b o e=>base_of (KX b o e) (by
      cases q:H b with
      | none=>rfl
      | some u =>
        have e':b=a:=hA b (by rw [q]; simp)
        subst e'
        rw [hK (by rw [q]; simp)] at e; cases e)
    have hM:Mod K mg (a02 s₁.heap H):=⟨hKb,nsK hns,⟨mb,nsK hb,hbb⟩,let ⟨mc,h1,h2⟩:=hlim; ⟨mc,nsK h1,h2⟩⟩
    have e0:a7t P w K mg (a02 s₁.heap H) callerA [] s₁ H:=⟨rfl,hM,fun b o e=>a5c e,Nat.le_of_eq (W3 _ _),trivial,fun b hb=>absurd (show b∈([]:List Addr) from hb) (by simp),hok,.of_eq hg⟩
    refine codeAny_mono ((F _ hKb (nsK hns)).run callerA [] s₁ H ⟨[.ref a],[]⟩ [.ref a] [.ref a] _ _ hr e0 (hbind s₁ (.ref a)) (.cons rfl .nil) (hsp H hO hS)) fun r s' h=>?_
    cases r with
    | error e=>exact (hCX H e s' h).elim
    | ok fl =>
      cases fl with
      | next=>exact False.elim h
      | brk=>exact False.elim h
      | cont=>exact False.elim h
      | ret u =>
        obtain ⟨v,H',os,bare,un,hok',r',q⟩:=h
        have q':v=.bl true:=q
        subst q'
        obtain rfl:u=Value.bool true:=r'
        refine ⟨rfl,OldK.of_keep fun b o e=>?_,os,bare⟩
        cases q:H b with
        | none=>exact un.keep b o e q (by intro z; exact absurd (show b∈([]:List Addr) from z) (by simp)) (by simp)
        | some u =>
          rcases hO b with z | ⟨ob,xs,z⟩
          · rw [q] at z; cases z
          · have z2:=un.frzs b ob _ z
            obtain ⟨e1,_⟩:=hok b _ z
            obtain ⟨e2,_⟩:=hok' b _ z2
            rw [e] at e1; cases e1
            exact e2
  cases hk:K.lookup a with
  | some o =>
    have e:=KX a o hk
    rw [ha] at e
    cases e
    refine core (fun _=>none) (fun _=>.inl rfl) (.inr ⟨_,vs.toArray,_,hk,rfl,rfl,rfl,by rw [List.size_toArray,lenV]; exact hl,by simpa using rv⟩) (fun b u z=>by have z':(none:Option HO)=some u:=z; cases z') (fun b z=>absurd rfl z) fun z=>absurd rfl z
  | none =>
    refine core (fun b=>if b=a then some (.frz { cls:=.type "list",data:=.seq vs.toArray } (.lst (ns.map V.int))) else none) (fun b=>?_) (.inl (.inr ⟨{ cls:=.type "list",data:=.seq vs.toArray },if_pos rfl⟩)) (fun b u z=>?_) (fun b z=>?_) fun _=>hk
    · by_cases hb:b=a
      · exact .inr ⟨_,_,if_pos hb⟩
      · exact .inl (if_neg hb)
    · by_cases hb:b=a
      · have z':=(if_pos hb).symm.trans z
        cases z'
        subst hb
        exact ⟨ha,by rw [List.length_map]; exact hl,vs,_,rv,ha⟩
      · have z':=(if_neg hb).symm.trans z
        cases z'
    · by_cases hb:b=a
      · exact hb
      · exact absurd (if_neg hb) z
end L2
namespace L2
open PySem PySem.Spec PyProof.Rows
theorem a4s {l:PySem.W.OpenLaw} {n k:Nat} {q:Program} {loose:List Str} {XP:(Str→Option Value)→Heap→Prop} {YP:World→Heap→Prop} {d:DefRec} {K:Params→PySem.W.Frag} {CX:World→CXT} {sp:World→Sp} {x:Str}
    (hn:l.most=some n) (hn2:n≤sizeLine) (hdf:d.params.defaults=[]) (hr:Ke k callerA)
    (hY:∀ (w:World) (h:Heap),YP w h→(K w.params).In h)
    (F:∀ (w:World) (mg:Str→Option Value) (fa:Addr) (h:Heap),(K w.params).In h→h.Ns mainGlobals mg→mg d.name=some (.ref fa) →
      ∃ fd:FuncData,(∀ (s:Shared) (u:Value),BindsTo s fd ⟨[u],[]⟩ [(x,u)]) ∧
        ∀ base:Heap,(K w.params).In base→base.Ns mainGlobals mg→Ce l.prog w (K w.params) mg base (CX w) k fa fd [x] (sp w))
    (hsp:∀ (w:World) (H:Hp) (a:Addr) (ns:List Int),ns.length≤n→Only H→SqL (K w.params) H a (ns.map V.int)→sp w [.ref a] H (fun v _=>v=.bl true) fun _ _ _=>False)
    (hCX:∀ (w:World) (H:Hp) (s:Shared) (e:Value) (s':Shared),CX w [] H s (fun _ _ _=>False) e s'→False) :
    PySem.W.WalkO q loose XP YP l.row.toRowW d [] (fun f vs=>PySem.call f vs):=by
  refine Att.Qn hn hdf fun w s₀ s₁ mg mb fa o pm cd doc a vs ns G Y ho hd hcd hmg hobj hints hlen hg=>?_
  have KX:=hY w _ Y
  obtain ⟨fd,hb,hF⟩:=F w mg fa _ KX G.T.g hmg
  exact a08 KX G.T.g G.T.b G.T.builtins G.T.nolimit hg hobj hints (Nat.le_trans hlen hn2) hr hF hb (fun H hO hS=>hsp w H a ns hlen hO hS) fun H e s'=>hCX w H s₁ e s'
end L2
namespace L2
open PySem PySem.Spec PyProof.Rows
noncomputable def n8 (s:Stmt):Arguments:=match s with
  | .FunctionDef _ a _ _ _ _ _ _ _ _=>a
  | _=>{ posonlyargs:=[],args:=[],vararg:=none,kwonlyargs:=[],kw_defaults:=[],kwarg:=none,defaults:=[] }
noncomputable def m9 (s:Stmt):List Stmt:=match s with
  | .FunctionDef _ _ b _ _ _ _ _ _ _=>b
  | _=>[]
noncomputable def iz (s:Stmt):Scope:=match s with
  | .FunctionDef _ _ _ _ _ _ sc _ _ _=>sc
  | _=>{ kind:=.function,names:=[],isGenerator:=false,isCoroutine:=false }
noncomputable abbrev CX0:CXT:=fun _ _ _ _ _ _=>False
noncomputable abbrev E0:XK:=fun _ _ _=>False
theorem a8p {X:Cx}:Passes CX0 X E0:=fun _ _ _ _ _ _ _ h=>h.elim
structure Fun (K:PySem.W.Frag) (x qual:Str) (st:Stmt) (f:Addr) (fd:FuncData):Prop where
  ex:∃ (oc:Value) (od:Option Addr) (kV doc pm:Value) (an:Option Addr) (cdv ct:Value) (osl:Array (Option Value)),
    fd=PySem.W.fnOf x qual (n8 st) (m9 st) (iz st) .none kV doc pm an cdv ct∧K.lookup f=some ⟨oc,od,.func fd,osl⟩∧PySem.W.codeIn K cdv qual=true
  kp:PySem.W.keepIn K (.ref f)=true
noncomputable section
variable {P:Program} {w:World} {K:PySem.W.Frag} {mg:Str→Option Value} {base:Heap}
theorem Fun.ok {x qual:Str} {st:Stmt} {f:Addr} {fd:FuncData} {N ps:List Str} {k:Nat} {sp:Sp} (F:Fun K x qual st f fd) (S:nq N ps (iz st)) (len:∀ vs H Q E,sp vs H Q E→vs.length=ps.length)
    (hbody:∀ (cdv:Value) (A:Around) (outer:List Env) (s:Shared) (H:Hp) (vs:List V) (Q:VK) (E:XK),Ke k (A.deeper (envOfC qual (iz st) s.heap.objs.size f cdv))→sp vs H Q E →
      ∃ t,PSs (a3q CX0 P w K mg base N qual (iz st) f cdv A outer s H E).nox (m9 st) t∧t { nx:=fun _ H'=>Q .non H',rt:=Q } (start N vs) H):Ce P w K mg base CX0 (k+1) f fd ps sp:=by
  obtain ⟨oc,od,kV,doc,pm,an,cdv,ct,osl,rfl,lk,hcd⟩:=F.ex
  refine a81 lk hcd S len fun A outer s H vs Q E hr hsp=>?_
  obtain ⟨t,h,q⟩:=hbody cdv A outer s H vs Q E hr hsp
  exact ⟨t,h.nox,q⟩
theorem Fun.binds {x qual:Str} {st:Stmt} {f:Addr} {fd:FuncData} {ps:List Str} (F:Fun K x qual st f fd)
    (h:∀ (kV doc pm:Value) (an:Option Addr) (cdv ct:Value) (us:List Value),us.length=ps.length→bindArgs (PySem.W.fnOf x qual (n8 st) (m9 st) (iz st) .none kV doc pm an cdv ct) ⟨us,[]⟩=pure (ps.zip us)):Binds K fd ps []:=by
  obtain ⟨oc,od,kV,doc,pm,an,cdv,ct,osl,rfl,lk,hcd⟩:=F.ex
  exact .all (h kV doc pm an cdv ct)
theorem bd1 {fd:FuncData} {ps:List Str} (h:∀ a,bindArgs fd ⟨[a],[]⟩=pure (ps.zip [a])) (us:List Value) (hl:us.length=1):bindArgs fd ⟨us,[]⟩=pure (ps.zip us):=by
  cases us with
  | nil=>exact nomatch hl
  | cons a us =>
  cases us with
  | cons _ _=>simp at hl
  | nil=>exact h a
theorem bd2 {fd:FuncData} {ps:List Str} (h:∀ a b,bindArgs fd ⟨[a,b],[]⟩=pure (ps.zip [a,b])) (us:List Value) (hl:us.length=2):bindArgs fd ⟨us,[]⟩=pure (ps.zip us):=by
  cases us with
  | nil=>exact nomatch hl
  | cons a us =>
  cases us with
  | nil=>exact nomatch hl
  | cons b us =>
  cases us with
  | cons _ _=>simp at hl
  | nil=>exact h a b
theorem bd3 {fd:FuncData} {ps:List Str} (h:∀ a b c,bindArgs fd ⟨[a,b,c],[]⟩=pure (ps.zip [a,b,c])) (us:List Value) (hl:us.length=3):bindArgs fd ⟨us,[]⟩=pure (ps.zip us):=by
  cases us with
  | nil=>exact nomatch hl
  | cons a us =>
  cases us with
  | nil=>exact nomatch hl
  | cons b us =>
  cases us with
  | nil=>exact nomatch hl
  | cons c us =>
  cases us with
  | cons _ _=>simp at hl
  | nil=>exact h a b c
theorem bd4 {fd:FuncData} {ps:List Str} (h:∀ a b c d,bindArgs fd ⟨[a,b,c,d],[]⟩=pure (ps.zip [a,b,c,d])) (us:List Value) (hl:us.length=4):bindArgs fd ⟨us,[]⟩=pure (ps.zip us):=by
  cases us with
  | nil=>exact nomatch hl
  | cons a us =>
  cases us with
  | nil=>exact nomatch hl
  | cons b us =>
  cases us with
  | nil=>exact nomatch hl
  | cons c us =>
  cases us with
  | nil=>exact nomatch hl
  | cons d us =>
  cases us with
  | cons _ _=>simp at hl
  | nil=>exact h a b c d
theorem bd5 {fd:FuncData} {ps:List Str} (h:∀ a b c d e,bindArgs fd ⟨[a,b,c,d,e],[]⟩=pure (ps.zip [a,b,c,d,e])) (us:List Value) (hl:us.length=5):bindArgs fd ⟨us,[]⟩=pure (ps.zip us):=by
  cases us with
  | nil=>exact nomatch hl
  | cons a us =>
  cases us with
  | nil=>exact nomatch hl
  | cons b us =>
  cases us with
  | nil=>exact nomatch hl
  | cons c us =>
  cases us with
  | nil=>exact nomatch hl
  | cons d us =>
  cases us with
  | nil=>exact nomatch hl
  | cons e us =>
  cases us with
  | cons _ _=>simp at hl
  | nil=>exact h a b c d e
theorem ug {x qual:Str} {st:Stmt} {f:Addr} {oc:Value} {od an:Option Addr} {osl:Array (Option Value)} {kV doc pm cdv ct:Value} (l:K.lookup f=some ⟨oc,od,.func (PySem.W.fnOf x qual (n8 st) (m9 st) (iz st) .none kV doc pm an cdv ct),osl⟩)
    (c:PySem.W.codeIn K cdv qual=true) (k:PySem.W.keepIn K (.ref f)=true):Fun K x qual st f (PySem.W.fnOf x qual (n8 st) (m9 st) (iz st) .none kV doc pm an cdv ct):=⟨⟨oc,od,kV,doc,pm,an,cdv,ct,osl,rfl,l,c⟩,k⟩
end
theorem zx {A:Around} {k:Nat} (hr:Ke k A):A.units+1<cLine:=Nat.lt_of_le_of_lt (Nat.add_le_add_left (by decide:1≤64) _) hr.units
theorem Ju {n:Nat} (h:n≤1000):n<sizeLine:=Nat.lt_of_le_of_lt h (by decide)
noncomputable section
variable {X:Cx}
theorem pv (i:Nat) {x:Str} {pos:Pos} (hN:X.N[i]? = some x:=by rfl) (hv:Vis X.env.scope x:=by first | exact Or.inl rfl | exact Or.inr (Or.inl rfl) | exact Or.inr (Or.inr rfl)) (hd:(x==("__debug__" : Str))=false:=by decide)
    (hcd:(x==("__classdict__" : Str))=false:=by decide):PE X (.Name x pos) (a0w i):=a6i hN hv hd hcd
end
theorem a2y {A B:Prop} (h:B):if false=true then A else B:=by
  rw [if_neg Bool.false_ne_true]
  exact h
theorem a4d {A B:Prop} (h:A):if true=true then A else B:=by
  rw [if_pos rfl]
  exact h
noncomputable def Same (H H':Hp):Prop:=∀ b o,H b=some o→H' b=some o
theorem Same.refl (H:Hp):Same H H:=fun _ _ h=>h
theorem Same.trans {H H1 H2:Hp} (a:Same H H1) (b:Same H1 H2):Same H H2:=fun c o h=>b c o (a c o h)
theorem Same.free {H H':Hp} (e:Same H H') {l:Addr} (h:H' l=Option.none):H l=Option.none:=by
  cases q:H l with
  | none=>rfl
  | some o =>
    rw [e l o q] at h
    cases h
theorem Same.seq {K:PySem.W.Frag} {H H':Hp} {a:Addr} {xs:List V} (e:Same H H') (h:SqL K H a xs):SqL K H' a xs:=by
  rcases h with (h | ⟨o,h⟩) | h
  · exact .inl (.inl (e _ _ h))
  · exact .inl (.inr ⟨o,e _ _ h⟩)
  · exact .inr h
end L2
end
noncomputable section
set_option linter.all false
set_option maxRecDepth 100000
namespace L2
open PySem PySem.Spec PyProof.Rows
noncomputable section
variable {X:Cx}
end
noncomputable section
variable {κ:Type} [DecidableEq κ]
end
end L2
end
noncomputable section
namespace C
open PySem
noncomputable abbrev Key:=Sum Int Str
inductive T where
  | non | bl (b:Bool) | int (i:Int) | str (x:Str)
  | tup (xs:List T) | lst (xs:List T) | dic (kvs:List (Key × T)) | obj (n:Nat)
instance:Inhabited T:=⟨.non⟩
inductive SO where
  | dic (kvs:List (Key × T)) | lst (xs:List T) | ins (c:Str) (fs:List (Str × T))
noncomputable abbrev Slot:=Option (T × Bool)
structure Sta where
  env:List Slot
  sto:List SO
noncomputable abbrev M (α:Type):=Sta→Option (α × Sta)
noncomputable def Pk (k:Key):List (Key × T)→Option T
  | []=>none
  | (q,t)::r=>if q=k then some t else Pk k r
noncomputable def Tq (k:Key) (t:T) (kvs:List (Key × T)):List (Key × T) :=
  if kvs.any fun p=>decide (p.1=k) then kvs.map fun p=>if p.1=k then (p.1,t) else p else kvs++[(k,t)]
noncomputable def keyOf:T→Option Key
  | .int i=>some (.inl i)
  | .str x=>some (.inr x)
  | _=>none
noncomputable def Vo:Key→T
  | .inl i=>.int i
  | .inr x=>.str x
mutual
noncomputable def dat:T→Option PyData
  | .non=>some .none
  | .bl b=>some (.bool b)
  | .int i=>some (.int i)
  | .str x=>if PyData.canLay0 (.str x) then some (.str x) else none
  | .tup xs=>(Kq xs).map .tuple
  | .lst xs=>(Kq xs).map .list
  | .dic _=>none
  | .obj _=>none
noncomputable def Kq:List T→Option (List PyData)
  | []=>some []
  | x::r=>match dat x with
    | some a=>(Kq r).map (a :: ·)
    | none=>none
end
noncomputable def eqD (a b:T):Option Bool:=match dat a with
  | some x=>match dat b with
    | some y=>if x.depth≤40 then some (PyData.eqv x y) else none
    | none=>none
  | none=>none
noncomputable def a5j:List (Key × T)→List (Key × T)→Option Bool
  | [],_=>some true
  | (k,x)::r,ys=>match Pk k ys with
    | none=>some false
    | some y=>match eqD x y with
      | some e=>(a5j r ys).map (e && ·)
      | none=>none
noncomputable def eqT:T→T→Option Bool
  | .dic a,.dic b=>if a.length=b.length then a5j a b else some false
  | x,y=>eqD x y
noncomputable def aq (t:T):M T:=fun s=>some (t,s)
noncomputable def bh (i:Nat):M T:=fun s=>match s.env[i]? with
  | some (some (t,false))=>some (t,s)
  | some (some (t,true))=>some (t,{ s with env:=s.env.set i (some (t,false)) })
  | _=>none
noncomputable def dz:M (List T):=fun s=>some ([],s)
noncomputable def aj (a:M T) (r:M (List T)):M (List T):=fun s=>match a s with
  | some (t,s1)=>match r s1 with
    | some (ts,s2)=>some (t::ts,s2)
    | none=>none
  | none=>none
noncomputable def jd:List Str→M (List T)
  | []=>dz
  | x::r=>aj (aq (.str x)) (jd r)
noncomputable def gk (f:List T→Option T) (a:M (List T)):M T:=fun s=>match a s with
  | some (ts,s1)=>match f ts with
    | some t=>some (t,s1)
    | none=>none
  | none=>none
noncomputable def mUn (f:T→Option T) (a:M T):M T:=fun s=>match a s with
  | some (t,s1)=>match f t with
    | some u=>some (u,s1)
    | none=>none
  | none=>none
noncomputable def mOp (f:T→T→Option T) (a b:M T):M T:=fun s=>match a s with
  | some (t,s1)=>match b s1 with
    | some (u,s2)=>match f t u with
      | some v=>some (v,s2)
      | none=>none
    | none=>none
  | none=>none
noncomputable abbrev Fn:=List T→List SO→Option (T × List SO)
noncomputable def fu (F:Fn) (a:M (List T)):M T:=fun s=>match a s with
  | some (ts,s1)=>match F ts s1.sto with
    | some (t,sto)=>some (t,{ s1 with sto:=sto })
    | none=>none
  | none=>none
noncomputable def fj (a:M T):M Bool:=fun s=>match a s with
  | some (.bl b,s1)=>some (b,s1)
  | _=>none
noncomputable def m7 (a:M Bool):M Bool:=fun s=>match a s with
  | some (b,s1)=>some (!b,s1)
  | none=>none
noncomputable def lg (a b:M Bool):M Bool:=fun s=>match a s with
  | some (true,s1)=>b s1
  | some (false,s1)=>some (false,s1)
  | none=>none
noncomputable def mOr (a b:M Bool):M Bool:=fun s=>match a s with
  | some (true,s1)=>some (true,s1)
  | some (false,s1)=>b s1
  | none=>none
noncomputable def j5 (a:M Bool):M T:=fun s=>match a s with
  | some (b,s1)=>some (.bl b,s1)
  | none=>none
noncomputable def mIf (c:M Bool) (a b:M T):M T:=fun s=>match c s with
  | some (true,s1)=>a s1
  | some (false,s1)=>b s1
  | none=>none
noncomputable abbrev lim:Nat:=1000000
noncomputable def Ah (i:Int):Bool:=decide (-(2 ^ 64)<i∧i<2 ^ 64)
noncomputable def jf:T→T→Option T
  | .int i,.int j=>some (.int (i+j))
  | .str x,.str y=>if x.length+y.length<lim then some (.str (x++y)) else none
  | .tup x,.tup y=>if x.length+y.length<lim then some (.tup (x++y)) else none
  | .lst x,.lst y=>if x.length+y.length<lim then some (.lst (x++y)) else none
  | _,_=>none
noncomputable def lu:T→T→Option T
  | .int i,.int j=>some (.int (i - j))
  | _,_=>none
noncomputable def Dm:T→T→Option T
  | .int i,.int j=>if Ah i||Ah j then some (.int (i * j)) else none
  | .str x,.int j=>if 0≤j∧j≤1000∧x.length≤100 then some (.str ⟨((List.replicate j.toNat x.cps.toList).flatten).toArray⟩) else none
  | _,_=>none
noncomputable def jo:T→T→Option T
  | .int i,.int j=>if 0<j then some (.int (i%j)) else none
  | _,_=>none
noncomputable def fdl:Nat:=2 ^ 200
noncomputable def iw:T→T→Option T
  | .int i,.int j=>if 0<j∧(j<1073741824∨j.natAbs<fdl) then some (.int (i / j)) else none
  | _,_=>none
noncomputable def Pn:T→T→Option T
  | .int i,.int j=>if 0≤j∧j≤1000∧i.natAbs<1000 then some (.int (i ^ j.toNat)) else none
  | _,_=>none
noncomputable def jt:T→Option T
  | .int i=>some (.int (-i))
  | _=>none
noncomputable def ltT:T→T→Option T
  | .int i,.int j=>some (.bl (decide (i<j)))
  | _,_=>none
noncomputable def leT:T→T→Option T
  | .int i,.int j=>some (.bl (decide (i≤j)))
  | _,_=>none
noncomputable def gtT:T→T→Option T
  | .int i,.int j=>some (.bl (decide (j<i)))
  | _,_=>none
noncomputable def geT:T→T→Option T
  | .int i,.int j=>some (.bl (decide (j≤i)))
  | _,_=>none
noncomputable def eqO (x y:T):Option T:=match eqT x y with
  | some b=>some (.bl b)
  | none=>none
noncomputable def neO (x y:T):Option T:=match eqT x y with
  | some b=>some (.bl (!b))
  | none=>none
noncomputable def ixI (n:Nat) (i:Int):Option Nat:=if 0≤i then (if i<n then some i.toNat else none) else if -(n:Int)≤i then some (i+n).toNat else none
noncomputable def gn:T→T→Option T
  | .tup xs,.int i=>(ixI xs.length i).bind (xs[·]?)
  | .lst xs,.int i=>(ixI xs.length i).bind (xs[·]?)
  | .str x,.int i=>if x.length<lim then (ixI x.cps.toList.length i).bind fun j=>(x.cps.toList[j]?).map fun c=>.str ⟨#[c]⟩ else none
  | .dic kvs,k=>(keyOf k).bind (Pk · kvs)
  | _,_=>none
noncomputable def jz:List T→Option T
  | [.tup xs]=>some (.int xs.length)
  | [.lst xs]=>some (.int xs.length)
  | [.str x]=>if x.length<lim then some (.int x.length) else none
  | [.dic kvs]=>some (.int kvs.length)
  | _=>none
noncomputable def inL (x:T):List T→Option Bool
  | []=>some false
  | y::r=>match eqD y x with
    | some e=>(inL x r).map (e || ·)
    | none=>none
noncomputable def inT (x y:T):Option T:=match y with
  | .dic kvs=>(keyOf x).map fun q=>.bl (Pk q kvs).isSome
  | _=>if (dat x).isSome then (match y with
    | .tup ys=>(inL x ys).map .bl
    | .lst ys=>(inL x ys).map .bl
    | _=>none) else none
noncomputable def wu:List T→Option T
  | [.lst xs]=>some (.tup xs)
  | [.tup xs]=>some (.tup xs)
  | _=>none
noncomputable def Ek:List T→Option T
  | [.lst xs]=>some (.lst xs)
  | [.tup xs]=>some (.lst xs)
  | _=>none
noncomputable def Eh:List T→Option (List (Key × T))
  | []=>some []
  | .tup [k,v]::r=>match keyOf k,Eh r with
    | some q,some l=>some ((q,v)::l)
    | _,_=>none
  | _=>none
noncomputable def Jd:List T→Option T
  | [.lst xs]=>if xs.length<lim then (Eh xs).map fun l=>.dic (l.foldl (fun d p=>Tq p.1 p.2 d) []) else none
  | [.tup xs]=>if xs.length<lim then (Eh xs).map fun l=>.dic (l.foldl (fun d p=>Tq p.1 p.2 d) []) else none
  | [.dic kvs]=>some (.dic kvs)
  | _=>none
noncomputable def Jr:List T→Option (List Bool)
  | []=>some []
  | .bl b::r=>(Jr r).map (b :: ·)
  | _=>none
noncomputable def Tw:List T→Option T
  | [.lst xs]=>(Jr xs).map fun l=>.bl (l.all id)
  | _=>none
noncomputable def Ih:List T→Option (List Str)
  | []=>some []
  | .str x::r=>(Ih r).map (x :: ·)
  | _=>none
noncomputable def Vy (x:Str):List Str→List Str
  | []=>[x]
  | y::r=>if decide (x.cps.toList<y.cps.toList) then x::y::r else y::Vy x r
noncomputable def Dd (l:List Str):List Str:=l.foldl (fun acc x=>Vy x acc) []
noncomputable def Dk:List T→Option T
  | [.lst xs]=>if xs.length<64 then (Ih xs).map fun l=>.lst ((Dd l).map .str) else none
  | [.dic kvs]=>if kvs.length<64 then (Ih (kvs.map fun p=>Vo p.1)).map fun l=>.lst ((Dd l).map .str) else none
  | _=>none
noncomputable def isTup:List T→Option T
  | [.tup _]=>some (.bl true)
  | [.obj _]=>none
  | [_]=>some (.bl false)
  | _=>none
noncomputable def isInt:List T→Option T
  | [.int _]=>some (.bl true)
  | [.bl _]=>some (.bl true)
  | [.obj _]=>none
  | [_]=>some (.bl false)
  | _=>none
noncomputable def El:List T→Option T
  | [.bl _]=>some (.bl true)
  | [.obj _]=>none
  | [_]=>some (.bl false)
  | _=>none
noncomputable def isStr:List T→Option T
  | [.str _]=>some (.bl true)
  | [.obj _]=>none
  | [_]=>some (.bl false)
  | _=>none
noncomputable def Z0:T→Option T
  | .lst xs=>some (.lst xs.reverse)
  | .tup xs=>some (.tup xs.reverse)
  | _=>none
noncomputable def Nk:T→Bool
  | .non=>true
  | _=>false
noncomputable def a0r (x y:T):Option T:=if Nk y then some (.bl (Nk x)) else none
noncomputable def mj:List T→Option T
  | [.int i]=>some (.int (if i<0 then -i else i))
  | _=>none
noncomputable def qm (i:Nat):M T:=fun s=>match s.env[i]? with
  | some (some (.lst xs,_))=>some (.int xs.length,s)
  | some (some (.dic xs,_))=>some (.int xs.length,s)
  | _=>none
noncomputable def Nr (i:Nat) (s:Sta):Bool:=match s.env[i]? with
  | some (some (.dic _,_))=>true
  | _=>false
noncomputable def jc (i:Nat) (s:Sta):Bool:=match s.env[i]? with
  | some (some (.lst _,_))=>true
  | _=>false
noncomputable def Ep (i:Nat) (k d:M T):M T:=fun s=>if Nr i s then (match k s with
  | some (kt,s1)=>match d s1 with
    | some (dt,s2)=>match s2.env[i]? with
      | some (some (.dic kvs,_))=>match keyOf kt with
        | some q=>some ((Pk q kvs).getD dt,s2)
        | none=>none
      | _=>none
    | none=>none
  | none=>none) else none
inductive Flow where
  | next | ret (t:T) | brk | cont
noncomputable abbrev S:=Sta→Option (Flow × Sta)
noncomputable def ju:S:=fun s=>some (.next,s)
noncomputable def j9 (a b:S):S:=fun s=>match a s with
  | some (.next,s1)=>b s1
  | r=>r
noncomputable def jl (e:M T):S:=fun s=>match e s with
  | some (t,s1)=>some (.ret t,s1)
  | none=>none
noncomputable def sIf (c:M Bool) (a b:S):S:=fun s=>match c s with
  | some (true,s1)=>a s1
  | some (false,s1)=>b s1
  | none=>none
noncomputable def cg (i:Nat) (t:T) (own:Bool) (s:Sta):Sta:={ s with env:=s.env.set i (some (t,own)) }
noncomputable def ji (i:Nat) (e:M T):S:=fun s=>match e s with
  | some (t,s1)=>some (.next,cg i t false s1)
  | none=>none
noncomputable def sNew (i:Nat) (e:M T):S:=fun s=>match e s with
  | some (t,s1)=>some (.next,cg i t true s1)
  | none=>none
noncomputable def cj (i:Nat) (e:M T):S:=fun s=>if jc i s then (match e s with
  | some (t,s1)=>match s1.env[i]? with
    | some (some (.lst xs,true))=>if xs.length<lim then some (.next,cg i (.lst (xs++[t])) true s1) else none
    | _=>none
  | none=>none) else none
noncomputable def j8:T→Option (List T)
  | .lst xs=>some xs
  | .tup xs=>some xs
  | _=>none
noncomputable def dj (i:Nat) (e:M T):S:=fun s=>if jc i s then (match e s with
  | some (t,s1)=>match j8 t,s1.env[i]? with
    | some ys,some (some (.lst xs,true))=>if xs.length+ys.length<lim then some (.next,cg i (.lst (xs++ys)) true s1) else none
    | _,_=>none
  | none=>none) else none
noncomputable def Fb (i:Nat) (k v:M T):S:=fun s=>match v s with
  | some (t,s1)=>if Nr i s1 then (match k s1 with
    | some (kt,s2)=>match s2.env[i]?,keyOf kt with
      | some (some (.dic kvs,true)),some q=>if kvs.length<lim then some (.next,cg i (.dic (Tq q t kvs)) true s2) else none
      | _,_=>none
    | none=>none) else none
  | none=>none
noncomputable def dg (i:Nat):S:=fun s=>match s.env[i]? with
  | some (some (.lst xs,true))=>some (.next,cg i (.lst xs.reverse) true s)
  | _=>none
noncomputable def sNx (u:S):S:=fun s=>match u s with
  | some (.next,s1)=>some (.next,s1)
  | _=>none
noncomputable def dw (i:Nat):S:=fun s=>match s.env[i]? with
  | some (some (t,true))=>some (.ret t,s)
  | _=>none
noncomputable abbrev G:=T→Sta→Option Sta
noncomputable def hName (i:Nat):G:=fun t s=>some (cg i t false s)
noncomputable def lq (is:List Nat):G:=fun t s=>match t with
  | .tup xs=>if xs.length=is.length then some ((is.zip xs).foldl (fun s p=>cg p.1 p.2 false s) s) else none
  | _=>none
noncomputable def sGo (g:G) (m:M T):S:=fun s=>match m s with
  | some (t,s1)=>match g t s1 with
    | some s2=>some (.next,s2)
    | none=>none
  | none=>none
noncomputable def forL (g:G) (b:S):List T→S
  | []=>fun s=>some (.next,s)
  | t::r=>fun s=>match g t s with
    | some s1=>match b s1 with
      | some (.next,s2)=>forL g b r s2
      | some (.cont,s2)=>forL g b r s2
      | some (.brk,s2)=>some (.next,s2)
      | some (.ret v,s2)=>some (.ret v,s2)
      | none=>none
    | none=>none
noncomputable def kh (g:G) (it:M (List T)) (b:S):S:=fun s=>match it s with
  | some (ts,s1)=>forL g b ts s1
  | none=>none
noncomputable def rangeT (n:Nat):List T:=(List.range n).map fun (k:Nat)=>.int (k:Int)
noncomputable def gj (a:M T):M (List T):=fun s=>match a s with
  | some (.int n,s1)=>if n.natAbs<lim then some (rangeT n.toNat,s1) else none
  | _=>none
noncomputable def jw (a:M T):M (List T):=fun s=>match a s with
  | some (.lst xs,s1)=>if xs.length<lim then some (xs,s1) else none
  | some (.tup xs,s1)=>if xs.length<lim then some (xs,s1) else none
  | _=>none
noncomputable def m8 (s:Slot):Slot:=match s with
  | some (t,_)=>some (t,false)
  | none=>none
noncomputable def uo (s:Sta):Sta:={ s with env:=s.env.map m8 }
noncomputable def Fl (g:G) (c:M Bool) (e:M T):List T→Sta→List T→Option (List T × Sta)
  | [],s,acc=>some (acc,s)
  | t::r,s,acc=>match g t s with
    | some s1=>match c s1 with
      | some (true,s2)=>match e s2 with
        | some (u,s3)=>if acc.length<lim then Fl g c e r (uo s3) (acc++[u]) else none
        | none=>none
      | some (false,s2)=>Fl g c e r (uo s2) acc
      | none=>none
    | none=>none
noncomputable def j7:M Bool:=fun s=>some (true,s)
noncomputable def bw (is:List Nat) (env:List Slot):List Slot:=is.foldl (fun e i=>match e[i]? with
  | some (some (t,_))=>e.set i (some (t,false))
  | _=>e) env
noncomputable def uw (nv:Nat) (cap:List Nat) (g:G) (it:M (List T)) (c:M Bool) (e:M T):M T:=fun s=>match it s with
  | some (ts,s1) =>
    let env:=bw cap s1.env
    match Fl g c e ts ⟨List.replicate nv none++cap.map (fun i=>(env[i]?).getD none),s1.sto⟩ [] with
    | some (us,s2)=>some (.lst us,⟨env,s2.sto⟩)
    | none=>none
  | none=>none
noncomputable def ig (n:Nat) (b:S):Fn:=fun ts sto=>match b ⟨ts.map (fun t=>some (t,false))++List.replicate (n - ts.length) none,sto⟩ with
  | some (.ret t,s)=>some (t,s.sto)
  | some (.next,s)=>some (.non,s.sto)
  | _=>none
noncomputable section
variable {s s':Sta} {t v:T} {a b:M T}
theorem Rx {f:T→T→Option T} (h:mOp f a b s=some (v,s')):∃ t s1 u,a s=some (t,s1)∧b s1=some (u,s')∧f t u=some v:=by
  unfold mOp at h
  cases ha:a s with
  | none=>rw [ha] at h; cases h
  | some p =>
    obtain ⟨t,s1⟩:=p; rw [ha] at h; dsimp only at h
    cases hb:b s1 with
    | none=>rw [hb] at h; cases h -- here
    | some p =>
      obtain ⟨u,s2⟩:=p; rw [hb] at h; dsimp only at h
      cases hf:f t u with
      | none=>rw [hf] at h; cases h
      | some w=>rw [hf] at h; cases h; exact ⟨t,s1,u,rfl,hb,hf⟩
theorem Qu {f:T→Option T} (h:mUn f a s=some (v,s')):∃ t,a s=some (t,s')∧f t=some v:=by
  unfold mUn at h
  cases ha:a s with
  | none=>rw [ha] at h; cases h
  | some p =>
    obtain ⟨t,s1⟩:=p; rw [ha] at h; dsimp only at h
    cases hf:f t with
    | none=>rw [hf] at h; cases h
    | some w=>rw [hf] at h; cases h; exact ⟨t,rfl,hf⟩
theorem Du {f:List T→Option T} {a:M (List T)} (h:gk f a s=some (v,s')):∃ ts,a s=some (ts,s')∧f ts=some v:=by
  unfold gk at h
  cases ha:a s with
  | none=>rw [ha] at h; cases h
  | some p =>
    obtain ⟨t,s1⟩:=p; rw [ha] at h; dsimp only at h
    cases hf:f t with
    | none=>rw [hf] at h; cases h
    | some w=>rw [hf] at h; cases h; exact ⟨t,rfl,hf⟩
theorem Dq {r:M (List T)} {ts:List T} (h:aj a r s=some (ts,s')):∃ t s1 us,a s=some (t,s1)∧r s1=some (us,s')∧ts=t::us:=by
  unfold aj at h
  cases ha:a s with
  | none=>rw [ha] at h; cases h
  | some p =>
    obtain ⟨t,s1⟩:=p; rw [ha] at h; dsimp only at h
    cases hb:r s1 with
    | none=>rw [hb] at h; cases h -- here
    | some p=>obtain ⟨u,s2⟩:=p; rw [hb] at h; cases h; exact ⟨t,s1,u,rfl,hb,rfl⟩
theorem Yb {F:Fn} {a:M (List T)} (h:fu F a s=some (v,s')):∃ ts s1 sto,a s=some (ts,s1)∧F ts s1.sto=some (v,sto)∧s' = { s1 with sto:=sto }:=by
  unfold fu at h
  cases ha:a s with
  | none=>rw [ha] at h; cases h
  | some p =>
    obtain ⟨t,s1⟩:=p; rw [ha] at h; dsimp only at h
    cases hf:F t s1.sto with
    | none=>rw [hf] at h; cases h
    | some w=>obtain ⟨w,sto⟩:=w; rw [hf] at h; cases h; exact ⟨t,s1,sto,rfl,hf,rfl⟩
theorem Ew {b:Bool} (h:fj a s=some (b,s')):a s=some (.bl b,s'):=by
  unfold fj at h
  cases ha:a s with
  | none=>rw [ha] at h; cases h
  | some p =>
    obtain ⟨t,s1⟩:=p; rw [ha] at h
    cases t <;> first | (cases h; rfl) | (cases h)
theorem Mx {c:M Bool} (h:j5 c s=some (v,s')):∃ b,c s=some (b,s')∧v=.bl b:=by
  unfold j5 at h
  cases ha:c s with
  | none=>rw [ha] at h; cases h
  | some p=>obtain ⟨t,s1⟩:=p; rw [ha] at h; cases h; exact ⟨t,rfl,rfl⟩
theorem Sx {c:M Bool} {b:Bool} (h:m7 c s=some (b,s')):∃ k,c s=some (k,s')∧b=!k:=by
  unfold m7 at h
  cases ha:c s with
  | none=>rw [ha] at h; cases h
  | some p=>obtain ⟨t,s1⟩:=p; rw [ha] at h; cases h; exact ⟨t,rfl,rfl⟩
theorem U7 {c d:M Bool} {b:Bool} (h:lg c d s=some (b,s')):(∃ s1,c s=some (true,s1)∧d s1=some (b,s'))∨(c s=some (false,s')∧b=false):=by
  unfold lg at h
  cases ha:c s with
  | none=>rw [ha] at h; cases h
  | some p =>
    obtain ⟨k,s1⟩:=p; rw [ha] at h
    cases k with
    | true=>exact .inl ⟨s1,rfl,h⟩
    | false=>cases h; exact .inr ⟨rfl,rfl⟩
theorem a3k {c d:M Bool} {b:Bool} (h:mOr c d s=some (b,s')):(∃ s1,c s=some (false,s1)∧d s1=some (b,s'))∨(c s=some (true,s')∧b=true):=by
  unfold mOr at h
  cases ha:c s with
  | none=>rw [ha] at h; cases h
  | some p =>
    obtain ⟨k,s1⟩:=p; rw [ha] at h
    cases k with
    | false=>exact .inl ⟨s1,rfl,h⟩
    | true=>cases h; exact .inr ⟨rfl,rfl⟩
theorem a4n {c:M Bool} (h:mIf c a b s=some (v,s')):(∃ s1,c s=some (true,s1)∧a s1=some (v,s'))∨(∃ s1,c s=some (false,s1)∧b s1=some (v,s')):=by
  unfold mIf at h
  cases ha:c s with
  | none=>rw [ha] at h; cases h
  | some p =>
    obtain ⟨k,s1⟩:=p; rw [ha] at h
    cases k with
    | true=>exact .inl ⟨s1,rfl,h⟩
    | false=>exact .inr ⟨s1,rfl,h⟩
theorem Za {i:Nat} (h:bh i s=some (v,s')):(s.env[i]? = some (some (v,false))∧s'=s)∨(s.env[i]? = some (some (v,true))∧s' = { s with env:=s.env.set i (some (v,false)) }):=by
  unfold bh at h
  split at h
  · rename_i t e; cases h; exact .inl ⟨e,rfl⟩
  · rename_i t e; cases h; exact .inr ⟨e,rfl⟩
  · cases h
end
end C
end
noncomputable section
set_option linter.all false
set_option maxRecDepth 100000
set_option maxHeartbeats 4000002
namespace L2
open PySem PySem.Spec PyProof.Rows
noncomputable section
variable {pr:Program} {wd:World} {Ar:Around} {Rs:Result→Shared→Prop} {s:Shared}
theorem Pg {el tgt itr:Expr} {cs:List Expr} {scp:Scope} {ps:Pos} {itv accv:Value} {en:Env} (J:Nat→Shared→Prop)
    (turn:∀ n z,J n z→wpAny (model pr wd) Ar (pyNext itv) (fun nx z1=>match nx with
      | none=>Rs (.ok .next) z1
      | some v=>wpAny (model pr wd) Ar (letOwnedTupleGo tgt itv v) (fun _ z2=>wpAny (model pr wd) Ar (assign tgt en v) (fun _ z3 =>
          wpAny (model pr wd) Ar (forIn cs true fun c go=>if go=true then do let ok ← isTrue c en (eval c en); pure (ForInStep.yield ok) else pure (ForInStep.yield go)) (fun ok z4 =>
            if ok=true then wpAny (model pr wd) Ar (eval el en) (fun x z5 =>
              wpAny (model pr wd) Ar (call (.builtin "list.append") [accv,x]) (fun _ z6=>∃ m,m<n∧J m z6) (fun _ _=>False) z5) (fun _ _=>False) z4
            else ∃ m,m<n∧J m z4) (fun _ _=>False) z3) (fun _ _=>False) z2) (fun _ _=>False) z1) (fun _ _=>False) z)
    (n:Nat) (h:J n s) :
    codeAny (model pr wd) Ar (.compLoop (.ListComp el [⟨tgt,itr,cs,0⟩] scp ps) 0 itv accv en) Rs s:=by
  refine codeAny_loop rfl J (fun k z hz=>?_) n h
  show wpAny _ Ar ((compTurn (.ListComp el [⟨tgt,itr,cs,0⟩] scp ps) 0 itv accv en).onRaise (fun ex=>do noteFrame ex en; theTreesLotGoes ex)) _ _ z
  refine wpAny_noted ?_
  rw [compTurn_list]
  refine wpAny_bind (wpAny_standAt (wpAny_bind (wpAny_mono (turn k z hz) (fun nx z1 g1=>?_) fun _ _ no=>no.elim)))
  cases nx with
  | none=>exact wpAny_pure g1
  | some v =>
    refine wpAny_bind (wpAny_mono g1 (fun _ z2 g2=>?_) fun _ _ no=>no.elim)
    refine wpAny_bind (wpAny_mono g2 (fun _ z3 g3=>wpAny_bind (wpAny_mono g3 (fun ok z4 g4=>?_) fun _ _ no=>no.elim)) fun _ _ no=>no.elim)
    cases ok with
    | false=>exact wpAny_pure (And.intro rfl g4)
    | true =>
      exact wpAny_bind (wpAny_bind (wpAny_mono g4 (fun x z5 g5=>wpAny_bind (wpAny_mono g5 (fun _ z6 g6=>wpAny_pure (wpAny_pure (And.intro rfl g6))) fun _ _ no=>no.elim)) fun _ _ no=>no.elim))
end
noncomputable def Vf (env:Env):List (Str × NameKind)→List (Str × Addr)→List (Str × Addr)
  | [],cs=>cs
  | (n,k)::r,cs=>Vf env r (if (k==NameKind.free)=true then (match env.cells.lookup n with | some c=>(n,c)::cs | none=>cs) else cs)
noncomputable def Fo (env:Env) (names:List (Str × NameKind)):Bool:=names.all fun y=>!(y.2==NameKind.free)||(env.cells.lookup y.1).isSome
theorem Gb {scope:Scope} {env:Env} (h:Fo env scope.names=true):closureFor scope env=pure (Vf env scope.names []):=by
  have key:∀ (l:List (Str × NameKind)) (cs:List (Str × Addr)),Fo env l=true →
      (forIn (m:=Sem) l cs fun x r=>(do
        if (x.2==NameKind.free)=true then
          let c ← cellOf env x.1
          pure (ForInStep.yield ((x.1,c)::r))
        else pure (ForInStep.yield r)))=pure (Vf env l cs):=by
    intro l
    induction l with
    | nil=>intro cs _; rfl
    | cons x r ih =>
      intro cs h
      obtain ⟨n,k⟩:=x
      unfold Fo at h
      rw [List.all_cons,Bool.and_eq_true] at h -- here
      obtain ⟨h1,h2⟩:=h
      rw [List.forIn_cons]
      by_cases hk:(k==NameKind.free)=true
      · have h1':(env.cells.lookup n).isSome=true:=by simpa [hk] using h1
        obtain ⟨c,hc⟩:=Option.isSome_iff_exists.mp h1'
        have e:cellOf env n=pure c:=by unfold cellOf; rw [hc]
        simp only [hk,if_true,e,pure_bind]
        rw [ih _ h2]
        simp only [Vf,hk,if_true,hc]
      · simp only [hk,if_false,pure_bind,Bool.false_eq_true]
        rw [ih _ h2]
        simp only [Vf,hk,if_false,Bool.false_eq_true]
  have:=key scope.names [] h
  unfold closureFor
  simpa using this
noncomputable def Ay (X:Cx) (scope:Scope) (N:List Str) (C:Addr) (s₀:Shared) (H₀:Hp) (ex:List Addr) (pn:List (Addr × Obj)):Cx :=
  { X with N:=N,s₀:=s₀,H₀:=H₀,env:=compEnvC scope (Vf X.env scope.names []) C X.env,outer:=X.stack,ex:=ex,fn:=fun _=>false,pn:=pn,xe:=fun _ _=>False }
structure Kz (X:Cx) (scope:Scope) (N:List Str):Prop where
  has:Fo X.env scope.names=true
  kind:scope.kind=.function
  nocell:∀ y∈scope.names,y.2≠.cell
  names:∀ y∈scope.names,y.2=.local→scope.names.lookup y.1=some .local
noncomputable def a7s (X:Cx) (scope:Scope) (x:Str):Prop :=
  (X.env.kindOf x=some .cell∨X.env.kindOf x=some .free)∧Vis X.env.scope x∧((relabel scope X.env).names.lookup x=some .cell∨(relabel scope X.env).names.lookup x=some .free)
theorem K1 {env:Env}:∀ (l:List (Str × NameKind)) (cs:List (Str × Addr)),(∀ x c,cs.lookup x=some c→env.cells.lookup x=some c) →
    ∀ x c,(Vf env l cs).lookup x=some c→env.cells.lookup x=some c
  | [],cs,h,x,c,e=>h x c e
  | (n,k)::r,cs,h,x,c,e=>by
    rw [Vf] at e
    refine K1 r _ (fun y d q=>?_) x c e
    split at q
    · split at q
      · rename_i c' hc'
        rw [List.lookup_cons] at q
        split at q
        · rename_i hb
          cases q
          have hyn:=eq_of_beq hb
          rw [hyn]; exact hc'
        · exact h y d q
      · exact h y d q
    · exact h y d q
theorem W6 {env:Env}:∀ (l:List (Str × NameKind)) (cs:List (Str × Addr)) (x:Str),(∃ c,cs.lookup x=some c)→∃ c,(Vf env l cs).lookup x=some c
  | [],cs,x,h=>h
  | (n,k)::r,cs,x,h=>by
    rw [Vf]
    refine W6 r _ x ?_
    split
    · split
      · rename_i c' hc'
        rw [List.lookup_cons]
        split
        · exact ⟨_,rfl⟩
        · exact h
      · exact h
    · exact h
theorem Xv {env:Env}:∀ (l:List (Str × NameKind)) (cs:List (Str × Addr)) (x:Str),Fo env l=true→(x,NameKind.free)∈l→∃ c,(Vf env l cs).lookup x=some c
  | [],cs,x,_,h=>by simp at h
  | (n,k)::r,cs,x,hh,h=>by
    unfold Fo at hh
    rw [List.all_cons,Bool.and_eq_true] at hh
    rw [Vf]
    rcases List.mem_cons.mp h with e | h'
    · injection e with e1 e2
      subst e1; subst e2
      have h1:(env.cells.lookup x).isSome=true:=by simpa using hh.1
      obtain ⟨c,hc⟩:=Option.isSome_iff_exists.mp h1
      refine W6 r _ x ?_
      simp [hc]
    · exact Xv r _ x hh.2 h'
theorem mem_of_lookup {α:Type}:∀ {l:List (Str × α)} {x:Str} {k:α},l.lookup x=some k→(x,k)∈l
  | [],_,_,h=>by simp at h
  | (n,k')::r,x,k,h=>by
    rw [List.lookup_cons] at h
    split at h
    · rename_i hb
      cases h
      have hyn:=eq_of_beq hb
      rw [hyn]; exact List.mem_cons_self
    · exact List.mem_cons_of_mem _ (mem_of_lookup h)
theorem Uj {scope:Scope} {env:Env} (nc:∀ y∈scope.names,y.2≠.cell) {x:Str} (h:(relabel scope env).names.lookup x=some .cell∨(relabel scope env).names.lookup x=some .free):(x,NameKind.free)∈scope.names:=by
  have:∃ k,(x,k)∈(relabel scope env).names∧(k=.cell∨k=.free):=by
    rcases h with h | h
    · exact ⟨_,mem_of_lookup h,.inl rfl⟩
    · exact ⟨_,mem_of_lookup h,.inr rfl⟩
  obtain ⟨k,hm,hk⟩:=this
  obtain ⟨⟨n,k'⟩,hm',e⟩:=List.mem_map.mp hm
  dsimp only at e
  split at e
  · rename_i hc
    cases e
    simp only [Bool.and_eq_true,beq_iff_eq] at hc
    obtain ⟨⟨h1,_⟩,_⟩:=hc
    subst h1; exact hm'
  · cases e
    rcases hk with rfl | rfl
    · exact absurd rfl (nc _ hm')
    · exact hm'
noncomputable def PTs (X:Cx) (ifs:List Expr) (t:TT):Prop:=∀ (pins:List (Addr × Obj)) (s:Shared) (σ:St) (H:Hp) (Q:Bool→Hp→Prop),Inv X pins σ H s→t σ H Q →
  wpAny (model X.prog X.w) X.A (forIn ifs true fun c r=>if r=true then do let ok ← isTrue c X.env (eval c X.env); pure (ForInStep.yield ok) else pure (ForInStep.yield r)) (TP X pins σ Q) X.xe s
theorem a3f {X:Cx}:PTs X [] (fun _ H Q=>Q true H):=fun pins s σ H Q I h=>wpAny_tests_nil ⟨H,I,h⟩
theorem a2k {X:Cx} {c:Expr} {t:TT} (h:PT X c t):PTs X [c] t:=fun pins s σ H Q I q=>wpAny_tests_one (h pins s σ H Q I q)
noncomputable def Px (X:Cx) (scope:Scope) (N:List Str) (g:TG) (tc:TT) (te:TE) (σ:St) (J:It) (H1:Hp) (Q:VK):Prop:=∀ D,H1 D=none→∃ σ0:St,σ0.length=N.length ∧
  (∀ (i:Nat) (v:V) (x:Str),σ0[i]? = some (some v)→N[i]? = some x→Vis (relabel scope X.env) x→∃ k:Nat,X.N[k]? = some x∧σ[k]? = some (some v)∧a7s X scope x) ∧
  ∃ W:Nat→Nat→St→Hp→Prop,(∃ m,W 0 m σ0 (upd H1 D (.lst [])))∧∀ i m σ' H',W i m σ' H' →
    (J.stop i H'∧Q (.ref D) H')∨(J.go i H'∧∀ x H2,J.yld i H' x H2→g x σ' H2 fun σ2 H3=>tc σ2 H3 fun b H4=>if b=true then te σ2 H4 fun y H5=>∃ l,H5 D=some (.lst l)∧l.length<sizeLine∧∃ m',m'<m∧W (i+1) m' σ2 (upd H5 D (.lst (l++[y]))) else ∃ m',m'<m∧W (i+1) m' σ2 H4)
noncomputable def a4z (X:Cx) (scope:Scope) (N:List Str) (wi:TI) (g:TG) (tc:TT) (te:TE):TE:=fun σ H Q=>wi σ H fun J H1=>Px X scope N g tc te σ J H1 Q
noncomputable section
variable {X:Cx} {scope:Scope} {N:List Str}
theorem Xw (sc:Kz X scope N) {pins:List (Addr × Obj)} {σ:St} {H:Hp} {s:Shared} {fp:List Addr} (I:Inv X pins σ H s) (hf:∀ b∈fp,Ox X pins H b) (hfl:∀ b∈fp,b<s.heap.objs.size) :
    (Ay X scope N s.heap.objs.size s H fp (X.pn++pins)).Ok where
  mod:=I.ok.mod
  kind:=sc.kind
  glob:=I.ok.glob
  blt:=I.ok.blt
  above:=Nat.le_refl _
  inj:=fun x y c h1 h2=>I.ok.inj x y c (K1 _ [] (fun _ _ z=>by simp at z) x c h1) (K1 _ [] (fun _ _ z=>by simp at z) y c h2)
  has:=fun x h=>Xv _ [] x sc.has (Uj sc.nocell h)
  cab:=fun x c h=>by cases h
  hd:=I.ok.hd
  frames:=I.ok.frames
  stk:=.inl rfl
  exf:=fun b hb=>⟨Nat.ne_of_lt (hfl b hb),fun x c h=>(hf b hb).2.2.2.2.1 x c (K1 _ [] (fun _ _ z=>by simp at z) x c h)⟩
  bs:=I.bs
  bsz:=Nat.le_trans I.ok.bsz I.sz
  noex:=fun b o e hb=>by
    rcases (hf b hb).2.2.2.1 with z | z
    · exact I.ok.noex b o e z
    · exact absurd (Nat.lt_of_lt_of_le (Heap.lt_size e) (Nat.le_trans I.ok.bsz z)) (Nat.lt_irrefl _)
  exfs:=fun b hb z=>by
    rcases List.mem_cons.mp (I.Uk b z) with e | e
    · exact (hf b hb).2.1 e
    · exact (hf b hb).2.2.1 e
  Vz:=I.stack
  frf:=I.W4
theorem Vs (sc:Kz X scope N) {pins:List (Addr × Obj)} {σ σ0:St} {H:Hp} {s:Shared} {fp:List Addr} {h':Heap} {m:Str→Option Value} {tk:Nat} (I:Inv X pins σ H s) (hf:∀ b∈fp,Ox X pins H b) (hfl:∀ b∈fp,b<s.heap.objs.size)
    (hl:σ0.length=N.length) (h0:∀ (i:Nat) (v:V) (x:Str),σ0[i]? = some (some v)→N[i]? = some x→Vis (relabel scope X.env) x→∃ k:Nat,X.N[k]? = some x∧σ[k]? = some (some v)∧a7s X scope x)
    (hn:h'.Ns s.heap.objs.size m) (hk:∀ b o,s.heap.get? b=some o→h'.get? b=some o) :
    Inv (Ay X scope N s.heap.objs.size s H fp (X.pn++pins)) [] σ0 H { s with heap:=h',toks:=tk } where
  ok:=Xw sc I hf hfl
  os:=rfl
  bare:=I.bare
  base:=Un.kept hk
  loc:=⟨m,hn,fun i x v e1 e2 e3=>by
    obtain ⟨k,n2,n3,ck,cv,cr⟩:=h0 i v x e2 e1 e3
    obtain ⟨m0,_,hl0⟩:=I.loc
    obtain ⟨u,r,l⟩:=hl0 k x v n2 n3 cv
    refine ⟨u,r,.inr ⟨cr,?_⟩⟩
    rcases l with ⟨l1,_⟩ | ⟨_,c,hc,z⟩
    · rcases ck with q | q <;> (rw [l1] at q; cases q)
    · obtain ⟨c',hc'⟩:=Xv (env:=X.env) scope.names [] x sc.has (Uj sc.nocell cr)
      have q:=K1 scope.names [] (fun _ _ z=>by simp at z) x c' hc'
      rw [hc] at q; cases q
      obtain ⟨o,ho,hd⟩:=z
      exact ⟨c,hc',o,hk _ _ ho,hd⟩⟩
  cell:=fun x c e=>by
    obtain ⟨v,o,ho,hd⟩:=I.cell x c (K1 scope.names [] (fun _ _ z=>by simp at z) x c e)
    exact ⟨v,o,hk _ _ ho,hd⟩
  free:=I.hok.fresh (Nat.le_refl _)
  freeC:=fun x c e=>I.freeC x c (K1 scope.names [] (fun _ _ z=>by simp at z) x c e)
  pin:=fun p hp=>by
    have hp':p∈X.pn++pins:=by simpa [Ay] using hp
    obtain ⟨a,b,c,d,e⟩:=I.pin p hp'
    refine ⟨hk _ _ a,b,Nat.ne_of_lt (Heap.lt_size a),fun z=>?_,e⟩
    rcases List.mem_cons.mp (I.Uk p.1 z) with q | q
    · exact c q
    · exact d q
  hok:=I.hok.kept hk
  len:=hl
theorem T4 {pins:List (Addr × Obj)} {σ σ':St} {H H':Hp} {s s':Shared} {fp:List Addr} {h':Heap} (I:Inv X pins σ H s) (hf:∀ b∈fp,Ox X pins H b)
    (J:Inv (Ay X scope N s.heap.objs.size s H fp (X.pn++pins)) [] σ' H' s') (hs:Heap.SameBut s.heap.objs.size s'.heap h'):Inv X pins σ H' { s' with heap:=h' }:=by
  have kb:∀ b o,b≠s.heap.objs.size→s'.heap.get? b=some o→h'.get? b=some o:=fun b o n e=>hs.extBut b o n e
  have ne:∀ b o,s.heap.get? b=some o→b≠s.heap.objs.size:=fun b o e=>Nat.ne_of_lt (Heap.lt_size e)
  have fr:H' s.heap.objs.size=none:=J.free
  have u0:Un (frs X.stack) fp H H' s.heap s'.heap:=J.base
  have u:Un (frs X.stack) fp H H' s.heap h':=⟨fun b o e n h1 h2=>kb b o (ne b o e) (u0.keep b o e n h1 h2),fun b o e n h1 h2=>by
      obtain ⟨sl,q⟩:=u0.slot b o e n h1 h2
      exact ⟨sl,kb b _ (ne b o e) q⟩,u0.free,fun b o e h=>by
      obtain ⟨o',q⟩:=u0.there b o e h
      exact ⟨o',kb b _ (ne b o e) q⟩,u0.tups,u0.frzs,u0.tbls⟩
  have hok:HOk X.prog X.w H' h':=fun b o e=>by
    refine (J.hok b o e).stay (fun c v hc q=>kb c v ?_ q) (fun _ q=>q) fun _ _ q=>q
    rcases hc with z | z
    · rw [z]; intro y; rw [y] at e; rw [fr] at e; cases e
    · intro y; rw [y] at z; rw [fr] at z; cases z
  have hos:s'.os=s.os:=J.os
  obtain ⟨hh,g,d,t,os'⟩:=s'
  obtain rfl:os'=s.os:=hos
  exact Inv.call (X:=X) (s:=s) (H:=H) (h':=h') (g':=g) (d':=d) (t':=t) (ch:=fp) I u hok J.bare fun b hb=>⟨(hf b hb).2.2.2.1,(hf b hb).2.1,(hf b hb).2.2.2.2.1,(hf b hb).2.2.2.2.2⟩
variable {tg iter elt:Expr} {ifs:List Expr} {pos:Pos} {g:TG} {tc:TT} {te:TE}
theorem Le (sc:Kz X scope N) (calm:X.calm=true)
    (hg:∀ C s₀ H₀ ex pn,PG (Ay X scope N C s₀ H₀ ex pn) tg g) (hc:∀ C s₀ H₀ ex pn,PTs (Ay X scope N C s₀ H₀ ex pn) ifs tc) (he:∀ C s₀ H₀ ex pn,PE (Ay X scope N C s₀ H₀ ex pn) elt te)
    {pins:List (Addr × Obj)} {σ:St} {H1:Hp} {s₂:Shared} {it:Addr} {fp:List Addr} {tn:Nat→Heap→Prop} {J:It} {Q:VK} {E:Value→Shared→Prop} {RR:Value→Addr→Result→Shared→Prop}
    (I:Inv X pins σ H1 s₂) (T:Turn X.prog X.w X.K tg J fp it tn) (st2:tn 0 s₂.heap) (f2:∀ b∈fp,Ox X pins H1 b) (q:Px X scope N g tc te σ J H1 Q)
    (hRR:∀ D s₃ H3 σ' H' s',Inv X pins σ H3 s₃→(∀ b∈fp,Ox X pins H3 b)→Inv (Ay X scope N s₃.heap.objs.size s₃ H3 fp (X.pn++pins)) [] σ' H' s'→Q (.ref D) H'→RR (.ref D) s₃.heap.objs.size (.ok .next) s') :
    wpAny (model X.prog X.w) X.A (newList []) (fun acc s₃=>wpAny (model X.prog X.w) X.A (newFunctionEnv scope X.env.globals (Vf X.env scope.names []) [] X.env.qual none .none (some X.env)) (fun cenv s₄ =>
      codeAny (model X.prog X.w) X.A (.compStart (.ListComp elt [⟨tg,iter,ifs,0⟩] scope pos) 0 (.ref it) acc { cenv with scope:=relabel scope X.env }) (RR acc cenv.locals) s₄) E s₃) E s₂:=by
  refine wpAny_newObj_type (wpAny_newFunctionEnv sc.nocell (by intro y hy; simp at hy) (fun h₁ hns₁ hsb₁=>?_) sc.kind)
  dsimp only at hns₁ hsb₁ ⊢
  have I3:Inv X pins σ (upd H1 s₂.heap.objs.size (.lst [])) { s₂ with heap:=s₂.heap.push { cls:=.type "list",dict:=none,data:=.seq ([]:List Value).toArray } } :=
    I.laid (t':=s₂.toks) (fun b ob q=>Heap.get?_push_of_some _ q) (Nat.le_refl _) ⟨Nat.zero_le _,[],_,.nil,Heap.get?_push_size _ rfl⟩
  generalize hs3:({ s₂ with heap:=s₂.heap.push { cls:=.type "list",dict:=none,data:=.seq ([]:List Value).toArray } }:Shared)=s₃ at I3
  have hheap:s₂.heap.push { cls:=.type "list",dict:=none,data:=.seq ([]:List Value).toArray } = s₃.heap:=by rw [← hs3]
  have hstate:∀ (h:Heap) (t:Nat),({ s₂ with heap:=h,toks:=t }:Shared) = { s₃ with heap:=h,toks:=t }:=fun h t=>by rw [← hs3]
  rw [hheap] at hns₁ hsb₁ ⊢
  have lt2:∀ b∈fp,b<s₂.heap.objs.size:=fun b hb=>by
    obtain ⟨o,ho,_⟩:=T.obj _ _ st2 b hb
    exact Heap.lt_size ho
  have sz3:s₃.heap.objs.size=s₂.heap.objs.size+1:=by rw [← hheap,Heap.size_push]
  have k23:∀ b o,s₂.heap.get? b=some o→s₃.heap.get? b=some o:=fun b o e=>by rw [← hheap]; exact Heap.get?_push_of_some _ e
  have f3:∀ b∈fp,Ox X pins (upd H1 s₂.heap.objs.size (.lst [])) b:=fun b hb=>⟨by rw [ql (Nat.ne_of_lt (lt2 b hb))]; exact (f2 b hb).1,(f2 b hb).2⟩
  have lt3:∀ b∈fp,b<s₃.heap.objs.size:=fun b hb=>by rw [sz3]; exact Nat.lt_succ_of_lt (lt2 b hb)
  obtain ⟨σ0,hl,h0,W,⟨m0,w0⟩,turn⟩:=q s₂.heap.objs.size (I.hok.fresh (Nat.le_refl _))
  have k34:∀ b o,s₃.heap.get? b=some o→h₁.get? b=some o:=fun b o e=>hsb₁.extBut b o (Nat.ne_of_lt (Heap.lt_size e)) (Heap.get?_push_of_some _ e)
  rw [hstate]
  have J0:=Vs (tk:=s₂.toks+([]:List (Str × Value)).length) sc I3 f3 lt3 hl h0 hns₁ k34
  have st4:tn 0 h₁:=T.keep _ _ _ st2 fun b _ o e=>k34 b o (k23 b o e)
  have key:∀ s₄:Shared,s₄ = { s₃ with heap:=h₁,toks:=s₂.toks+([]:List (Str × Value)).length }→codeAny (model X.prog X.w) X.A (.compLoop (.ListComp elt [⟨tg,iter,ifs,0⟩] scope pos) 0 (.ref it) (.ref s₂.heap.objs.size)
      (Ay X scope N s₃.heap.objs.size s₃ (upd H1 s₂.heap.objs.size (.lst [])) fp (X.pn++pins)).env) (RR (.ref s₂.heap.objs.size) s₃.heap.objs.size) s₄:=by
    rintro s₄ rfl
    generalize hX:Ay X scope N s₃.heap.objs.size s₃ (upd H1 s₂.heap.objs.size (.lst [])) fp (X.pn++pins)=X' at J0
    have hP:X'.prog=X.prog:=by rw [← hX]; rfl
    have hW:X'.w=X.w:=by rw [← hX]; rfl
    have hA:X'.A=X.A:=by rw [← hX]; rfl
    have hxe:X'.xe=fun _ _=>False:=by rw [← hX]; rfl
    have hK:X'.K=X.K:=by rw [← hX]; rfl
    have hcal:X'.calm=true:=by rw [← hX]; exact calm
    have stat:∀ {H':Hp},(∀ b∈fp,H' b=none)→∀ b∈fp,Ox X' [] H' b:=fun hn b hb=>by
      have z:=Xw sc I3 f3 lt3
      rw [hX] at z
      refine ⟨hn b hb,(z.exf b (by rw [← hX]; exact hb)).1,z.exfs b (by rw [← hX]; exact hb),.inl (by rw [← hX]; exact hb),(z.exf b (by rw [← hX]; exact hb)).2,fun p hp=>?_⟩
      have hp':p∈X.pn++pins:=by rw [← hX] at hp; simpa [Ay] using hp
      exact (f3 b hb).2.2.2.2.2 p hp'
    have hg':PG X' tg g:=by rw [← hX]; exact hg _ _ _ _ _
    have hc':PTs X' ifs tc:=by rw [← hX]; exact hc _ _ _ _ _
    have he':PE X' elt te:=by rw [← hX]; exact he _ _ _ _ _
    have fin:∀ σ' H' s',Inv X' [] σ' H' s'→Q (.ref s₂.heap.objs.size) H'→RR (.ref s₂.heap.objs.size) s₃.heap.objs.size (.ok .next) s':=fun σ' H' s' I' q'=>hRR _ s₃ _ σ' H' s' I3 f3 (by rw [hX]; exact I') q'
    have T':Turn X'.prog X'.w X'.K tg J fp it tn:=by rw [hP,hW,hK]; exact T
    rw [← hP,← hW,← hA]
    refine Pg (J:=fun n s'=>∃ i σ' H',Inv X' [] σ' H' s'∧tn i s'.heap∧(∀ b∈fp,H' b=none)∧W i n σ' H') ?_ m0 ⟨0,σ0,_,J0,st4,fun b hb=>(f3 b hb).1,w0⟩
    rintro n s5 ⟨i,σ5,H5,I5,st5,fr5,w5⟩
    rcases turn i n σ5 H5 w5 with ⟨stop,qn⟩ | ⟨go,step⟩
    · refine thn (T'.done X' rfl rfl rfl hcal i [] s5 σ5 H5 _ I5 (stat fr5) st5 stop) fun r s6 z0=>?_
      obtain ⟨hr,I6⟩:=z0
      subst hr
      exact fin _ _ _ I6 qn
    · refine thn (T'.item X' rfl rfl rfl hcal i [] s5 σ5 H5 _ I5 (stat fr5) st5 go) fun r s6 z0=>?_
      obtain ⟨u,hr,h6⟩:=z0
      subst hr
      refine thn h6 fun _ s7 z0=>?_
      obtain ⟨x,H7,I7,r7,y7,st7,fr7⟩:=z0
      have I7':=I7.pinned (stat fr7) (T'.obj _ _ st7)
      have a1:=hg' _ s7 σ5 H7 x u _ I7' r7 (step x H7 y7)
      rw [hxe] at a1
      refine thn a1 fun _ s8 z0=>?_
      obtain ⟨σ8,H8,I8,q8⟩:=z0
      have a2:=hc' _ s8 σ8 H8 _ I8 q8
      rw [hxe] at a2
      refine thn a2 fun ok s9 z0=>?_
      obtain ⟨H9,I9,q9⟩:=z0
      have again:∀ {σ7:St} {H7:Hp} {s':Shared} {m':Nat},Inv X' ([]++Om fp s7.heap) σ7 H7 s'→m'<n→W (i+1) m' σ7 H7→∃ m,m<n∧∃ i σ' H',Inv X' [] σ' H' s'∧tn i s'.heap∧(∀ b∈fp,H' b=none)∧W i m σ' H':=fun {σ7 H7 s' m'} I7 hm w7=>by
        refine ⟨m',hm,i+1,σ7,H7,I7.Gn,T'.keep _ _ _ st7 fun b hb o e=>(I7.pin (b,o) (List.mem_append_right _ (List.mem_append_right _ (Dr hb e)))).1,fun b hb=>?_,w7⟩
        obtain ⟨o,e,d⟩:=T'.obj _ _ st7 b hb
        exact (I7.pin (b,o) (List.mem_append_right _ (List.mem_append_right _ (Dr hb e)))).2.1
      cases ok with
      | false =>
        rw [if_neg Bool.false_ne_true] at q9 ⊢
        obtain ⟨m',hm,w9⟩:=q9
        exact again I9 hm w9
      | true =>
        rw [if_pos rfl] at q9 ⊢
        have a3:=he' _ s9 σ8 H9 _ I9 q9
        rw [hxe] at a3
        refine thn a3 fun xv s10 z0=>?_
        obtain ⟨y,H10,I10,r10,l,hl10,hz10,m',hm,w10⟩:=z0
        have a4:=qz (X:=X') _ s10 σ8 H10 (.ref s₂.heap.objs.size) [y] (.ref s₂.heap.objs.size) [xv] (fun _ H'=>H'=upd H10 s₂.heap.objs.size (.lst (l++[y]))) I10 rfl (.cons r10 .nil) ⟨_,l,y,rfl,rfl,hl10,hz10,rfl⟩
        rw [hxe] at a4
        refine thn a4 fun _ s11 z0=>?_
        obtain ⟨v,H11,I11,_,e11⟩:=z0
        subst e11
        exact again I11 hm w10
  exact codeAny_compStart_list (key _ rfl) (T.self _ 0 _ _ _ st4 (key _ rfl))
theorem a3p {wi:TI} (sc:Kz X scope N) (calm:X.calm=true) (hi:PI X tg iter wi)
    (hg:∀ C s₀ H₀ ex pn,PG (Ay X scope N C s₀ H₀ ex pn) tg g) (hc:∀ C s₀ H₀ ex pn,PTs (Ay X scope N C s₀ H₀ ex pn) ifs tc) (he:∀ C s₀ H₀ ex pn,PE (Ay X scope N C s₀ H₀ ex pn) elt te)
    (hs:∀ x,foldedSetIterable iter X.env x=pure x:=by intro _; rfl):PE X (.ListComp elt [⟨tg,iter,ifs,0⟩] scope pos) (a4z X scope N wi g tc te):=by
  intro pins s σ H Q I h
  rw [eval_ListComp]
  refine wpAny_comprehension_free (use:=none) rfl hs (Gb sc.has) sc.kind sc.names ?_
  refine wpAny_mono (hi pins s σ H _ I h) (fun x s₁ h₁=>wpAny_mono h₁ (fun itv s₂ h₂=>?_) fun _ _ e=>e) fun _ _ e=>e
  obtain ⟨it,fp,tn,J,H1,rfl,I2,T,st2,f2,q⟩:=h₂
  refine Le (RR:=fun acc C=>compPost (model X.prog X.w) X.A X.xe none (EP X pins σ Q) acc C) sc calm hg hc he I2 T st2 f2 q ?_
  intro D s₃ H3 σ' H' s' I3 f3 I' qn
  obtain ⟨m,hn,_⟩:=I'.loc
  exact ⟨m,hn,fun h' hs'=>⟨.ref D,H',T4 I3 f3 I' hs',rfl,qn⟩⟩
theorem Ja {wi:TI} {y:Str} {py spos:Pos} {i:Nat} (sc:Kz X scope N) (calm:X.calm=true) (hi:PI X tg iter wi)
    (hg:∀ C s₀ H₀ ex pn,PG (Ay X scope N C s₀ H₀ ex pn) tg g) (hc:∀ C s₀ H₀ ex pn,PTs (Ay X scope N C s₀ H₀ ex pn) ifs tc) (he:∀ C s₀ H₀ ex pn,PE (Ay X scope N C s₀ H₀ ex pn) elt te)
    (hgN:PG X (.Name y py) (Hz i)) (hsw:swapsWith (.ListComp elt [⟨tg,iter,ifs,0⟩] scope pos) (some (.Name y py)) spos.line X.env=pure true)
    (hs:∀ x,foldedSetIterable iter X.env x=pure x:=by intro _; rfl):PS X (.Assign [.Name y py] (.ListComp elt [⟨tg,iter,ifs,0⟩] scope pos) spos) (a2w (a4z X scope N wi g tc te) (Hz i)):=by
  intro pins s σ H D I h
  rw [exec_Assign_Name_used _ _ _ _ hsw] -- here
  refine wpAny_bind (wpAny_standAt (wpAny_bind ?_)) -- here
  show wpAny _ X.A (do let _ ← comprehension (.ListComp elt [⟨tg,iter,ifs,0⟩] scope pos) scope X.env _ (newList []) false (eval iter X.env) (some (assign (.Name y py) X.env))) _ _ s
  refine wpAny_bind (wpAny_mono (wpAny_comprehension_free (use:=some (assign (.Name y py) X.env)) (Q:=fun _ s'=>SP X pins D .next s') rfl hs (Gb sc.has) sc.kind sc.names ?_) (fun _ s' hq=>wpAny_pure (wpAny_pure hq)) fun _ _ e=>e)
  refine wpAny_mono (hi pins s σ H _ I h) (fun x s₁ h₁=>wpAny_mono h₁ (fun itv s₂ h₂=>?_) fun _ _ e=>e) fun _ _ e=>e
  obtain ⟨it,fp,tn,J,H1,rfl,I2,T,st2,f2,q⟩:=h₂
  refine Le (RR:=fun acc C=>compPost (model X.prog X.w) X.A X.xe (some (assign (.Name y py) X.env)) (fun _ s'=>SP X pins D .next s') acc C) sc calm hg hc he I2 T st2 f2 q ?_
  intro D' s₃ H3 σ' H' s' I3 f3 I' qn
  obtain ⟨m,hn,_⟩:=I'.loc
  obtain ⟨oC,es,ep,hoC,hdC,hrest⟩:=id hn
  have IX:Inv X pins σ H' s':=T4 I3 f3 I' (.refl ..)
  have fC:Ox X pins H' s₃.heap.objs.size:=I3.a5e (Nat.le_refl _) I'.free
  have IXp:=IX.pinned (fp:=[s₃.heap.objs.size]) (fun b hb=>by rw [List.mem_singleton.mp hb]; exact fC) (fun b hb=>by
    rw [List.mem_singleton.mp hb]
    exact ⟨oC,hoC,fun v z=>by rw [hdC] at z; cases z⟩)
  show wpAny _ X.A (assign (.Name y py) X.env (.ref D')) _ _ _
  refine thn (hgN _ s' σ H' (.ref D') (.ref D') _ IXp rfl qn) fun _ s'' z0=>?_
  obtain ⟨σ'',H'',I'',q''⟩:=z0
  have pC:=I''.pin (s₃.heap.objs.size,oC) (List.mem_append_right _ (List.mem_append_right _ (Dr (by simp) hoC)))
  refine ⟨m,⟨oC,es,ep,pC.1,hdC,hrest⟩,fun h' hs'=>⟨σ'',H'',?_,q''⟩⟩
  exact I''.Gn.turned (h':=h') (t':=s''.toks) (it:=s₃.heap.objs.size) (fun b o ne e=>hs'.extBut b o ne e) pC.2.1 fC.2.1 fC.2.2.2.1 fC.2.2.2.2.1 fC.2.2.2.2.2
end
end L2
end
noncomputable section
set_option linter.all false
set_option maxHeartbeats 4000002
set_option autoImplicit false
namespace C
open PySem PySem.Spec PyProof.Rows L2
mutual
inductive Rep (K:PySem.W.Frag) (S:Hp) (as:List Addr):V→T→Prop where
  | non:Rep K S as .non .non
  | bl (b:Bool):Rep K S as (.bl b) (.bl b)
  | int (i:Int):Rep K S as (.int i) (.int i)
  | str (x:Str):Rep K S as (.str x) (.str x)
  | tup {a:Addr} {vs:List V} {ts:List T}:SqT K S a vs→yt K S as vs ts→Rep K S as (.ref a) (.tup ts)
  | lst {a:Addr} {vs:List V} {ts:List T}:SqL K S a vs→yt K S as vs ts→Rep K S as (.ref a) (.lst ts)
  | dic {a:Addr} {kvs:List (L2.Key × V)} {ts:List (L2.Key × T)}:Rd S a (.dK kvs)→Fq K S as kvs ts→Rep K S as (.ref a) (.dic ts)
  | obj {n:Nat} {a:Addr}:as[n]? = some a→Rep K S as (.ref a) (.obj n)
inductive yt (K:PySem.W.Frag) (S:Hp) (as:List Addr):List V→List T→Prop where
  | nil:yt K S as [] []
  | cons {v:V} {t:T} {vs:List V} {ts:List T}:Rep K S as v t→yt K S as vs ts→yt K S as (v::vs) (t::ts)
inductive Fq (K:PySem.W.Frag) (S:Hp) (as:List Addr):List (L2.Key × V)→List (L2.Key × T)→Prop where
  | nil:Fq K S as [] []
  | cons {k:L2.Key} {v:V} {t:T} {vs:List (L2.Key × V)} {ts:List (L2.Key × T)}:Rep K S as v t→Fq K S as vs ts→Fq K S as ((k,v)::vs) ((k,t)::ts)
end
theorem Ci {S S':Hp} {a:Addr} {u:HO} (e:Same S S') (h:Rd S a u):Rd S' a u:=by
  rcases h with h | ⟨o,h⟩
  · exact .inl (e _ _ h)
  · exact .inr ⟨o,e _ _ h⟩
theorem qd {K:PySem.W.Frag} {S S':Hp} {a:Addr} {xs:List V} (e:Same S S') (h:SqT K S a xs):SqT K S' a xs:=by
  rcases h with h | h
  · exact .inl (Ci e h)
  · exact .inr h
theorem rm {K:PySem.W.Frag} {S S':Hp} {a:Addr} {xs:List V} (e:Same S S') (h:SqL K S a xs):SqL K S' a xs:=by
  rcases h with h | h
  · exact .inl (Ci e h)
  · exact .inr h
noncomputable section
variable {K:PySem.W.Frag} {S S':Hp} {as as':List Addr}
theorem a3x {α:Type} {l r:List α} {n:Nat} {a:α} (h:l[n]? = some a):(l++r)[n]? = some a:=by
  have:=(List.getElem?_eq_some_iff.mp h).1
  rw [List.getElem?_append_left this]; exact h
mutual
theorem Rep.mono (e:Same S S') (x:∃ l,as'=as++l):∀ {v:V} {t:T},Rep K S as v t→Rep K S' as' v t
  | _,_,.non=>.non
  | _,_,.bl b=>.bl b
  | _,_,.int i=>.int i
  | _,_,.str y=>.str y
  | _,_,.tup h r=>.tup (qd e h) (yt.mono e x r)
  | _,_,.lst h r=>.lst (rm e h) (yt.mono e x r)
  | _,_,.dic h r=>.dic (Ci e h) (Fq.mono e x r)
  | _,_,.obj h=>.obj (by obtain ⟨l,rfl⟩:=x; exact a3x h)
theorem yt.mono (e:Same S S') (x:∃ l,as'=as++l):∀ {v:List V} {t:List T},yt K S as v t→yt K S' as' v t
  | _,_,.nil=>.nil
  | _,_,.cons h r=>.cons (Rep.mono e x h) (yt.mono e x r)
theorem Fq.mono (e:Same S S') (x:∃ l,as'=as++l):∀ {v:List (L2.Key × V)} {t:List (L2.Key × T)},Fq K S as v t→Fq K S' as' v t
  | _,_,.nil=>.nil
  | _,_,.cons h r=>.cons (Rep.mono e x h) (Fq.mono e x r)
end
theorem yt.length:∀ {vs:List V} {ts:List T},yt K S as vs ts→vs.length=ts.length
  | _,_,.nil=>rfl
  | _,_,.cons _ r=>congrArg (· + 1) r.length
theorem Fq.length:∀ {vs:List (L2.Key × V)} {ts:List (L2.Key × T)},Fq K S as vs ts→vs.length=ts.length
  | _,_,.nil=>rfl
  | _,_,.cons _ r=>congrArg (· + 1) r.length
theorem yt.get:∀ {vs:List V} {ts:List T} {i:Nat} {t:T},yt K S as vs ts→ts[i]? = some t→∃ v,vs[i]? = some v∧Rep K S as v t
  | _,_,_,_,.nil,e=>by simp at e
  | _,_,0,_,.cons r _,e=>by simp at e; subst e; exact ⟨_,rfl,r⟩
  | _,_,i+1,t,.cons _ r,e=>by
    obtain ⟨v,h1,h2⟩:=yt.get (i:=i) (t:=t) r (by simpa using e)
    exact ⟨v,by simpa using h1,h2⟩
theorem yt.append:∀ {vs:List V} {ts:List T} {ws:List V} {us:List T},yt K S as vs ts→yt K S as ws us→yt K S as (vs++ws) (ts++us)
  | _,_,_,_,.nil,q=>q
  | _,_,_,_,.cons h r,q=>.cons h (yt.append r q)
theorem yt.reverse:∀ {vs:List V} {ts:List T},yt K S as vs ts→yt K S as vs.reverse ts.reverse
  | _,_,.nil=>.nil
  | _,_,.cons h r=>by rw [List.reverse_cons,List.reverse_cons]; exact yt.append (yt.reverse r) (.cons h .nil)
theorem yt.drop:∀ (n:Nat) {vs:List V} {ts:List T},yt K S as vs ts→yt K S as (vs.drop n) (ts.drop n)
  | 0,_,_,r=>r
  | _+1,_,_,.nil=>.nil
  | n+1,_,_,.cons _ r=>yt.drop n r
theorem Fq.get (k:L2.Key):∀ {vs:List (L2.Key × V)} {ts:List (L2.Key × T)},Fq K S as vs ts→(∃ v t,O7 vs k=some v∧Pk k ts=some t∧Rep K S as v t)∨(O7 vs k=none∧Pk k ts=none)
  | _,_,.nil=>.inr ⟨rfl,rfl⟩
  | _,_,.cons (k:=q) (v:=v) (t:=t) (vs:=vs) (ts:=ts) h r=>by
    by_cases e:q=k
    · exact .inl ⟨v,t,Iu (p:=(q,v)) e,by rw [Pk,if_pos e],h⟩
    · rw [Ip (p:=(q,v)) e,Pk,if_neg e]
      exact Fq.get k r
end
structure Bas where
  S:Hp
  as:List Addr
  H:Hp
structure a7v (B:Bas) (S:Hp) (as:List Addr) (H:Hp):Prop where
  same:Same B.S S
  more:∃ l,as=B.as++l
  keep:∀ p o,B.H p=some o→B.S p=none→p∉B.as→H p=some o∧S p=none∧p∉as
structure Ext (S H S' H':Hp):Prop where
  s:Same S S'
  h:Same H H'
  sub:Same S' H'
  new:∀ p,S' p≠none→S p≠none∨H p=none
theorem Ext.refl {S H:Hp} (h:Same S H):Ext S H S H:=⟨Same.refl _,Same.refl _,h,fun _ q=>.inl q⟩
theorem Same.upd {H:Hp} {p:Addr} (h:H p=none) (o:HO):Same H (upd H p o):=fun b u q=>by rw [ql (wz q h)]; exact q
theorem Ext.laid {S H:Hp} (h:Same S H) {p:Addr} (n:H p=none) (o:HO):Ext S H (upd S p o) (upd H p o) where
  s:=Same.upd (h.free n) o
  h:=Same.upd n o
  sub:=fun b u q=>by
    by_cases e:b=p
    · subst e; rw [kj] at q ⊢; exact q
    · rw [ql e] at q ⊢; exact h _ _ q
  new:=fun b q=>by
    by_cases e:b=p
    · subst e; exact .inr n
    · rw [ql e] at q; exact .inl q
theorem Ext.trans {S H S1 H1 S2 H2:Hp} (a:Ext S H S1 H1) (b:Ext S1 H1 S2 H2):Ext S H S2 H2 where
  s:=a.s.trans b.s
  h:=a.h.trans b.h
  sub:=b.sub
  new:=fun p q=>by
    rcases b.new p q with z | z
    · exact a.new p z
    · exact .inr (a.h.free z)
noncomputable def Own (K:PySem.W.Frag) (S:Hp) (as:List Addr) (H:Hp) (p:Addr):T→Prop
  | .lst ts=>∃ vs,H p=some (.lst vs)∧yt K S as vs ts
  | .dic ts=>∃ kvs,H p=some (.dK kvs)∧Fq K S as kvs ts
  | _=>False
structure Vc (K:PySem.W.Frag) (B:Bas) (S:Hp) (as:List Addr) (H:Hp) (p:Addr) (t:T):Prop where
  own:Own K S as H p t
  out:S p=none
  nas:p∉as
  new:B.H p=none
noncomputable def a5g (K:PySem.W.Frag) (S:Hp) (as:List Addr) (H:Hp) (a:Addr):SO→Prop
  | .dic ts=>∃ kvs,H a=some (.dK kvs)∧Fq K S as kvs ts
  | .lst ts=>∃ vs,H a=some (.lst vs)∧yt K S as vs ts
  | .ins _ _=>False
structure Hy (K:PySem.W.Frag) (S:Hp) (as:List Addr) (H:Hp) (sto:List SO):Prop where
  len:as.length=sto.length
  nd:as.Nodup
  at':∀ (n:Nat) so,sto[n]? = some so→∃ a,as[n]? = some a∧S a=none∧a5g K S as H a so
structure Rel (K:PySem.W.Frag) (B:Bas) (st:Sta) (σ:L2.St) (H:Hp) (ps:List (V × T)) (S:Hp) (as:List Addr):Prop where
  sub:Same S H
  grow:a7v B S as H
  slots:∀ (i:Nat) t f,st.env[i]? = some (some (t,f))→∃ v,σ[i]? = some (some v)∧(f=false→Rep K S as v t)∧(f=true→∃ p,v=.ref p∧Vc K B S as H p t)
  apart:∀ (i j:Nat) t u p,st.env[i]? = some (some (t,true))→st.env[j]? = some (some (u,true))→σ[i]? = some (some (.ref p))→σ[j]? = some (some (.ref p))→i=j
  sto:Hy K S as H st.sto
  pend:∀ p∈ps,Rep K S as p.1 p.2
  len:σ.length=st.env.length
noncomputable section
variable {K:PySem.W.Frag} {B:Bas} {st:Sta} {σ:L2.St} {H H' S S':Hp} {ps:List (V × T)} {as:List Addr}
theorem nol {as:List Addr}:∃ l:List Addr,as=as++l:=⟨[],(List.append_nil _).symm⟩
theorem Own.mono {p:Addr} {t:T} (hs:Same S S') (hh:H p=H' p) (o:Own K S as H p t):Own K S' as H' p t:=by
  cases t with
  | lst ts=>obtain ⟨vs,h,r⟩:=o; exact ⟨vs,hh ▸ h,r.mono hs nol⟩
  | dic ts=>obtain ⟨vs,h,r⟩:=o; exact ⟨vs,hh ▸ h,r.mono hs nol⟩
  | _=>exact o.elim
theorem Own.there {p:Addr} {t:T} (o:Own K S as H p t):∃ ob,H p=some ob:=by
  cases t with
  | lst ts=>obtain ⟨vs,h,r⟩:=o; exact ⟨_,h⟩
  | dic ts=>obtain ⟨vs,h,r⟩:=o; exact ⟨_,h⟩
  | _=>exact o.elim
theorem a5g.mono {a:Addr} {so:SO} (hs:Same S S') (hh:H a=H' a) (o:a5g K S as H a so):a5g K S' as H' a so:=by
  cases so with
  | dic ts=>obtain ⟨vs,h,r⟩:=o; exact ⟨vs,hh ▸ h,r.mono hs nol⟩
  | lst ts=>obtain ⟨vs,h,r⟩:=o; exact ⟨vs,hh ▸ h,r.mono hs nol⟩
  | ins c f=>exact o.elim
theorem a5g.there {a:Addr} {so:SO} (o:a5g K S as H a so):∃ ob,H a=some ob:=by
  cases so with
  | dic ts=>obtain ⟨vs,h,r⟩:=o; exact ⟨_,h⟩
  | lst ts=>obtain ⟨vs,h,r⟩:=o; exact ⟨_,h⟩
  | ins c f=>exact o.elim
theorem Ext.outs (x:Ext S H S' H') {p:Addr} {o:HO} (h:H p=some o) (n:S p=none):S' p=none:=by
  cases q:S' p with
  | none=>rfl
  | some u =>
    rcases x.new p (by rw [q]; exact Option.some_ne_none _) with z | z
    · exact absurd n z
    · rw [h] at z; cases z
theorem Hy.ext {sto:List SO} (r:Hy K S as H sto) (x:Ext S H S' H'):Hy K S' as H' sto where
  len:=r.len
  nd:=r.nd
  at':=fun n so e=>by
    obtain ⟨a,h1,h2,h3⟩:=r.at' n so e
    obtain ⟨ob,ho⟩:=h3.there
    exact ⟨a,h1,x.outs ho h2,h3.mono x.s (by rw [ho,x.h _ _ ho])⟩
theorem Rel.ext (r:Rel K B st σ H ps S as) (x:Ext S H S' H'):Rel K B st σ H' ps S' as where
  sub:=x.sub
  grow:=⟨r.grow.same.trans x.s,r.grow.more,fun p o h1 h2 h3=>by
    obtain ⟨a,b,c⟩:=r.grow.keep p o h1 h2 h3
    exact ⟨x.h _ _ a,x.outs a b,c⟩⟩
  slots:=fun i t f e=>by
    obtain ⟨v,h1,h2,h3⟩:=r.slots i t f e
    refine ⟨v,h1,fun q=>(h2 q).mono x.s nol,fun q=>?_⟩
    obtain ⟨p,e,o⟩:=h3 q
    obtain ⟨ob,ho⟩:=o.own.there
    exact ⟨p,e,o.own.mono x.s (by rw [ho,x.h _ _ ho]),x.outs ho o.out,o.nas,o.new⟩
  apart:=r.apart
  sto:=r.sto.ext x
  pend:=fun p hp=>(r.pend p hp).mono x.s nol
  len:=r.len
theorem Rel.push (r:Rel K B st σ H ps S as) {v:V} {t:T} (h:Rep K S as v t):Rel K B st σ H ((v,t)::ps) S as :=
  ⟨r.sub,r.grow,r.slots,r.apart,r.sto,fun p hp=>by
    rcases List.mem_cons.mp hp with rfl | z
    · exact h
    · exact r.pend p z,r.len⟩
theorem Rel.drop {p:V × T} (r:Rel K B st σ H (p::ps) S as):Rel K B st σ H ps S as :=
  ⟨r.sub,r.grow,r.slots,r.apart,r.sto,fun q hq=>r.pend q (List.mem_cons_of_mem _ hq),r.len⟩
theorem Rel.top {v:V} {t:T} (r:Rel K B st σ H ((v,t)::ps) S as):Rep K S as v t:=r.pend (v,t) List.mem_cons_self
theorem Rel.top2 {v:V} {t:T} {q:V × T} (r:Rel K B st σ H (q::(v,t)::ps) S as):Rep K S as v t:=r.pend (v,t) (List.mem_cons_of_mem _ List.mem_cons_self)
end
inductive tOf (K:PySem.W.Frag) (B:Bas) (m:M T) (σ:L2.St) (H:Hp) (Q:VK):Prop
  | mk (st:Sta) (ps:List (V × T)) (S:Hp) (as:List Addr) (R:Rel K B st σ H ps S as) (t:T) (st':Sta) (e:m st=some (t,st')) (q:∀ v H' S' as',Rel K B st' σ H' ((v,t)::ps) S' as'→Q v H')
inductive cOf (K:PySem.W.Frag) (B:Bas) (m:M Bool) (σ:L2.St) (H:Hp) (Q:Bool→Hp→Prop):Prop
  | mk (st:Sta) (ps:List (V × T)) (S:Hp) (as:List Addr) (R:Rel K B st σ H ps S as) (b:Bool) (st':Sta) (e:m st=some (b,st')) (q:∀ H' S' as',Rel K B st' σ H' ps S' as'→Q b H')
inductive aOf (K:PySem.W.Frag) (B:Bas) (m:M (List T)) (σ:L2.St) (H:Hp) (Q:List V→Hp→Prop):Prop
  | mk (st:Sta) (ps:List (V × T)) (S:Hp) (as:List Addr) (R:Rel K B st σ H ps S as) (ts:List T) (st':Sta) (e:m st=some (ts,st')) (q:∀ vs H' S' as',Rel K B st' σ H' ps S' as'→yt K S' as' vs ts→Q vs H')
theorem _root_.L2.PE.imp {X:Cx} {e:Expr} {t t':TE} (h:PE X e t) (i:∀ σ H Q,t' σ H Q→t σ H Q):PE X e t':=fun pins s σ H Q I q=>h pins s σ H Q I (i σ H Q q)
theorem _root_.L2.PT.imp {X:Cx} {e:Expr} {t t':TT} (h:PT X e t) (i:∀ σ H Q,t' σ H Q→t σ H Q):PT X e t':=fun pins s σ H Q I q=>h pins s σ H Q I (i σ H Q q)
theorem _root_.L2.PA.imp {X:Cx} {e:List Expr} {t t':TA} (h:PA X e t) (i:∀ σ H Q,t' σ H Q→t σ H Q):PA X e t':=fun pos pins s σ H Q I q=>h pos pins s σ H Q I (i σ H Q q)
theorem _root_.L2.PS.imp {X:Cx} {e:Stmt} {t t':TS} (h:PS X e t) (i:∀ D σ H,t' D σ H→t D σ H):PS X e t':=fun pins s σ H D I q=>h pins s σ H D I (i D σ H q)
theorem _root_.L2.PSs.imp {X:Cx} {e:List Stmt} {t t':TS} (h:PSs X e t) (i:∀ D σ H,t' D σ H→t D σ H):PSs X e t':=fun pins s σ H D I q=>h pins s σ H D I (i D σ H q)
noncomputable def r2 (K:PySem.W.Frag) (f:T→T→Option T):R2:=fun x y H Q=>∃ S as t u w,Same S H∧Rep K S as x t∧Rep K S as y u∧f t u=some w∧∀ v H' S',Ext S H S' H'→Rep K S' as v w→Q v H'
noncomputable def r1 (K:PySem.W.Frag) (f:T→Option T):V→Hp→VK→Prop:=fun x H Q=>∃ S as t w,Same S H∧Rep K S as x t∧f t=some w∧∀ v H' S',Ext S H S' H'→Rep K S' as v w→Q v H'
noncomputable def rL (K:PySem.W.Frag) (f:List T→Option T):List V→Hp→VK→Prop:=fun xs H Q=>∃ S as ts w,Same S H∧yt K S as xs ts∧f ts=some w∧∀ v H' S',Ext S H S' H'→Rep K S' as v w→Q v H'
noncomputable abbrev OpT (X:Cx) (f:Value→Value→Sem Value) (g:T→T→Option T):Prop:=OpR X f (r2 X.K g)
noncomputable abbrev UnT (X:Cx) (f:Value→Sem Value) (g:T→Option T):Prop:=UnR X f (r1 X.K g)
noncomputable abbrev S8 (X:Cx) (f:Value) (g:List T→Option T):Prop:=Em X f (rL X.K g)
noncomputable section
variable {X:Cx} {B:Bas} {a b c:Expr} {m m1 m2:M T} {pos:Pos}
theorem Gk {v:V} {t:T} {e:Expr} (h:PE X e (tC v)) (r:∀ S as,Rep X.K S as v t):PE X e (tOf X.K B (aq t)):=h.imp fun σ H Q z9=>by
  obtain ⟨st,ps,S,as,R,t',st',e,q⟩:=z9
  cases e
  exact q v H S as (R.push (r S as))
theorem bx {i:Int} {j:Nat}:PE X (.Constant (.int i) j pos) (tOf X.K B (aq (.int i))):=Gk a2c fun _ _=>.int i
theorem Cv {i:Bool} {j:Nat}:PE X (.Constant (.bool i) j pos) (tOf X.K B (aq (.bl i))):=Gk a8q fun _ _=>.bl i
theorem uh {i:Str} {j:Nat}:PE X (.Constant (.str i) j pos) (tOf X.K B (aq (.str i))):=Gk a6n fun _ _=>.str i
theorem Ed {j:Nat}:PE X (.Constant .none j pos) (tOf X.K B (aq .non)):=Gk a70 fun _ _=>.non
theorem jj {op:Operator} {f:T→T→Option T} (ho:OpT X (binaryOp op) f) (ha:PE X a (tOf X.K B m1)) (hb:PE X b (tOf X.K B m2)):PE X (.BinOp a op b pos) (tOf X.K B (mOp f m1 m2)) :=
  (a7z ho ha hb).imp fun σ H Q z9=>by
    obtain ⟨st,ps,S,as,R,t,st',e,q⟩:=z9
    obtain ⟨t1,s1,t2,e1,e2,e3⟩:=Rx e
    refine ⟨st,ps,S,as,R,t1,s1,e1,fun v H1 S1 as1 R1=>⟨s1,_,S1,as1,R1,t2,st',e2,fun u H2 S2 as2 R2=>?_⟩⟩
    exact ⟨S2,as2,t1,t2,t,R2.sub,R2.top2,R2.top,e3,fun w H3 S3 x r=>q w H3 S3 as2 ((R2.drop.drop.ext x).push r)⟩
end
end C
end
noncomputable section
set_option linter.all false
set_option maxRecDepth 100000
set_option maxHeartbeats 4000002
set_option autoImplicit false
namespace C
open PySem PySem.Spec PyProof.Rows L2
noncomputable section
variable {K:PySem.W.Frag} {B:Bas} {st:Sta} {σ:L2.St} {H H' S S':Hp} {ps:List (V × T)} {as:List Addr}
theorem Rel.freeze (r:Rel K B st σ H ps S as) {i:Nat} {t:T} (e:st.env[i]? = some (some (t,true))) :
    ∃ v S',σ[i]? = some (some v)∧Rel K B { st with env:=st.env.set i (some (t,false)) } σ H ((v,t)::ps) S' as:=by
  obtain ⟨v,h1,_,h3⟩:=r.slots i t true e
  obtain ⟨p,rfl,o⟩:=h3 rfl
  obtain ⟨ob,ho⟩:=o.own.there
  have hi:i<st.env.length:=(List.getElem?_eq_some_iff.mp e).1
  have sS:Same S (upd S p ob):=Same.upd o.out ob
  have rep:Rep K (upd S p ob) as (.ref p) t:=by
    have w:=o.own
    cases t with
    | lst ts=>obtain ⟨vs,h,q⟩:=w; rw [ho] at h; cases h; exact .lst (SqL.of kj) (q.mono sS nol)
    | dic ts=>obtain ⟨vs,h,q⟩:=w; rw [ho] at h; cases h; exact .dic (.inl kj) (q.mono sS nol)
    | _=>exact w.elim
  have outs:∀ q,S q=none→q≠p→upd S p ob q=none:=fun q h n=>by rw [ql n]; exact h
  refine ⟨.ref p,upd S p ob,h1,?_⟩
  refine Rel.push (v:=.ref p) (t:=t) ⟨?_,?_,?_,?_,?_,?_,?_⟩ rep
  · intro b u q
    by_cases z:b=p
    · subst z; rw [kj] at q; cases q; exact ho
    · rw [ql z] at q; exact r.sub _ _ q
  · refine ⟨r.grow.same.trans sS,r.grow.more,fun q w a b c=>?_⟩
    obtain ⟨x,y,z⟩:=r.grow.keep q w a b c
    refine ⟨x,outs q y fun n=>?_,z⟩
    subst n; rw [o.new] at a; cases a
  · intro j u f ej
    by_cases hij:i=j
    · subst hij
      rw [List.getElem?_set_self hi] at ej
      cases ej
      exact ⟨.ref p,h1,fun _=>rep,fun z=>by cases z⟩
    · rw [List.getElem?_set_ne hij] at ej
      obtain ⟨v',a1,a2,a3⟩:=r.slots j u f ej
      refine ⟨v',a1,fun z=>(a2 z).mono sS nol,fun z=>?_⟩
      subst z
      obtain ⟨p',rfl,o'⟩:=a3 rfl
      refine ⟨p',rfl,o'.own.mono sS rfl,outs p' o'.out fun n=>?_,o'.nas,o'.new⟩
      subst n
      exact hij (r.apart i j t u p' e ej h1 a1)
  · intro j k u w q ej ek
    have hj:st.env[j]? = some (some (u,true)):=by
      by_cases hij:i=j
      · subst hij; rw [List.getElem?_set_self hi] at ej; cases ej
      · rwa [List.getElem?_set_ne hij] at ej
    have hk:st.env[k]? = some (some (w,true)):=by
      by_cases hij:i=k
      · subst hij; rw [List.getElem?_set_self hi] at ek; cases ek
      · rwa [List.getElem?_set_ne hij] at ek
    exact r.apart j k u w q hj hk
  · refine ⟨r.sto.len,r.sto.nd,fun n so en=>?_⟩
    obtain ⟨a,a1,a2,a3⟩:=r.sto.at' n so en
    refine ⟨a,a1,outs a a2 fun z=>?_,a3.mono sS rfl⟩
    subst z
    exact o.nas (List.mem_of_getElem? a1)
  · exact fun q hq=>(r.pend q hq).mono sS nol
  · show σ.length=(st.env.set i _).length
    rw [List.length_set]; exact r.len
end
noncomputable section
variable {X:Cx} {B:Bas} {a b c:Expr} {m m1 m2:M T} {pos:Pos}
theorem au (i:Nat) {e:Expr} (h:PE X e (a0w i)):PE X e (tOf X.K B (bh i)):=h.imp fun σ H Q z9=>by
  obtain ⟨st,ps,S,as,R,t,st',e,q⟩:=z9
  rcases Za e with ⟨e1,rfl⟩ | ⟨e1,rfl⟩
  · obtain ⟨v,h1,h2,_⟩:=R.slots i t false e1
    exact ⟨v,h1,q v H S as (R.push (h2 rfl))⟩
  · obtain ⟨v,S',h1,R'⟩:=R.freeze e1
    exact ⟨v,h1,q v H S' as R'⟩
theorem dh:PA X [] (aOf X.K B dz):=vf.imp fun σ H Q z9=>by
  obtain ⟨st,ps,S,as,R,ts,st',e,q⟩:=z9
  cases e
  exact q [] H S as R .nil
theorem ao {es:List Expr} {ms:M (List T)} (ha:PE X a (tOf X.K B m)) (hr:PA X es (aOf X.K B ms)) (hs:starEach (a::es) X.env=(false,eval a X.env)::starEach es X.env:=by rfl):PA X (a::es) (aOf X.K B (aj m ms)) :=
  (qp ha hr hs).imp fun σ H Q z9=>by
    obtain ⟨st,ps,S,as,R,ts,st',e,q⟩:=z9
    obtain ⟨t,s1,us,e1,e2,rfl⟩:=Dq e
    refine ⟨st,ps,S,as,R,t,s1,e1,fun v H1 S1 as1 R1=>⟨s1,_,S1,as1,R1,us,st',e2,fun vs H2 S2 as2 R2 rs=>?_⟩⟩
    exact q (v::vs) H2 S2 as2 R2.drop (.cons R2.top rs)
theorem je {es:List Expr} {ms:M (List T)} {k:Nat} (h:PA X es (aOf X.K B ms)) (hm:∀ st ts st',ms st=some (ts,st')→ts.length≤1000):PE X (.Tuple es k pos) (tOf X.K B (gk (fun l=>some (.tup l)) ms)) :=
  (a5z h).imp fun σ H Q z9=>by
    obtain ⟨st,ps,S,as,R,t,st',e,q⟩:=z9
    obtain ⟨ts,e1,e2⟩:=Du e
    cases e2
    refine ⟨st,ps,S,as,R,ts,st',e1,fun vs H1 S1 as1 R1 rs=>⟨?_,fun p hp=>?_⟩⟩
    · rw [rs.length]; exact Nat.le_of_lt (Ju (hm _ _ _ e1))
    · have x:=Ext.laid R1.sub hp (.tup vs)
      exact q _ _ _ _ ((R1.ext x).push (.tup (SqT.of kj) (rs.mono x.s nol)))
theorem xr {es:List Expr} {ms:M (List T)} (h:PA X es (aOf X.K B ms)) (hm:∀ st ts st',ms st=some (ts,st')→ts.length≤1000):PE X (.List es pos) (tOf X.K B (gk (fun l=>some (.lst l)) ms)) :=
  (a2b h).imp fun σ H Q z9=>by
    obtain ⟨st,ps,S,as,R,t,st',e,q⟩:=z9
    obtain ⟨ts,e1,e2⟩:=Du e
    cases e2
    refine ⟨st,ps,S,as,R,ts,st',e1,fun vs H1 S1 as1 R1 rs=>⟨?_,fun p hp=>?_⟩⟩
    · rw [rs.length]; exact Nat.le_of_lt (Ju (hm _ _ _ e1))
    · have x:=Ext.laid R1.sub hp (.lst vs)
      exact q _ _ _ _ ((R1.ext x).push (.lst (SqL.of kj) (rs.mono x.s nol)))
theorem gb:∀ st ts st',dz st=some (ts,st')→ts.length≤0:=fun st ts st' e=>by cases e; exact Nat.le_refl _
theorem bf {r:M (List T)} {n:Nat} (h:∀ st ts st',r st=some (ts,st')→ts.length≤n):∀ st ts st',aj m r st=some (ts,st')→ts.length≤n+1:=fun st ts st' e=>by
  obtain ⟨t,s1,us,e1,e2,rfl⟩:=Dq e
  exact Nat.succ_le_succ (h _ _ _ e2)
theorem jx {ms:M (List T)} {f:List T→Option T} {e:Expr} (h:PE X e (tCB (rL X.K f) (aOf X.K B ms))):PE X e (tOf X.K B (gk f ms)) :=
  h.imp fun σ H Q z9=>by
    obtain ⟨st,ps,S,as,R,t,st',e,q⟩:=z9
    obtain ⟨ts,e1,e2⟩:=Du e
    refine ⟨st,ps,S,as,R,ts,st',e1,fun vs H1 S1 as1 R1 rs=>⟨S1,as1,ts,t,R1.sub,rs,e2,fun v H2 S2 x r=>?_⟩⟩
    exact q v H2 S2 as1 ((R1.ext x).push r)
theorem Ti {f:T→T→Option T} {e:Expr} (h:PE X e (tOp (r2 X.K f) (tOf X.K B m1) (tOf X.K B m2))):PE X e (tOf X.K B (mOp f m1 m2)) :=
  h.imp fun σ H Q z9=>by
    obtain ⟨st,ps,S,as,R,t,st',e,q⟩:=z9
    obtain ⟨t1,s1,t2,e1,e2,e3⟩:=Rx e
    refine ⟨st,ps,S,as,R,t1,s1,e1,fun v H1 S1 as1 R1=>⟨s1,_,S1,as1,R1,t2,st',e2,fun u H2 S2 as2 R2=>?_⟩⟩
    exact ⟨S2,as2,t1,t2,t,R2.sub,R2.top2,R2.top,e3,fun w H3 S3 x r=>q w H3 S3 as2 ((R2.drop.drop.ext x).push r)⟩
theorem a0f {f:T→Option T} {e:Expr} (h:PE X e (tUn (r1 X.K f) (tOf X.K B m))):PE X e (tOf X.K B (mUn f m)) :=
  h.imp fun σ H Q z9=>by
    obtain ⟨st,ps,S,as,R,t,st',e,q⟩:=z9
    obtain ⟨t1,e1,e3⟩:=Qu e
    refine ⟨st,ps,S,as,R,t1,st',e1,fun v H1 S1 as1 R1=>⟨S1,as1,t1,t,R1.sub,R1.top,e3,fun w H3 S3 x r=>q w H3 S3 as1 ((R1.drop.ext x).push r)⟩⟩
theorem Am {op:CmpOp} {f:T→T→Option T} (ho:OpT X (compareOp op) f) (ha:PE X a (tOf X.K B m1)) (hb:PE X b (tOf X.K B m2)) (hm:behindInMarks op b=false):PE X (.Compare a [op] [b] pos) (tOf X.K B (mOp f m1 m2)):=Ti (a4j ho ha hb hm)
theorem Aq {op:UnaryOp} {f:T→Option T} (ho:UnT X (unaryOp op) f) (ha:PE X a (tOf X.K B m)):PE X (.UnaryOp op a pos) (tOf X.K B (mUn f m)):=a0f (a7a ho ha)
theorem Lk {e:Expr} (h:PT X e (a6m (tOf X.K B m))):PT X e (cOf X.K B (fj m)):=h.imp fun σ H Q z9=>by
  obtain ⟨st,ps,S,as,R,t,st',e,q⟩:=z9
  refine ⟨st,ps,S,as,R,.bl t,st',Ew e,fun v H1 S1 as1 R1=>?_⟩
  cases R1.top
  exact ⟨t,rfl,q H1 S1 as1 R1.drop⟩
theorem u9 {op:CmpOp} {f:T→T→Option T} (ho:OpT X (compareOp op) f) (ha:PE X a (tOf X.K B m1)) (hb:PE X b (tOf X.K B m2)) (hm:behindInMarks op b=false):PT X (.Compare a [op] [b] pos) (cOf X.K B (fj (mOp f m1 m2))) :=
  Lk ((a3d ho ha hb hm).imp fun σ H Q z9=>by
    obtain ⟨st,ps,S,as,R,t,st',e,q⟩:=z9
    obtain ⟨t1,s1,t2,e1,e2,e3⟩:=Rx e
    refine ⟨st,ps,S,as,R,t1,s1,e1,fun v H1 S1 as1 R1=>⟨s1,_,S1,as1,R1,t2,st',e2,fun u H2 S2 as2 R2=>?_⟩⟩
    exact ⟨S2,as2,t1,t2,t,R2.sub,R2.top2,R2.top,e3,fun w H3 S3 x r=>q w H3 S3 as2 ((R2.drop.drop.ext x).push r)⟩)
theorem xu {e:Expr} (h:PE X e (tOf X.K B m)) (he:∀ whole,isTrue e X.env whole=(do let v ← whole; standAt e.pos; holding [v] (truthy v)):=by intro _; rfl):PT X e (cOf X.K B (fj m)) :=
  Lk ((a78 h he).imp fun σ H Q h=>h)
theorem Fd {c1:M Bool} (ha:PT X a (cOf X.K B c1)):PT X (.UnaryOp .Not a pos) (cOf X.K B (m7 c1)):=(a66 ha).imp fun σ H Q z9=>by
  obtain ⟨st,ps,S,as,R,t,st',e,q⟩:=z9
  obtain ⟨k,e1,rfl⟩:=Sx e
  exact ⟨st,ps,S,as,R,k,st',e1,q⟩
theorem Gy {c1:M Bool} (ha:PT X a (cOf X.K B c1)):PW X (.BoolOp .And [a] pos) (cOf X.K B c1):=pw_and1 ha
theorem Ld {c1:M Bool} (ha:PT X a (cOf X.K B c1)):PW X (.BoolOp .Or [a] pos) (cOf X.K B c1):=pw_or1 ha
theorem a6v {e:Expr} {t t':TT} (h:PW X e t) (i:∀ σ H Q,t' σ H Q→t σ H Q):PW X e t':=fun whole pins s σ H Q I q=>h whole pins s σ H Q I (i σ H Q q)
theorem Hx {c1 c2:M Bool} {rest:List Expr} (ha:PT X a (cOf X.K B c1)) (hb:PW X (.BoolOp .And (b::rest) pos) (cOf X.K B c2)):PW X (.BoolOp .And (a::b::rest) pos) (cOf X.K B (lg c1 c2)) :=
  a6v (pw_and ha hb) fun σ H Q z9=>by
    obtain ⟨st,ps,S,as,R,t,st',e,q⟩:=z9
    rcases U7 e with ⟨s1,e1,e2⟩ | ⟨e1,rfl⟩
    · exact ⟨st,ps,S,as,R,true,s1,e1,fun H1 S1 as1 R1=>a4d (⟨s1,ps,S1,as1,R1,t,st',e2,q⟩)⟩
    · exact ⟨st,ps,S,as,R,false,st',e1,fun H1 S1 as1 R1=>a2y (q H1 S1 as1 R1)⟩
theorem Km {c1 c2:M Bool} {rest:List Expr} (ha:PT X a (cOf X.K B c1)) (hb:PW X (.BoolOp .Or (b::rest) pos) (cOf X.K B c2)):PW X (.BoolOp .Or (a::b::rest) pos) (cOf X.K B (mOr c1 c2)) :=
  a6v (pw_or ha hb) fun σ H Q z9=>by
    obtain ⟨st,ps,S,as,R,t,st',e,q⟩:=z9
    rcases a3k e with ⟨s1,e1,e2⟩ | ⟨e1,rfl⟩
    · exact ⟨st,ps,S,as,R,false,s1,e1,fun H1 S1 as1 R1=>a2y (⟨s1,ps,S1,as1,R1,t,st',e2,q⟩)⟩
    · exact ⟨st,ps,S,as,R,true,st',e1,fun H1 S1 as1 R1=>a4d (q H1 S1 as1 R1)⟩
theorem Tt {c1:M Bool} (hc:PT X c (cOf X.K B c1)) (ha:PE X a (tOf X.K B m1)) (hb:PE X b (tOf X.K B m2)):PE X (.IfExp c a b pos) (tOf X.K B (mIf c1 m1 m2)) :=
  (Zz hc ha hb).imp fun σ H Q z9=>by
    obtain ⟨st,ps,S,as,R,t,st',e,q⟩:=z9
    rcases a4n e with ⟨s1,e1,e2⟩ | ⟨s1,e1,e2⟩
    · exact ⟨st,ps,S,as,R,true,s1,e1,fun H1 S1 as1 R1=>a4d (⟨s1,ps,S1,as1,R1,t,st',e2,q⟩)⟩
    · exact ⟨st,ps,S,as,R,false,s1,e1,fun H1 S1 as1 R1=>a2y (⟨s1,ps,S1,as1,R1,t,st',e2,q⟩)⟩
theorem a5u (ha:PE X a (tOf X.K B m)):PE X (.UnaryOp .Not a pos) (tOf X.K B (j5 (m7 (fj m)))):=(a7f ha).imp fun σ H Q z9=>by
  obtain ⟨st,ps,S,as,R,t,st',e,q⟩:=z9
  obtain ⟨b,e1,rfl⟩:=Mx e
  obtain ⟨k,e2,rfl⟩:=Sx e1
  refine ⟨st,ps,S,as,R,.bl k,st',Ew e2,fun v H1 S1 as1 R1=>?_⟩
  cases R1.top
  exact ⟨k,rfl,q _ H1 S1 as1 (R1.drop.push (.bl _))⟩
theorem Ei {op:BoolOp} (ha:PE X a (tOf X.K B m)):PE X (.BoolOp op [a] pos) (tOf X.K B m):=a6e ha
theorem Cq {rest:List Expr} (ha:PE X a (tOf X.K B m1)) (hb:PE X (.BoolOp .And (b::rest) pos) (tOf X.K B m2)):PE X (.BoolOp .And (a::b::rest) pos) (tOf X.K B (j5 (lg (fj m1) (fj m2)))) :=
  (a5o ha hb).imp fun σ H Q z9=>by
    obtain ⟨st,ps,S,as,R,t,st',e,q⟩:=z9
    obtain ⟨b,e1,rfl⟩:=Mx e
    rcases U7 e1 with ⟨s1,e2,e3⟩ | ⟨e2,rfl⟩
    · refine ⟨st,ps,S,as,R,.bl true,s1,Ew e2,fun v H1 S1 as1 R1=>?_⟩
      cases R1.top
      exact ⟨true,rfl,a4d (⟨s1,ps,S1,as1,R1.drop,.bl b,st',Ew e3,q⟩)⟩
    · refine ⟨st,ps,S,as,R,.bl false,st',Ew e2,fun v H1 S1 as1 R1=>?_⟩
      cases R1.top
      exact ⟨false,rfl,a2y (q _ H1 S1 as1 (R1.drop.push (.bl _)))⟩
end
end C
end
noncomputable section
set_option linter.all false
set_option maxRecDepth 100000
set_option maxHeartbeats 4000002
set_option autoImplicit false
namespace C
open PySem PySem.Spec PyProof.Rows L2
theorem a0u {a b:S} {s s':Sta} {fl:Flow} (h:j9 a b s=some (fl,s')):(∃ s1,a s=some (.next,s1)∧b s1=some (fl,s'))∨(a s=some (fl,s')∧fl≠.next):=by
  unfold j9 at h
  split at h
  · rename_i s1 e; exact .inl ⟨s1,e,h⟩
  · rename_i r hr; exact .inr ⟨h,fun z=>by subst z; exact hr _ h⟩
theorem Z2 {e:M T} {s s':Sta} {fl:Flow} (h:jl e s=some (fl,s')):∃ t,e s=some (t,s')∧fl=.ret t:=by
  unfold jl at h
  split at h
  · rename_i t s1 e; cases h; exact ⟨t,e,rfl⟩
  · cases h
theorem a2o {c:M Bool} {a b:S} {s s':Sta} {fl:Flow} (h:sIf c a b s=some (fl,s')):(∃ s1,c s=some (true,s1)∧a s1=some (fl,s'))∨(∃ s1,c s=some (false,s1)∧b s1=some (fl,s')):=by
  unfold sIf at h
  split at h
  · rename_i s1 e; exact .inl ⟨s1,e,h⟩
  · rename_i s1 e; exact .inr ⟨s1,e,h⟩
  · cases h
theorem a0g {i:Nat} {e:M T} {s s':Sta} {fl:Flow} (h:ji i e s=some (fl,s')):∃ t s1,e s=some (t,s1)∧fl=.next∧s'=cg i t false s1:=by
  unfold ji at h
  split at h
  · rename_i t s1 e; cases h; exact ⟨t,s1,e,rfl,rfl⟩
  · cases h
theorem a05 {i:Nat} {e:M T} {s s':Sta} {fl:Flow} (h:sNew i e s=some (fl,s')):∃ t s1,e s=some (t,s1)∧fl=.next∧s'=cg i t true s1:=by
  unfold sNew at h
  split at h
  · rename_i t s1 e; cases h; exact ⟨t,s1,e,rfl,rfl⟩
  · cases h
theorem Zy {g:G} {it:M (List T)} {b:S} {s s':Sta} {fl:Flow} (h:kh g it b s=some (fl,s')):∃ ts s1,it s=some (ts,s1)∧forL g b ts s1=some (fl,s'):=by
  unfold kh at h
  split at h
  · rename_i ts s1 e; exact ⟨ts,s1,e,h⟩
  · cases h
theorem Qw {i:Nat} {e:M T} {s s':Sta} {fl:Flow} (h:cj i e s=some (fl,s')) :
    jc i s=true∧∃ t s1 xs,e s=some (t,s1)∧s1.env[i]? = some (some (.lst xs,true))∧xs.length<lim∧fl=.next∧s'=cg i (.lst (xs++[t])) true s1:=by
  unfold cj at h
  split at h
  · rename_i hd
    refine ⟨hd,?_⟩
    split at h
    · rename_i t s1 e
      split at h
      · rename_i xs ex
        split at h
        · rename_i hl; cases h; exact ⟨t,s1,xs,e,ex,hl,rfl,rfl⟩
        · cases h
      · cases h
    · cases h
  · cases h
theorem Rc {i:Nat} {e:M T} {s s':Sta} {fl:Flow} (h:dj i e s=some (fl,s')) :
    jc i s=true∧∃ t s1 xs ys,e s=some (t,s1)∧j8 t=some ys∧s1.env[i]? = some (some (.lst xs,true))∧xs.length+ys.length<lim∧fl=.next∧s'=cg i (.lst (xs++ys)) true s1:=by
  unfold dj at h
  split at h
  · rename_i hd
    refine ⟨hd,?_⟩
    split at h
    · rename_i t s1 e
      split at h
      · rename_i ys xs ey ex
        split at h
        · rename_i hl; cases h; exact ⟨t,s1,_,_,e,ey,ex,hl,rfl,rfl⟩
        · cases h
      · cases h
    · cases h
  · cases h
theorem Rf {i:Nat} {k v:M T} {s s':Sta} {fl:Flow} (h:Fb i k v s=some (fl,s')) :
    ∃ t s1 kt s2 kvs q,v s=some (t,s1)∧Nr i s1=true∧k s1=some (kt,s2)∧s2.env[i]? = some (some (.dic kvs,true))∧keyOf kt=some q∧kvs.length<lim∧fl=.next∧s'=cg i (.dic (Tq q t kvs)) true s2:=by
  unfold Fb at h
  split at h
  · rename_i t s1 e
    split at h
    · rename_i hd
      split at h
      · rename_i kt s2 ek
        split at h
        · rename_i kvs q ex eq
          split at h
          · rename_i hl; cases h; exact ⟨t,s1,kt,s2,_,_,e,hd,ek,ex,eq,hl,rfl,rfl⟩
          · cases h
        · cases h
      · cases h
    · cases h
  · cases h
noncomputable section
variable {K:PySem.W.Frag} {B:Bas} {st:Sta} {σ:L2.St} {H H' S S':Hp} {ps ps2:List (V × T)} {as as':List Addr}
theorem Rel.pick (r:Rel K B st σ H ps S as) (h:∀ p∈ps2,p∈ps):Rel K B st σ H ps2 S as :=
  ⟨r.sub,r.grow,r.slots,r.apart,r.sto,fun p hp=>r.pend p (h p hp),r.len⟩
theorem Mq {α:Type} {l:List α} {i:Nat} {x:α} (h:l.length≤i):l.set i x=l:=List.set_eq_of_length_le h
theorem Rel.put (r:Rel K B st σ H ps S as) {i:Nat} {v:V} {t:T} (h:Rep K S as v t):Rel K B (cg i t false st) (σ.set i (some v)) H ps S as:=by
  by_cases hi:i<st.env.length
  · have hs:i<σ.length:=by rw [r.len]; exact hi
    refine ⟨r.sub,r.grow,fun j u f e=>?_,fun j k u w p ej ek sj sk=>?_,r.sto,r.pend,by show _=(st.env.set i _).length; rw [List.length_set,List.length_set]; exact r.len⟩
    · have e:(st.env.set i (some (t,false)))[j]? = some (some (u,f)):=e
      by_cases hij:i=j
      · subst hij
        rw [List.getElem?_set_self hi] at e; cases e
        exact ⟨v,List.getElem?_set_self hs,fun _=>h,fun z=>by cases z⟩
      · rw [List.getElem?_set_ne hij] at e ⊢
        exact r.slots j u f e
    · have ej:(st.env.set i (some (t,false)))[j]? = some (some (u,true)):=ej
      have ek:(st.env.set i (some (t,false)))[k]? = some (some (w,true)):=ek
      have hij:i≠j:=fun z=>by subst z; rw [List.getElem?_set_self hi] at ej; cases ej
      have hik:i≠k:=fun z=>by subst z; rw [List.getElem?_set_self hi] at ek; cases ek
      rw [List.getElem?_set_ne hij] at ej sj
      rw [List.getElem?_set_ne hik] at ek sk
      exact r.apart j k u w p ej ek sj sk
  · have e1:cg i t false st=st:=by unfold cg; rw [Mq (Nat.le_of_not_lt hi)]
    have e2:σ.set i (some v)=σ:=Mq (by rw [r.len]; exact Nat.le_of_not_lt hi)
    rw [e1,e2]; exact r
noncomputable def Kp (st:Sta) (σ:L2.St) (p:Addr):Prop:=∀ (j:Nat) u,st.env[j]? = some (some (u,true))→σ[j]? = some (some (.ref p))→False
theorem Rel.a7m (r:Rel K B st σ H ps S as) {i:Nat} {p:Addr} {t:T} (h:Vc K B S as H p t) (hn:Kp st σ p):Rel K B (cg i t true st) (σ.set i (some (.ref p))) H ps S as:=by
  by_cases hi:i<st.env.length
  · have hs:i<σ.length:=by rw [r.len]; exact hi
    refine ⟨r.sub,r.grow,fun j u f e=>?_,fun j k u w q ej ek sj sk=>?_,r.sto,r.pend,by show _=(st.env.set i _).length; rw [List.length_set,List.length_set]; exact r.len⟩
    · have e:(st.env.set i (some (t,true)))[j]? = some (some (u,f)):=e
      by_cases hij:i=j
      · subst hij
        rw [List.getElem?_set_self hi] at e; cases e
        exact ⟨.ref p,List.getElem?_set_self hs,(fun z=>by cases z),fun _=>⟨p,rfl,h⟩⟩
      · rw [List.getElem?_set_ne hij] at e ⊢
        exact r.slots j u f e
    · have ej:(st.env.set i (some (t,true)))[j]? = some (some (u,true)):=ej
      have ek:(st.env.set i (some (t,true)))[k]? = some (some (w,true)):=ek
      by_cases hij:i=j
      · by_cases hik:i=k
        · rw [← hij,← hik]
        · subst hij
          rw [List.getElem?_set_self hs] at sj; cases sj
          rw [List.getElem?_set_ne hik] at ek sk
          exact (hn k w ek sk).elim
      · rw [List.getElem?_set_ne hij] at ej sj
        by_cases hik:i=k
        · subst hik
          rw [List.getElem?_set_self hs] at sk; cases sk
          exact (hn j u ej sj).elim
        · rw [List.getElem?_set_ne hik] at ek sk
          exact r.apart j k u w q ej ek sj sk
  · have e1:cg i t true st=st:=by unfold cg; rw [Mq (Nat.le_of_not_lt hi)]
    have e2:σ.set i (some (.ref p))=σ:=Mq (by rw [r.len]; exact Nat.le_of_not_lt hi)
    rw [e1,e2]; exact r
theorem Rel.turn (r:Rel K B st σ H ps S as) {i:Nat} {t t':T} {p:Addr} {ob:HO} (e:st.env[i]? = some (some (t,true))) (hp:σ[i]? = some (some (.ref p))) (h:Own K S as (upd H p ob) p t') :
    Rel K B (cg i t' true st) σ (upd H p ob) ps S as:=by
  obtain ⟨v,h1,_,h3⟩:=r.slots i t true e
  rw [hp] at h1; cases h1
  obtain ⟨p',ep,o⟩:=h3 rfl
  cases ep
  have hi:i<st.env.length:=(List.getElem?_eq_some_iff.mp e).1
  have other:∀ q,q≠p→H q=upd H p ob q:=fun q n=>(ql n).symm
  refine ⟨fun b u q=>?_,⟨r.grow.same,r.grow.more,fun q w a b c=>?_⟩,fun j u f ej=>?_,fun j k u w q ej ek sj sk=>?_,⟨r.sto.len,r.sto.nd,fun n so en=>?_⟩,r.pend,by show _=(st.env.set i _).length; rw [List.length_set]; exact r.len⟩
  · have n:b≠p:=fun z=>by subst z; rw [o.out] at q; cases q
    rw [ql n]; exact r.sub _ _ q
  · obtain ⟨x,y,z⟩:=r.grow.keep q w a b c
    have n:q≠p:=fun z=>by subst z; rw [o.new] at a; cases a
    exact ⟨by rw [ql n]; exact x,y,z⟩
  · have ej:(st.env.set i (some (t',true)))[j]? = some (some (u,f)):=ej
    by_cases hij:i=j
    · subst hij
      rw [List.getElem?_set_self hi] at ej; cases ej
      exact ⟨.ref p,hp,(fun z=>by cases z),fun _=>⟨p,rfl,h,o.out,o.nas,o.new⟩⟩
    · rw [List.getElem?_set_ne hij] at ej
      obtain ⟨v',a1,a2,a3⟩:=r.slots j u f ej
      refine ⟨v',a1,a2,fun z=>?_⟩
      subst z
      obtain ⟨p',rfl,o'⟩:=a3 rfl
      have n:p'≠p:=fun z=>by subst z; exact hij (r.apart i j t u p' e ej hp a1)
      exact ⟨p',rfl,o'.own.mono (Same.refl _) (other p' n),o'.out,o'.nas,o'.new⟩
  · have back:∀ (j:Nat) u,(st.env.set i (some (t',true)))[j]? = some (some (u,true))→∃ u',st.env[j]? = some (some (u',true)):=fun j u ej=>by
      by_cases hij:i=j
      · subst hij; exact ⟨t,e⟩
      · rw [List.getElem?_set_ne hij] at ej; exact ⟨u,ej⟩
    obtain ⟨u',ej'⟩:=back j u ej
    obtain ⟨w',ek'⟩:=back k w ek
    exact r.apart j k u' w' q ej' ek' sj sk
  · obtain ⟨a,a1,a2,a3⟩:=r.sto.at' n so en
    have n:a≠p:=fun z=>by subst z; exact o.nas (List.mem_of_getElem? a1)
    exact ⟨a,a1,a2,a3.mono (Same.refl _) (other a n)⟩
end
noncomputable def Fin (K:PySem.W.Frag) (B:Bas) (D:Ends) (ps:List (V × T)):Flow→Sta→Prop
  | .next,st'=>∀ σ' H' S' as',Rel K B st' σ' H' ps S' as'→D.nx σ' H'
  | .ret t,st'=>∀ v σ' H' S' as',Rel K B st' σ' H' ((v,t)::ps) S' as'→D.rt v H'
  | .brk,st'=>∀ σ' H' S' as',Rel K B st' σ' H' ps S' as'→D.bk σ' H'
  | .cont,st'=>∀ σ' H' S' as',Rel K B st' σ' H' ps S' as'→D.ct σ' H'
inductive sOf (K:PySem.W.Frag) (B:Bas) (s:S) (D:Ends) (σ:L2.St) (H:Hp):Prop
  | mk (st:Sta) (ps:List (V × T)) (S0:Hp) (as:List Addr) (R:Rel K B st σ H ps S0 as) (fl:Flow) (st':Sta) (e:s st=some (fl,st')) (q:Fin K B D ps fl st')
inductive gOf (K:PySem.W.Frag) (B:Bas) (g:G) (v:V) (σ:L2.St) (H:Hp) (Q:L2.St→Hp→Prop):Prop
  | mk (st:Sta) (ps:List (V × T)) (S:Hp) (as:List Addr) (t:T) (R:Rel K B st σ H ((v,t)::ps) S as) (st':Sta) (e:g t st=some st') (q:∀ σ' H' S' as',Rel K B st' σ' H' ps S' as'→Q σ' H')
inductive fOf (K:PySem.W.Frag) (B:Bas) (m:M T) (σ:L2.St) (H:Hp) (Q:VK):Prop
  | mk (st:Sta) (ps:List (V × T)) (S:Hp) (as:List Addr) (R:Rel K B st σ H ps S as) (t:T) (st':Sta) (e:m st=some (t,st')) (q:∀ p H' S' as',Rel K B st' σ H' ps S' as'→Vc K B S' as' H' p t→Kp st' σ p→Q (.ref p) H')
noncomputable section
variable {X:Cx} {B:Bas} {a b c e:Expr} {m m1 m2:M T} {pos:Pos} {u v:S}
theorem um:PSs X [] (sOf X.K B ju):=a2v.imp fun D σ H z9=>by
  obtain ⟨st,ps,S,as,R,fl,st',e,q⟩:=z9
  cases e; exact q σ H S as R
theorem gq {st:Stmt} {rest:List Stmt} (h1:PS X st (sOf X.K B u)) (h2:PSs X rest (sOf X.K B v)):PSs X (st::rest) (sOf X.K B (j9 u v)):=(Z4 h1 h2).imp fun D σ H z9=>by
  obtain ⟨st,ps,S,as,R,fl,st',e,q⟩:=z9
  rcases a0u e with ⟨s1,e1,e2⟩ | ⟨e1,hn⟩
  · exact ⟨st,ps,S,as,R,.next,s1,e1,fun σ' H' S' as' R'=>⟨s1,ps,S',as',R',fl,st',e2,q⟩⟩
  · refine ⟨st,ps,S,as,R,fl,st',e1,?_⟩
    cases fl with
    | next=>exact absurd rfl hn
    | ret t=>exact q
    | brk=>exact q
    | cont=>exact q
theorem jh {st:Stmt} (h1:PS X st (sOf X.K B u)):PSs X [st] (sOf X.K B u):=a2t h1
theorem m5 (he:PE X e (tOf X.K B m)):PS X (.Return (some e) pos) (sOf X.K B (jl m)):=(a67 he).imp fun D σ H z9=>by
  obtain ⟨st,ps,S,as,R,fl,st',e,q⟩:=z9
  obtain ⟨t,e1,rfl⟩:=Z2 e
  exact ⟨st,ps,S,as,R,t,st',e1,fun v H' S' as' R'=>q v σ H' S' as' R'⟩
theorem zm {c1:M Bool} {sa sb:List Stmt} (hc:PT X c (cOf X.K B c1)) (ha:PSs X sa (sOf X.K B u)) (hb:PSs X sb (sOf X.K B v)):PS X (.If c sa sb pos) (sOf X.K B (sIf c1 u v)):=(a90 hc ha hb).imp fun D σ H z9=>by
  obtain ⟨st,ps,S,as,R,fl,st',e,q⟩:=z9
  rcases a2o e with ⟨s1,e1,e2⟩ | ⟨s1,e1,e2⟩
  · exact ⟨st,ps,S,as,R,true,s1,e1,fun H1 S1 as1 R1=>a4d ⟨s1,ps,S1,as1,R1,fl,st',e2,q⟩⟩
  · exact ⟨st,ps,S,as,R,false,s1,e1,fun H1 S1 as1 R1=>a2y ⟨s1,ps,S1,as1,R1,fl,st',e2,q⟩⟩
theorem wj (i:Nat) {tg:Expr} (h:PG X tg (Hz i)):PG X tg (gOf X.K B (hName i)):=fun pins s σ H x u Q I r z9=>h pins s σ H x u Q I r (by
  obtain ⟨st,ps,S,as,t,R,st',e,q⟩:=z9
  cases e
  exact q _ H S as (R.drop.put R.top))
theorem mz (i:Nat) {te:TE} {s:Stmt} (h:PS X s (a2w te (Hz i))) (hm:∀ σ H Q,tOf X.K B m σ H Q→te σ H Q):PS X s (sOf X.K B (ji i m)):=h.imp fun D σ H z9=>by
  obtain ⟨st,ps,S,as,R,fl,st',e,q⟩:=z9
  obtain ⟨t,s1,e1,rfl,rfl⟩:=a0g e
  exact hm σ H _ ⟨st,ps,S,as,R,t,s1,e1,fun v H' S' as' R'=>q _ H' S' as' (R'.drop.put R'.top)⟩
theorem Dt (i:Nat) {te:TE} {s:Stmt} (h:PS X s (a2w te (Hz i))) (hm:∀ σ H Q,fOf X.K B m σ H Q→te σ H Q):PS X s (sOf X.K B (sNew i m)):=h.imp fun D σ H z9=>by
  obtain ⟨st,ps,S,as,R,fl,st',e,q⟩:=z9
  obtain ⟨t,s1,e1,rfl,rfl⟩:=a05 e
  exact hm σ H _ ⟨st,ps,S,as,R,t,s1,e1,fun p H' S' as' R' o n=>q _ H' S' as' (R'.a7m o n)⟩
end
end C
end
noncomputable section
set_option linter.all false
set_option maxRecDepth 100000
set_option maxHeartbeats 4000002
set_option autoImplicit false
namespace C
open PySem PySem.Spec PyProof.Rows L2
noncomputable section
variable {K:PySem.W.Frag} {B:Bas} {st:Sta} {σ:L2.St} {H H' S S':Hp} {ps ps2:List (V × T)} {as as':List Addr}
theorem Own.more {p:Addr} {t:T} (hs:Same S S') (x:∃ l,as'=as++l) (hh:H p=H' p) (o:Own K S as H p t):Own K S' as' H' p t:=by
  cases t with
  | lst ts=>obtain ⟨vs,h,r⟩:=o; exact ⟨vs,hh ▸ h,r.mono hs x⟩
  | dic ts=>obtain ⟨vs,h,r⟩:=o; exact ⟨vs,hh ▸ h,r.mono hs x⟩
  | _=>exact o.elim
theorem Rel.call {sto':List SO} (r:Rel K B st σ H ps S as) (g:a7v ⟨S,as,H⟩ S' as' H') (sub:Same S' H') (so:Hy K S' as' H' sto'):Rel K B { st with sto:=sto' } σ H' ps S' as' where
  sub:=sub
  grow:=by
    refine ⟨r.grow.same.trans g.same,?_,fun p o a b c=>?_⟩
    · obtain ⟨l,e⟩:=r.grow.more
      obtain ⟨l',e'⟩:=g.more
      exact ⟨l++l',by rw [e',e,List.append_assoc]⟩
    · obtain ⟨x,y,z⟩:=r.grow.keep p o a b c
      exact g.keep p o x y z
  slots:=fun i t f e=>by
    obtain ⟨v,h1,h2,h3⟩:=r.slots i t f e
    refine ⟨v,h1,fun q=>(h2 q).mono g.same g.more,fun q=>?_⟩
    obtain ⟨p,rfl,o⟩:=h3 q
    obtain ⟨ob,ho⟩:=o.own.there
    obtain ⟨x,y,z⟩:=g.keep p ob ho o.out o.nas
    exact ⟨p,rfl,o.own.more g.same g.more (by rw [ho,x]),y,z,o.new⟩
  apart:=r.apart
  sto:=so
  pend:=fun p hp=>(r.pend p hp).mono g.same g.more
  len:=r.len
end
noncomputable def spF (K:PySem.W.Frag) (ar:Nat) (F:Fn):Sp:=fun vs H Q _=>∃ S as sto ts t sto',Same S H∧Hy K S as H sto∧yt K S as vs ts∧ts.length=ar∧F ts sto=some (t,sto') ∧
  ∀ v H' S' as',a7v ⟨S,as,H⟩ S' as' H'→Same S' H'→Hy K S' as' H' sto'→Rep K S' as' v t→Q v H'
noncomputable section
variable {X:Cx} {B:Bas} {a b c e:Expr} {m m1 m2:M T} {pos p:Pos} {u v:S} {es:List Expr} {ms:M (List T)} {k:Nat} {f:Addr} {fd:FuncData} {pn:List Str} {F:Fn} {x:Str}
theorem a5a (G:Ce X.prog X.w X.K X.mg X.base CX0 k f fd pn (spF X.K pn.length F)) (hr:Ke k X.A) (hg:Gl X x) (hm:X.mg x=some (.ref f)) (hk:PySem.W.keepIn X.K (.ref f)=true) (hb:Binds X.K fd pn [])
    (ha:PA X (e::es) (aOf X.K B ms)) (hl:∀ st ts st',ms st=some (ts,st')→ts.length=pn.length) (hdb:(x==("__debug__" : Str))=false:=by decide)
    (he:starEach (e::es) X.env=(false,eval e X.env)::starEach es X.env:=by rfl) (hpl:(backTo pos (starEach es X.env)).any (·.1)=false:=by rfl) :
    PE X (.Call (.Name x p) (e::es) [] pos) (tOf X.K B (fu F ms)) :=
  (a2z G hr hg hm hk hb .nil a8p ha hdb he hpl).imp fun σ H Q z9=>by
    obtain ⟨st,ps,S,as,R,t,st',e,q⟩:=z9
    obtain ⟨ts,s1,sto,e1,e2,rfl⟩:=Yb e
    refine ⟨st,ps,S,as,R,ts,s1,e1,fun vs H1 S1 as1 R1 rs=>?_⟩
    show spF X.K pn.length F (vs++[]) H1 Q E0
    rw [List.append_nil]
    exact ⟨S1,as1,s1.sto,ts,t,sto,R1.sub,R1.sto,rs,hl _ _ _ e1,e2,fun v H2 S2 as2 g sub so r=>q v H2 S2 as2 ((R1.call g sub so).push r)⟩
theorem eq_nil:∀ st ts st',dz st=some (ts,st')→ts.length=0:=fun st ts st' e=>by cases e; rfl
theorem cu {r:M (List T)} {n:Nat} (h:∀ st ts st',r st=some (ts,st')→ts.length=n):∀ st ts st',aj m r st=some (ts,st')→ts.length=n+1:=fun st ts st' e=>by
  obtain ⟨t,s1,us,e1,e2,rfl⟩:=Dq e
  exact congrArg (· + 1) (h _ _ _ e2)
end
noncomputable section
variable {P:Program} {w:World} {K:PySem.W.Frag} {mg:Str→Option Value} {base:Heap}
theorem Yu {N:List Str} {vs:List V} {i:Nat} {v:V} (h:vs[i]? = some v):(L2.start N vs)[i]? = some (some v):=by
  unfold L2.start
  have hi:=(List.getElem?_eq_some_iff.mp h).1
  rw [List.getElem?_append_left (by rw [List.length_map]; exact hi),List.getElem?_map,h]; rfl
theorem Yi {S H:Hp} {as:List Addr} {sto:List SO} {vs:List V} {ts:List T} {N:List Str} (h1:Same S H) (h2:Hy K S as H sto) (h3:yt K S as vs ts) (hN:ts.length≤N.length) :
    Rel K ⟨S,as,H⟩ ⟨ts.map (fun t=>some (t,false))++List.replicate (N.length - ts.length) none,sto⟩ (L2.start N vs) H [] S as:=by
  have key:∀ (i:Nat) t fl,(ts.map (fun t=>some (t,false))++List.replicate (N.length - ts.length) (none:Slot))[i]? = some (some (t,fl))→fl=false∧ts[i]? = some t:=fun i t fl e=>by
    by_cases hi:i<ts.length
    · rw [List.getElem?_append_left (by rw [List.length_map]; exact hi),List.getElem?_map] at e
      cases z:ts[i]? with
      | none=>rw [z] at e; cases e
      | some t'=>rw [z] at e; cases e; exact ⟨rfl,rfl⟩
    · rw [List.getElem?_append_right (by rw [List.length_map]; exact Nat.le_of_not_lt hi)] at e
      have:=List.eq_of_mem_replicate (List.mem_of_getElem? e)
      cases this
  refine ⟨h1,⟨Same.refl _,nol,fun p o a b c=>⟨a,b,c⟩⟩,fun i t fl e=>?_,fun i j t u p ei ej=>?_,h2,(fun p hp=>by cases hp),?_⟩
  · obtain ⟨rfl,e'⟩:=key i t fl e
    obtain ⟨v,hv,r⟩:=h3.get e'
    exact ⟨v,Yu hv,fun _=>r,fun z=>by cases z⟩
  · obtain ⟨z,_⟩:=key i t true ei; cases z
  · unfold L2.start
    rw [List.length_append,List.length_append,List.length_map,List.length_map,List.length_replicate,List.length_replicate,h3.length]
theorem qe {x qual:Str} {st:Stmt} {f:Addr} {fd:FuncData} {N ps:List Str} {k:Nat} {b:S} (F:Fun K x qual st f fd) (Sc:nq N ps (iz st)) (hN:ps.length≤N.length)
    (hb:∀ (cdv:Value) (A:Around) (outer:List Env) (s:Shared) (H:Hp) (E:XK) (B:Bas),Ke k (A.deeper (envOfC qual (iz st) s.heap.objs.size f cdv)) →
      PSs (a3q CX0 P w K mg base N qual (iz st) f cdv A outer s H E).nox (m9 st) (sOf K B b)):Ce P w K mg base CX0 (k+1) f fd ps (spF K ps.length (ig N.length b)):=by
  refine F.ok Sc (fun vs H Q E h=>?_) fun cdv A outer s H vs Q E hr h=>?_
  · obtain ⟨S,as,sto,ts,t,sto',h1,h2,h3,h4,_⟩:=h
    rw [h3.length,h4]
  · obtain ⟨S,as,sto,ts,t,sto',h1,h2,h3,h4,h5,q⟩:=h
    refine ⟨_,hb cdv A outer s H E ⟨S,as,H⟩ hr,?_⟩
    have lv:vs.length=ps.length:=by rw [h3.length,h4]
    have R:Rel K ⟨S,as,H⟩ ⟨ts.map (fun t=>some (t,false))++List.replicate (N.length - ts.length) none,sto⟩ (L2.start N vs) H [] S as:=Yi h1 h2 h3 (by rw [h4]; exact hN)
    unfold ig at h5
    split at h5
    · rename_i t' s' e
      cases h5
      exact ⟨_,[],S,as,R,.ret t,s',e,fun v σ' H' S' as' R'=>q v H' S' as' R'.grow R'.sub R'.sto R'.top⟩
    · rename_i s' e
      cases h5
      exact ⟨_,[],S,as,R,.next,s',e,fun σ' H' S' as' R'=>q .non H' S' as' R'.grow R'.sub R'.sto .non⟩
    · cases h5
end
end C
end
noncomputable section
set_option linter.all false
set_option maxRecDepth 100000
set_option maxHeartbeats 4000002
set_option autoImplicit false
namespace C
open PySem PySem.Spec PyProof.Rows L2
theorem Zf {g:G} {b:S} {t:T} {r:List T} {s s':Sta} {fl:Flow} (h:forL g b (t::r) s=some (fl,s')):∃ s1 fb s2,g t s=some s1∧b s1=some (fb,s2) ∧
    (match fb with | .next=>forL g b r s2=some (fl,s') | .cont=>forL g b r s2=some (fl,s') | .brk=>fl=.next∧s'=s2 | .ret v=>fl=.ret v∧s'=s2):=by
  rw [forL] at h
  dsimp only at h
  split at h
  · rename_i s1 e1
    split at h
    · rename_i s2 e2; exact ⟨s1,.next,s2,e1,e2,h⟩
    · rename_i s2 e2; exact ⟨s1,.cont,s2,e1,e2,h⟩
    · rename_i s2 e2; cases h; exact ⟨s1,.brk,_,e1,e2,rfl,rfl⟩
    · rename_i v s2 e2; cases h; exact ⟨s1,.ret v,_,e1,e2,rfl,rfl⟩
    · cases h
  · cases h
structure M8 (K:PySem.W.Frag) (S:Hp) (as:List Addr) (H:Hp) (J:It) (ts:List T):Prop where
  go:∀ (i:Nat) t,ts[i]? = some t→J.go i H∧∀ x H',J.yld i H x H'→∃ S',Ext S H S' H'∧Rep K S' as x t
  stop:∀ i,ts.length≤i→J.stop i H
inductive iOf (K:PySem.W.Frag) (B:Bas) (m:M (List T)) (σ:L2.St) (H:Hp) (R:It→Hp→Prop):Prop
  | mk (st:Sta) (ps:List (V × T)) (S:Hp) (as:List Addr) (R0:Rel K B st σ H ps S as) (ts:List T) (st':Sta) (e:m st=some (ts,st')) (z:ts.length≤sizeLine) (q:∀ J H' S' as' ps',Rel K B st' σ H' (ps'++ps) S' as'→(∀ S as H,(∀ p∈ps',Rep K S as p.1 p.2)→Same S H→M8 K S as H J ts)→R J H')
noncomputable section
variable {X:Cx} {tg l:Expr} {tl:TE}
noncomputable def iSq (K:PySem.W.Frag) (tl:TE):TI:=fun σ H R=>tl σ H fun x H1=>∃ a,x=.ref a∧(((∃ xs,SqL K H1 a xs)∧R (Itl K a) H1)∨((∃ xs,SqT K H1 a xs)∧R (Itt K a) H1))
theorem a88 (hl:PE X l tl):PI X tg l (iSq X.K tl):=by
  intro pins s σ H R I h
  refine thn (hl pins s σ H _ I h) fun v s1 z0=>?_
  obtain ⟨x,H1,I1,r1,q1⟩:=z0
  obtain ⟨a,e,q⟩:=q1
  subst e
  cases r1
  rcases q with ⟨⟨xs,hq⟩,q⟩ | ⟨⟨xs,hq⟩,q⟩
  · obtain ⟨its,rv,p,hz⟩:=I1.list hq
    refine wpAny_pyIter_list p.isList ?_
    refine ⟨s1.heap.objs.size,[s1.heap.objs.size],_,_,H1,rfl,I1.kept (t':=s1.toks) fun b o e=>Heap.get?_push_of_some _ e,Xk a _,⟨_,Heap.get?_push_size _ rfl,rfl,rfl⟩,fun b hb=>?_,q⟩
    have e:b=s1.heap.objs.size:=by simpa using hb
    subst e
    exact I1.a5e (Nat.le_refl _) (I1.hok.fresh (Nat.le_refl _))
  · obtain ⟨its,rv,p,hz⟩:=I1.tuple hq
    refine wpAny_pyIter_tuple (show s1.heap.IsTuple a its.toArray from p) ?_
    refine ⟨s1.heap.objs.size,[s1.heap.objs.size],_,_,H1,rfl,I1.kept (t':=s1.toks) fun b o e=>Heap.get?_push_of_some _ e,Vq a _,⟨_,Heap.get?_push_size _ rfl,rfl,rfl⟩,fun b hb=>?_,q⟩
    have e:b=s1.heap.objs.size:=by simpa using hb
    subst e
    exact I1.a5e (Nat.le_refl _) (I1.hok.fresh (Nat.le_refl _))
end
noncomputable section
variable {X:Cx} {B:Bas} {a b c e tg iter:Expr} {m m1 m2:M T} {pos p:Pos} {u v:S} {g:G} {it:M (List T)} {body:List Stmt}
theorem itL {K:PySem.W.Frag} {S:Hp} {as:List Addr} {H:Hp} {p:Addr} {vs:List V} {ts:List T} (sub:Same S H) (h:SqL K H p vs) (r:yt K S as vs ts):M8 K S as H (Itl K p) ts where
  go:=fun i t e=>by
    obtain ⟨v,hv,rv⟩:=r.get e
    exact ⟨⟨vs,v,h,hv⟩,fun x H' y=>⟨S,by rw [y.1]; exact Ext.refl sub,by have:=y.2 vs h; rw [hv] at this; cases this; exact rv⟩⟩
  stop:=fun i hi=>⟨vs,h,by rw [r.length]; exact hi⟩
theorem itT {K:PySem.W.Frag} {S:Hp} {as:List Addr} {H:Hp} {p:Addr} {vs:List V} {ts:List T} (sub:Same S H) (h:SqT K H p vs) (r:yt K S as vs ts):M8 K S as H (Itt K p) ts where
  go:=fun i t e=>by
    obtain ⟨v,hv,rv⟩:=r.get e
    exact ⟨⟨vs,v,h,hv⟩,fun x H' y=>⟨S,by rw [y.1]; exact Ext.refl sub,by have:=y.2 vs h; rw [hv] at this; cases this; exact rv⟩⟩
  stop:=fun i hi=>⟨vs,h,by rw [r.length]; exact hi⟩
theorem vh:lim≤sizeLine:=by rw [sizeLine_eq]; decide
theorem yw (h:PE X iter (tOf X.K B m)):PI X tg iter (iOf X.K B (jw m)):=by
  intro pins s σ H R I hw
  refine a88 h pins s σ H R I ?_
  obtain ⟨st,ps,S,as,Rl,ts,st',e,hz,q⟩:=hw
  unfold jw at e
  split at e
  · rename_i xs s1 e1
    split at e
    · rename_i hl
      cases e
      refine ⟨st,ps,S,as,Rl,_,_,e1,fun v H1 S1 as1 R1=>?_⟩
      have top:=R1.top
      cases top with
      | @lst a vs _ hs hr =>
        refine ⟨a,rfl,.inl ⟨⟨vs,rm R1.sub hs⟩,q _ H1 S1 as1 [(.ref a,.lst _)] R1 fun S2 as2 H2 hp hh=>?_⟩⟩
        have:=hp _ List.mem_cons_self
        cases this with
        | @lst _ vs2 _ hs2 hr2=>exact itL hh (rm hh hs2) hr2
    · cases e
  · rename_i xs s1 e1
    split at e
    · rename_i hl
      cases e
      refine ⟨st,ps,S,as,Rl,_,_,e1,fun v H1 S1 as1 R1=>?_⟩
      have top:=R1.top
      cases top with
      | @tup a vs _ hs hr =>
        refine ⟨a,rfl,.inr ⟨⟨vs,qd R1.sub hs⟩,q _ H1 S1 as1 [(.ref a,.tup _)] R1 fun S2 as2 H2 hp hh=>?_⟩⟩
        have:=hp _ List.mem_cons_self
        cases this with
        | @tup _ vs2 _ hs2 hr2=>exact itT hh (qd hh hs2) hr2
    · cases e
  · cases e
theorem Lr {a:M T} {ts:List T} {s s':Sta} (h:gj a s=some (ts,s')):∃ n:Int,a s=some (.int n,s')∧(-1000000<n∧n<1000000)∧ts=rangeT n.toNat:=by
  unfold gj at h
  split at h
  · rename_i n s1 e
    split at h
    · rename_i hl; cases h; exact ⟨n,e,by have:n.natAbs<1000000:=hl; omega,rfl⟩
    · cases h
  · cases h
theorem V6 {n i:Nat} {t:T} (h:(rangeT n)[i]? = some t):i<n∧t=.int (i:Int):=by
  unfold rangeT at h
  rw [List.getElem?_map] at h
  cases z:(List.range n)[i]? with
  | none=>rw [z] at h; cases h
  | some k =>
    rw [z] at h; cases h
    obtain ⟨hi,e⟩:=List.getElem?_eq_some_iff.mp z
    rw [List.getElem_range] at e; subst e
    rw [List.length_range] at hi
    exact ⟨hi,rfl⟩
theorem Ir (hg:Gl X "range") (hm:X.mg "range" = none) (h:PE X a (tOf X.K B m)) (hs:starEach [a] X.env=[(false,eval a X.env)]:=by rfl):PI X tg (.Call (.Name "range" p) [a] [] pos) (iOf X.K B (gj m)):=by
  intro pins s σ H R I hw
  refine Ys (ta:=Qi (tOf X.K B m) a5d) hg hm (qp h vf hs) hs pins s σ H R I ?_
  obtain ⟨st,ps,S,as,Rl,ts,st',e,hz,q⟩:=hw
  obtain ⟨n,e1,hl,rfl⟩:=Lr e
  refine ⟨st,ps,S,as,Rl,_,_,e1,fun v H1 S1 as1 R1=>?_⟩
  cases R1.top
  refine ⟨n,rfl,by omega,by omega,q _ H1 S1 as1 [] R1.drop fun S2 as2 H2 _ hh=>⟨fun i t e=>?_,fun i hi=>?_⟩⟩
  · obtain ⟨hi,rfl⟩:=V6 e
    refine ⟨hi,fun x H' y=>⟨S2,by rw [y.1]; exact Ext.refl hh,?_⟩⟩
    have:=y.2; subst this
    rw [Int.zero_add]; exact .int _
  · show n.toNat≤i
    unfold rangeT at hi
    rwa [List.length_map,List.length_range] at hi
theorem Ck (hp:PassesOwn (model X.prog X.w) X.A X.env X.xe) (hc:X.calm=true) (hi:PI X tg iter (iOf X.K B it)) (hg:PG X tg (gOf X.K B g)) (hb:PSs X body (sOf X.K B u)) (hsz:∀ st ts st',it st=some (ts,st')→ts.length≤sizeLine)
    (hs:∀ x,foldedSetIterable iter X.env x=pure x:=by intro _; rfl):PS X (.For tg iter body [] pos) (sOf X.K B (kh g it u)):=(a6r hp hc hi hg hb hs).imp fun D σ H z9=>by
  obtain ⟨st,ps,S,as,R,fl,st',e,q⟩:=z9
  obtain ⟨ts,s1,e1,e2⟩:=Zy e
  refine ⟨st,ps,S,as,R,ts,s1,e1,hsz _ _ _ e1,fun J H1 S1 as1 ps' R1 facts=>?_⟩
  refine ⟨fun i m σ H=>m=ts.length - i∧i≤ts.length∧∃ sti Si asi,Rel X.K B sti σ H (ps'++ps) Si asi∧forL g u (ts.drop i) sti=some (fl,st'),⟨ts.length,by simp,Nat.zero_le _,s1,S1,as1,R1,by simpa using e2⟩,?_⟩
  rintro i m σ2 H2 ⟨rfl,hi,sti,Si,asi,Ri,ei⟩
  have F:=facts Si asi H2 (fun p hp=>Ri.pend p (List.mem_append_left _ hp)) Ri.sub
  have sub:∀ p∈ps,p∈ps'++ps:=fun p hp=>List.mem_append_right _ hp
  by_cases hlt:i<ts.length
  · rw [List.drop_eq_getElem_cons hlt] at ei
    obtain ⟨s2,fb,s3,eg,eb,er⟩:=Zf ei
    have ht:ts[i]? = some ts[i]:=List.getElem?_eq_getElem hlt
    refine .inr ⟨(F.go i _ ht).1,fun σ' H'=>∃ sti Si asi,Rel X.K B sti σ' H' (ps'++ps) Si asi∧forL g u (ts.drop (i+1)) sti=some (fl,st'),fun σ' H' h=>⟨ts.length - (i+1),by omega,rfl,hlt,h⟩,fun x H' y=>?_⟩
    obtain ⟨S',ex,rx⟩:=(F.go i _ ht).2 x H' y
    refine ⟨sti,ps'++ps,S',asi,_,(Ri.ext ex).push rx,s2,eg,fun σ3 H3 S3 as3 R3=>⟨s2,ps'++ps,S3,as3,R3,fb,s3,eb,?_⟩⟩
    cases fb with
    | next=>exact fun σ' H' S' as' R'=>⟨s3,S',as',R',er⟩
    | cont=>exact fun σ' H' S' as' R'=>⟨s3,S',as',R',er⟩
    | brk =>
      obtain ⟨rfl,rfl⟩:=er
      exact fun σ' H' S' as' R'=>q σ' H' S' as' (R'.pick sub)
    | ret v =>
      obtain ⟨rfl,rfl⟩:=er
      exact fun v σ' H' S' as' R'=>q v σ' H' S' as' (R'.pick fun p hp=>by
        rcases List.mem_cons.mp hp with rfl | z
        · exact List.mem_cons_self
        · exact List.mem_cons_of_mem _ (sub p z))
  · have hie:i=ts.length:=by omega
    subst hie
    rw [List.drop_length] at ei
    cases ei
    exact .inl ⟨F.stop _ (Nat.le_refl _),q σ2 H2 Si asi (Ri.pick sub)⟩
end
end C
end
noncomputable section
set_option linter.all false
set_option maxRecDepth 100000
set_option maxHeartbeats 4000002
set_option autoImplicit false
namespace C
open PySem PySem.Spec PyProof.Rows L2
noncomputable section
variable {K:PySem.W.Frag} {B:Bas} {st:Sta} {σ:L2.St} {H H' S S':Hp} {ps ps2:List (V × T)} {as as':List Addr}
theorem Rel.Xn (r:Rel K B st σ H ps S as) {i:Nat} {t:T} (e:st.env[i]? = some (some (t,true))):∃ S',Rel K B { st with env:=st.env.set i (some (t,false)) } σ H ps S' as:=by
  obtain ⟨v,S',_,R⟩:=r.freeze e
  exact ⟨S',R.drop⟩
theorem Rel.bw:∀ (cap:List Nat) {st:Sta} {S:Hp},Rel K B st σ H ps S as→∃ S',Rel K B { st with env:=bw cap st.env } σ H ps S' as
  | [],st,S,r=>⟨S,r⟩
  | i::l,st,S,r=>by
    unfold C.bw
    rw [List.foldl_cons]
    split
    · rename_i t f e
      cases f with
      | true =>
        obtain ⟨S1,R1⟩:=r.Xn e
        exact Rel.bw l R1
      | false =>
        have e2:st.env.set i (some (t,false))=st.env:=by
          apply List.ext_getElem?
          intro j
          by_cases hij:i=j
          · subst hij
            rw [List.getElem?_set_self (List.getElem?_eq_some_iff.mp e).1,e]
          · rw [List.getElem?_set_ne hij]
        rw [e2]
        exact Rel.bw l r
    · exact Rel.bw l r
noncomputable def Fx (env:List Slot):Nat→List Slot
  | 0=>env
  | n+1=>match (Fx env n)[n]? with
    | some (some (t,_))=>(Fx env n).set n (some (t,false))
    | _=>Fx env n
theorem Jm (env:List Slot):∀ n,(Fx env n).length=env.length
  | 0=>rfl
  | n+1=>by
    rw [Fx]
    split
    · rw [List.length_set]; exact Jm env n
    · exact Jm env n
theorem Iv (env:List Slot):∀ (n j:Nat),(Fx env n)[j]? = if j<n then (env[j]?).map m8 else env[j]?
  | 0,j=>by rw [if_neg (Nat.not_lt_zero _)]; rfl
  | n+1,j=>by
    have ihn:=Iv env n n
    rw [if_neg (Nat.lt_irrefl _)] at ihn
    have ihj:=Iv env n j
    rw [Fx,ihn]
    by_cases hj:j=n
    · subst hj
      rw [if_pos (Nat.lt_succ_self _)]
      cases z:env[j]? with
      | none=>simp only [z,Option.map_none]; rw [ihn,z]
      | some s =>
        have hl:j<(Fx env j).length:=by rw [Jm]; exact (List.getElem?_eq_some_iff.mp z).1
        cases s with
        | none=>simp only [Option.map_some]; rw [ihn,z]; rfl
        | some p=>obtain ⟨t,f⟩:=p; simp only [Option.map_some]; rw [List.getElem?_set_self hl]; rfl
    · have e1:(if j<n+1 then (env[j]?).map m8 else env[j]?)=(if j<n then (env[j]?).map m8 else env[j]?):=by
        by_cases hlt:j<n
        · rw [if_pos hlt,if_pos (Nat.lt_succ_of_lt hlt)]
        · rw [if_neg hlt,if_neg (by omega)]
      rw [e1,← ihj]
      split
      · rw [List.getElem?_set_ne (Ne.symm hj)]
      · rfl
theorem Wn (env:List Slot):Fx env env.length=env.map m8:=by
  apply List.ext_getElem?
  intro j
  rw [Iv,List.getElem?_map]
  by_cases hj:j<env.length
  · rw [if_pos hj]
  · rw [if_neg hj,List.getElem?_eq_none (Nat.le_of_not_lt hj)]; rfl
theorem Rel.Fx (r:Rel K B st σ H ps S as):∀ n,∃ S',Rel K B { st with env:=C.Fx st.env n } σ H ps S' as
  | 0=>⟨S,r⟩
  | n+1=>by
    obtain ⟨S1,R1⟩:=Rel.Fx r n
    rw [C.Fx]
    split
    · rename_i t f e
      cases f with
      | true=>exact R1.Xn e
      | false =>
        have e2:(C.Fx st.env n).set n (some (t,false))=C.Fx st.env n:=by
          apply List.ext_getElem?
          intro j
          by_cases hij:n=j
          · subst hij
            rw [List.getElem?_set_self (List.getElem?_eq_some_iff.mp e).1,e]
          · rw [List.getElem?_set_ne hij]
        rw [e2]
        exact ⟨S1,R1⟩
    · exact ⟨S1,R1⟩
theorem Rel.uo (r:Rel K B st σ H ps S as):∃ S',Rel K B (uo st) σ H ps S' as:=by
  obtain ⟨S',R⟩:=r.Fx st.env.length
  rw [Wn] at R
  exact ⟨S',R⟩
noncomputable def a1e (st:Sta):Prop:=∀ (i:Nat) t,st.env[i]?≠some (some (t,true))
theorem Di (st:Sta):a1e (C.uo st):=fun i t e=>by
  unfold C.uo at e
  rw [List.getElem?_map] at e
  cases z:st.env[i]? with
  | none=>rw [z] at e; cases e
  | some s =>
    rw [z] at e
    cases s with
    | none=>cases e
    | some p=>obtain ⟨t,f⟩:=p; cases e
theorem Rel.rebase (r:Rel K B st σ H ps S as) (n:a1e st):Rel K ⟨S,as,H⟩ st σ H ps S as :=
  ⟨r.sub,⟨Same.refl _,nol,fun p o a b c=>⟨a,b,c⟩⟩,fun i t f e=>by
    obtain ⟨v,h1,h2,_⟩:=r.slots i t f e
    exact ⟨v,h1,h2,fun z=>by subst z; exact absurd e (n i t)⟩,r.apart,r.sto,r.pend,r.len⟩
end
theorem Wq {g:G} {c:M Bool} {e:M T} {t:T} {r acc us:List T} {s s':Sta} (h:Fl g c e (t::r) s acc=some (us,s')):∃ s1 b s2,g t s=some s1∧c s1=some (b,s2) ∧
    ((b=true∧∃ u s3,e s2=some (u,s3)∧acc.length<lim∧Fl g c e r (uo s3) (acc++[u])=some (us,s'))∨(b=false∧Fl g c e r (uo s2) acc=some (us,s'))):=by
  rw [Fl] at h
  split at h
  · rename_i s1 e1
    split at h
    · rename_i s2 e2
      split at h
      · rename_i u s3 e3
        split at h
        · rename_i hl; exact ⟨s1,true,s2,e1,e2,.inl ⟨rfl,u,s3,e3,hl,h⟩⟩
        · cases h
      · cases h
    · rename_i s2 e2; exact ⟨s1,false,s2,e1,e2,.inr ⟨rfl,h⟩⟩
    · cases h
  · cases h
theorem X4 {nv:Nat} {cap:List Nat} {g:G} {it:M (List T)} {c:M Bool} {e:M T} {s s':Sta} {v:T} (h:uw nv cap g it c e s=some (v,s')):∃ ts s1 us s2,it s=some (ts,s1) ∧
    Fl g c e ts ⟨List.replicate nv none++cap.map (fun i=>((bw cap s1.env)[i]?).getD none),s1.sto⟩ []=some (us,s2)∧v=.lst us∧s'=⟨bw cap s1.env,s2.sto⟩:=by
  unfold uw at h
  split at h
  · rename_i ts s1 e1
    dsimp only at h
    split at h
    · rename_i us s2 e2; cases h; exact ⟨ts,s1,us,s2,e1,e2,rfl,rfl⟩
    · cases h
  · cases h
noncomputable section
variable {K:PySem.W.Frag} {B:Bas} {st:Sta} {σ:L2.St} {H H' S S':Hp} {ps ps2:List (V × T)} {as as':List Addr} {D:Addr} {ob:HO}
theorem Hy.mem {sto:List SO} (r:Hy K S as H sto) {a:Addr} (h:a∈as):∃ o,H a=some o:=by
  obtain ⟨n,hn⟩:=List.getElem?_of_mem h
  have hl:=(List.getElem?_eq_some_iff.mp hn).1
  rw [r.len] at hl
  obtain ⟨a',h1,h2,h3⟩:=r.at' n _ (List.getElem?_eq_getElem hl)
  rw [hn] at h1; cases h1
  exact h3.there
theorem Rel.fresh (r:Rel K B st σ H ps S as) (h:H D=none):B.H D=none∧S D=none∧D∉as∧Kp st σ D:=by
  have sD:S D=none:=r.sub.free h
  have nD:D∉as:=fun z=>by obtain ⟨o,e⟩:=r.sto.mem z; rw [h] at e; cases e
  refine ⟨?_,sD,nD,fun j u e1 e2=>?_⟩
  · cases q:B.H D with
    | none=>rfl
    | some o =>
      have b1:B.S D=none:=by
        cases z:B.S D with
        | none=>rfl
        | some u=>have:=r.grow.same _ _ z; rw [sD] at this; cases this
      have b2:D∉B.as:=fun z=>by obtain ⟨l,e⟩:=r.grow.more; exact nD (by rw [e]; exact List.mem_append_left _ z)
      have:=(r.grow.keep D o q b1 b2).1
      rw [h] at this; cases this
  · obtain ⟨v,h1,_,h3⟩:=r.slots j u true e1
    rw [e2] at h1; cases h1
    obtain ⟨p,ep,o⟩:=h3 rfl
    cases ep
    obtain ⟨ob,ho⟩:=o.own.there
    rw [h] at ho; cases ho
theorem Rel.a2d (r:Rel K B st σ H ps S as) (bD:B.H D=none) (sD:S D=none) (nD:D∉as) (no:Kp st σ D):Rel K B st σ (upd H D ob) ps S as:=by
  have ne:∀ b u,S b=some u→b≠D:=fun b u e z=>by subst z; rw [sD] at e; cases e
  refine ⟨fun b u e=>by rw [ql (ne b u e)]; exact r.sub _ _ e,⟨r.grow.same,r.grow.more,fun p o x y z=>?_⟩,fun i t f e=>?_,r.apart,⟨r.sto.len,r.sto.nd,fun n so e=>?_⟩,r.pend,r.len⟩
  · obtain ⟨a,b,c⟩:=r.grow.keep p o x y z
    exact ⟨by rw [ql (fun w=>by subst w; rw [bD] at x; cases x)]; exact a,b,c⟩
  · obtain ⟨v,h1,h2,h3⟩:=r.slots i t f e
    refine ⟨v,h1,h2,fun z=>?_⟩
    obtain ⟨p,rfl,o⟩:=h3 z
    have n:p≠D:=fun w=>by subst w; subst z; exact no i t e h1
    exact ⟨p,rfl,o.own.mono (Same.refl _) (ql n).symm,o.out,o.nas,o.new⟩
  · obtain ⟨a,h1,h2,h3⟩:=r.sto.at' n so e
    exact ⟨a,h1,h2,h3.mono (Same.refl _) (ql (fun w=>by subst w; exact nD (List.mem_of_getElem? h1))).symm⟩
theorem Rel.a7c (r:Rel K B st σ H ps S as) (no:a1e st) (sD:S D=none) (nD:D∉as):Rel K ⟨S,as,upd H D ob⟩ st σ (upd H D ob) ps S as:=by
  have ne:∀ b u,S b=some u→b≠D:=fun b u e z=>by subst z; rw [sD] at e; cases e
  refine ⟨fun b u e=>by rw [ql (ne b u e)]; exact r.sub _ _ e,⟨Same.refl _,nol,fun p o x y z=>⟨x,y,z⟩⟩,fun i t f e=>?_,r.apart,⟨r.sto.len,r.sto.nd,fun n so e=>?_⟩,r.pend,r.len⟩
  · obtain ⟨v,h1,h2,_⟩:=r.slots i t f e
    exact ⟨v,h1,h2,fun z=>by subst z; exact absurd e (no i t)⟩
  · obtain ⟨a,h1,h2,h3⟩:=r.sto.at' n so e
    exact ⟨a,h1,h2,h3.mono (Same.refl _) (ql (fun w=>by subst w; exact nD (List.mem_of_getElem? h1))).symm⟩
end
theorem Ga:∀ (cap:List Nat) (env:List Slot) (k:Nat),(∀ t,env[k]?≠some (some (t,true)))→∀ t,(bw cap env)[k]?≠some (some (t,true))
  | [],env,k,h=>h
  | i::l,env,k,h=>by
    have e:bw (i::l) env=bw l (match env[i]? with | some (some (t,_))=>env.set i (some (t,false)) | _=>env):=rfl
    rw [e]
    refine Ga l _ k fun t=>?_
    split
    · rename_i t' f e'
      by_cases hk:i=k
      · subst hk
        rw [List.getElem?_set_self (List.getElem?_eq_some_iff.mp e').1]
        intro z; cases z
      · rw [List.getElem?_set_ne hk]; exact h t
    · exact h t
theorem Jo:∀ (cap:List Nat) (env:List Slot) (k:Nat),k∈cap→∀ t,(bw cap env)[k]?≠some (some (t,true))
  | [],env,k,h=>by simp at h
  | i::l,env,k,h=>by
    have e:bw (i::l) env=bw l (match env[i]? with | some (some (t,_))=>env.set i (some (t,false)) | _=>env):=rfl
    rw [e]
    rcases List.mem_cons.mp h with rfl | h' -- here
    · refine Ga l _ k fun t=>?_
      split
      · rename_i t' f e'
        rw [List.getElem?_set_self (List.getElem?_eq_some_iff.mp e').1]
        intro z; cases z
      · rename_i hx
        intro z
        exact hx _ _ z
    · exact Jo l _ k h'
noncomputable def gE (K:PySem.W.Frag) (g:G):TG:=fun v σ H Q=>∃ B,gOf K B g v σ H Q
noncomputable def cE (K:PySem.W.Frag) (c:M Bool):TT:=fun σ H Q=>∃ B,cOf K B c σ H Q
noncomputable def eE (K:PySem.W.Frag) (e:M T):TE:=fun σ H Q=>∃ B,tOf K B e σ H Q
theorem pgE {X:Cx} {tg:Expr} {g:G} (h:∀ B,PG X tg (gOf X.K B g)):PG X tg (gE X.K g):=fun pins s σ H x u Q I r ⟨B,q⟩=>h B pins s σ H x u Q I r q
theorem ptE {X:Cx} {e:Expr} {c:M Bool} (h:∀ B,PT X e (cOf X.K B c)):PT X e (cE X.K c):=fun pins s σ H Q I ⟨B,q⟩=>h B pins s σ H Q I q
theorem peE {X:Cx} {e:Expr} {m:M T} (h:∀ B,PE X e (tOf X.K B m)):PE X e (eE X.K m):=fun pins s σ H Q I ⟨B,q⟩=>h B pins s σ H Q I q
theorem Bb {X:Cx}:PTs X [] (cE X.K j7):=fun pins s σ H Q I z9=>by
  obtain ⟨B,st,ps,S,as,R,b,st',e,q⟩:=z9
  cases e
  exact a3f pins s σ H Q I (q H S as R)
theorem Im {X:Cx} {e:Expr} {c:M Bool} (h:∀ B,PT X e (cOf X.K B c)):PTs X [e] (cE X.K c):=a2k (ptE h)
noncomputable section
variable {X:Cx} {scope:Scope} {N:List Str}
theorem Wi {B:Bas} {nv:Nat} {cap:List Nat} {g:G} {c:M Bool} {e:M T} {ts us:List T} {env:List Slot} {sto1:List SO} {s2:Sta} {σ:L2.St} {H1 S1:Hp} {as1:List Addr} {ps ps':List (V × T)} {J:It} {Q:VK}
    (hN:N.length=nv+cap.length) (hv:∀ i x,i<nv→N[i]? = some x→True)
    (hcap:∀ (j k:Nat),cap[j]? = some k→∃ x,N[nv+j]? = some x∧X.N[k]? = some x∧a7s X scope x)
    (R1:Rel X.K B ⟨env,sto1⟩ σ H1 (ps'++ps) S1 as1) (hno:∀ k∈cap,∀ t,env[k]?≠some (some (t,true)))
    (facts:∀ S as H,Same B.S S→(∃ l,as=B.as++l)→(∀ p∈ps',Rep X.K S as p.1 p.2)→Same S H→M8 X.K S as H J ts)
    (hc:Fl g c e ts ⟨List.replicate nv none++cap.map (fun i=>(env[i]?).getD none),sto1⟩ []=some (us,s2))
    (fin:∀ D H' S' as',Rel X.K B ⟨env,s2.sto⟩ σ H' (ps'++ps) S' as'→Vc X.K B S' as' H' D (.lst us)→Kp ⟨env,s2.sto⟩ σ D→Q (.ref D) H') :
    Px X scope N (gE X.K g) (cE X.K c) (eE X.K e) σ J H1 Q:=by
  intro D hD
  obtain ⟨bD,sD1,nD1,noD⟩:=R1.fresh hD
  have capg:∀ (i:Nat) s,(List.replicate nv (none:Slot)++cap.map (fun i=>(env[i]?).getD none))[i]? = some (some s)→∃ j k,i=nv+j∧cap[j]? = some k∧env[k]? = some (some s):=fun i s h=>by
    by_cases hi:i<nv
    · rw [List.getElem?_append_left (by rw [List.length_replicate]; exact hi)] at h
      have:=List.eq_of_mem_replicate (List.mem_of_getElem? h); cases this
    · rw [List.getElem?_append_right (by rw [List.length_replicate]; exact Nat.le_of_not_lt hi),List.length_replicate,List.getElem?_map] at h
      cases z:cap[i - nv]? with
      | none=>rw [z] at h; cases h
      | some k =>
        rw [z] at h
        refine ⟨i - nv,k,by omega,z,?_⟩
        cases w:env[k]? with
        | none=>simp [w] at h
        | some s'=>simp [w] at h; rw [h]
  have sig:∀ (j k:Nat) v,cap[j]? = some k→σ[k]? = some (some v)→(List.replicate nv (none:Option V)++cap.map (fun i=>(σ[i]?).getD none))[nv+j]? = some (some v):=fun j k v h1 h2=>by
    rw [List.getElem?_append_right (by rw [List.length_replicate]; omega),List.length_replicate,Nat.add_sub_cancel_left,List.getElem?_map,h1]
    simp [h2]
  refine ⟨List.replicate nv none++cap.map (fun i=>(σ[i]?).getD none),by rw [List.length_append,List.length_replicate,List.length_map,hN],fun i v x h1 h2 _=>?_,?_⟩
  · by_cases hi:i<nv
    · rw [List.getElem?_append_left (by rw [List.length_replicate]; exact hi)] at h1
      have:=List.eq_of_mem_replicate (List.mem_of_getElem? h1); cases this
    · rw [List.getElem?_append_right (by rw [List.length_replicate]; exact Nat.le_of_not_lt hi),List.length_replicate,List.getElem?_map] at h1
      cases z:cap[i - nv]? with
      | none=>rw [z] at h1; cases h1
      | some k =>
        rw [z] at h1
        obtain ⟨y,n1,n2,ck⟩:=hcap _ _ z
        have e:nv+(i - nv)=i:=by omega
        rw [e,h2] at n1; cases n1
        refine ⟨k,n2,?_,ck⟩
        cases w:σ[k]? with
        | none=>simp [w] at h1
        | some s'=>simp [w] at h1; rw [h1]
  refine ⟨fun i m σ' H'=>m=ts.length - i∧i≤ts.length∧∃ sti Si asi acc accv,Rel X.K ⟨Si,asi,H'⟩ sti σ' H' [] Si asi∧a1e sti∧Rel X.K B ⟨env,sti.sto⟩ σ H' (ps'++ps) Si asi∧H' D=some (.lst accv)∧Si D=none∧D∉asi ∧
    yt X.K Si asi accv acc∧Fl g c e (ts.drop i) sti acc=some (us,s2),⟨ts.length,by simp,Nat.zero_le _,_,S1,as1,[],[],?_,?_,?_,kj,sD1,nD1,.nil,hc⟩,?_⟩
  · refine Rel.a7c (B:=B) (H:=H1) ⟨R1.sub,R1.grow,fun i t f h=>?_,fun i j t u p hi hj=>?_,R1.sto,(fun p hp=>by cases hp),?_⟩ (fun i t h=>?_) sD1 nD1
    · obtain ⟨j,k,rfl,hk,ek⟩:=capg i _ h
      obtain ⟨v,h1,h2,h3⟩:=R1.slots k t f ek
      exact ⟨v,sig j k v hk h1,h2,h3⟩
    · obtain ⟨j,k,rfl,hk,ek⟩:=capg i _ hi
      exact absurd ek (hno k (List.mem_of_getElem? hk) t)
    · show (List.replicate nv (none:Option V)++cap.map _).length=(List.replicate nv (none:Slot)++cap.map _).length
      rw [List.length_append,List.length_append,List.length_replicate,List.length_replicate,List.length_map,List.length_map]
    · obtain ⟨j,k,rfl,hk,ek⟩:=capg i _ h
      exact absurd ek (hno k (List.mem_of_getElem? hk) t)
  · intro i t h
    obtain ⟨j,k,rfl,hk,ek⟩:=capg i _ h
    exact absurd ek (hno k (List.mem_of_getElem? hk) t)
  · exact R1.a2d bD sD1 nD1 noD
  rintro i m σ' H' ⟨rfl,hi,sti,Si,asi,acc,accv,Ri,no,Ro,hD',sD,nD,rA,ei⟩
  have F:=facts Si asi H' Ro.grow.same Ro.grow.more (fun p hp=>Ro.pend p (List.mem_append_left _ hp)) Ri.sub
  by_cases hlt:i<ts.length
  · rw [List.drop_eq_getElem_cons hlt] at ei
    obtain ⟨s3,b,s4,eg,ec,er⟩:=Wq ei
    have ht:ts[i]? = some ts[i]:=List.getElem?_eq_getElem hlt
    refine .inr ⟨(F.go i _ ht).1,fun x H2 y=>?_⟩
    obtain ⟨S2,ex,rx⟩:=(F.go i _ ht).2 x H2 y
    refine ⟨⟨Si,asi,H'⟩,sti,[],S2,asi,_,(Ri.ext ex).push rx,s3,eg,fun σ3 H3 S3 as3 R3=>⟨⟨Si,asi,H'⟩,s3,[],S3,as3,R3,b,s4,ec,fun H4 S4 as4 R4=>?_⟩⟩
    rcases er with ⟨rfl,w,s5,ee,hlen,erest⟩ | ⟨rfl,erest⟩
    · refine a4d ⟨⟨Si,asi,H'⟩,s4,[],S4,as4,R4,w,s5,ee,fun y H5 S5 as5 R5=>?_⟩
      obtain ⟨S6,R6⟩:=R5.uo
      obtain ⟨k1,k2,k3⟩:=R6.grow.keep D _ hD' sD nD
      have Ro2:=Ro.call R6.grow R6.sub R6.sto
      refine ⟨accv,k1,?_,ts.length - (i+1),by omega,rfl,hlt,uo s5,S6,as5,acc++[w],accv++[y],R6.drop.a7c (Di _) k2 k3,Di _,Ro2.a2d bD k2 k3 noD,kj,k2,k3,(rA.mono R6.grow.same R6.grow.more).append (.cons R6.top .nil),erest⟩
      rw [rA.length]; exact Nat.lt_of_lt_of_le hlen vh
    · refine a2y ?_
      obtain ⟨S6,R6⟩:=R4.uo
      obtain ⟨k1,k2,k3⟩:=R6.grow.keep D _ hD' sD nD
      have Ro2:=Ro.call R6.grow R6.sub R6.sto
      exact ⟨ts.length - (i+1),by omega,rfl,hlt,uo s4,S6,as4,acc,accv,R6.rebase (Di _),Di _,Ro2,k1,k2,k3,rA.mono R6.grow.same R6.grow.more,erest⟩
  · have hie:i=ts.length:=by omega
    subst hie
    rw [List.drop_length] at ei
    cases ei
    exact .inl ⟨F.stop _ (Nat.le_refl _),fin D H' Si asi Ro ⟨⟨accv,hD',rA⟩,sD,nD,bD⟩ noD⟩
theorem Rel.give {K:PySem.W.Frag} {B:Bas} {st:Sta} {σ:L2.St} {H S:Hp} {ps:List (V × T)} {as:List Addr} {p:Addr} {t:T} (r:Rel K B st σ H ps S as) (o:Vc K B S as H p t) (no:Kp st σ p):∃ S',Rel K B st σ H ((.ref p,t)::ps) S' as:=by
  obtain ⟨ob,ho⟩:=o.own.there
  have sS:Same S (upd S p ob):=Same.upd o.out ob
  have rep:Rep K (upd S p ob) as (.ref p) t:=by
    have w:=o.own
    cases t with
    | lst ts=>obtain ⟨vs,h,q⟩:=w; rw [ho] at h; cases h; exact .lst (SqL.of kj) (q.mono sS nol)
    | dic ts=>obtain ⟨vs,h,q⟩:=w; rw [ho] at h; cases h; exact .dic (.inl kj) (q.mono sS nol)
    | _=>exact w.elim
  have outs:∀ q,S q=none→q≠p→upd S p ob q=none:=fun q h n=>by rw [ql n]; exact h
  refine ⟨upd S p ob,Rel.push (v:=.ref p) (t:=t) ⟨?_,?_,?_,r.apart,?_,fun q hq=>(r.pend q hq).mono sS nol,r.len⟩ rep⟩
  · intro b u q
    by_cases z:b=p
    · subst z; rw [kj] at q; cases q; exact ho
    · rw [ql z] at q; exact r.sub _ _ q
  · refine ⟨r.grow.same.trans sS,r.grow.more,fun q w a b c=>?_⟩
    obtain ⟨x,y,z⟩:=r.grow.keep q w a b c
    refine ⟨x,outs q y fun n=>?_,z⟩
    subst n; rw [o.new] at a; cases a
  · intro j u f ej
    obtain ⟨v',a1,a2,a3⟩:=r.slots j u f ej
    refine ⟨v',a1,fun z=>(a2 z).mono sS nol,fun z=>?_⟩
    subst z
    obtain ⟨p',rfl,o'⟩:=a3 rfl
    refine ⟨p',rfl,o'.own.mono sS rfl,outs p' o'.out fun n=>?_,o'.nas,o'.new⟩
    subst n
    exact no j u ej a1
  · refine ⟨r.sto.len,r.sto.nd,fun n so en=>?_⟩
    obtain ⟨a,a1,a2,a3⟩:=r.sto.at' n so en
    refine ⟨a,a1,outs a a2 fun z=>?_,a3.mono sS rfl⟩
    subst z
    exact o.nas (List.mem_of_getElem? a1)
theorem Lf {K:PySem.W.Frag} {B:Bas} {m:M T} {σ:L2.St} {H:Hp} {Q:VK} (h:tOf K B m σ H Q):fOf K B m σ H Q:=by
  obtain ⟨st,ps,S,as,R,t,st',e,q⟩:=h
  refine ⟨st,ps,S,as,R,t,st',e,fun p H' S' as' R' o n=>?_⟩
  obtain ⟨S2,R2⟩:=R'.give o n
  exact q _ H' S2 as' R2
theorem Bx {e:Expr} {B:Bas} {m:M T} (h:PE X e (fOf X.K B m)):PE X e (tOf X.K B m):=h.imp fun σ H Q=>Lf
variable {B:Bas} {nv:Nat} {cap:List Nat} {g:G} {it:M (List T)} {c:M Bool} {e:M T} {tg iter elt:Expr} {ifs:List Expr} {pos:Pos}
structure a79 (X:Cx) (scope:Scope) (N:List Str) (nv:Nat) (cap:List Nat):Prop where
  len:N.length=nv+cap.length
  at':∀ (j k:Nat),cap[j]? = some k→∃ x,N[nv+j]? = some x∧X.N[k]? = some x∧a7s X scope x
theorem Ku (co:a79 X scope N nv cap) (hsz:∀ st ts st',it st=some (ts,st')→ts.length≤sizeLine) {σ:L2.St} {H:Hp} {Q:VK} (h:fOf X.K B (uw nv cap g it c e) σ H Q) :
    a4z X scope N (iOf X.K B it) (gE X.K g) (cE X.K c) (eE X.K e) σ H Q:=by
  obtain ⟨st,ps,S,as,R,t,st',e,q⟩:=h
  obtain ⟨ts,s1,us,s2,e1,e2,rfl,rfl⟩:=X4 e
  refine ⟨st,ps,S,as,R,ts,s1,e1,hsz _ _ _ e1,fun J H1 S1 as1 ps' R1 facts=>?_⟩
  obtain ⟨S2,R2⟩:=R1.bw cap
  exact Wi co.len (fun _ _ _ _=>trivial) co.at' R2 (fun k hk=>Jo cap s1.env k hk) (fun S as H _ _=>facts S as H) e2 fun D H' S' as' R' o n=>q D H' S' as' (R'.pick fun p hp=>List.mem_append_right _ hp) o n
theorem Dj (co:a79 X scope N nv cap) (sc:Kz X scope N) (calm:X.calm=true) (hi:PI X tg iter (iOf X.K B it)) (hsz:∀ st ts st',it st=some (ts,st')→ts.length≤sizeLine)
    (hg:∀ C s₀ H₀ ex pn,PG (Ay X scope N C s₀ H₀ ex pn) tg (gE X.K g)) (hc:∀ C s₀ H₀ ex pn,PTs (Ay X scope N C s₀ H₀ ex pn) ifs (cE X.K c)) (he:∀ C s₀ H₀ ex pn,PE (Ay X scope N C s₀ H₀ ex pn) elt (eE X.K e))
    (hs:∀ x,foldedSetIterable iter X.env x=pure x:=by intro _; rfl):PE X (.ListComp elt [⟨tg,iter,ifs,0⟩] scope pos) (fOf X.K B (uw nv cap g it c e)) :=
  (a3p sc calm hi hg hc he hs).imp fun σ H Q h=>Ku co hsz h
end
end C
end
noncomputable section
set_option linter.all false
set_option maxRecDepth 100000
set_option maxHeartbeats 4000002
set_option autoImplicit false
namespace C
open PySem PySem.Spec PyProof.Rows L2
noncomputable section
variable {X:Cx}
theorem Oo {f:Value→Value→Sem Value} {g:T→T→Option T} {r:R2} (h:OpR X f r)
    (k:∀ S as x y t u w,Rep X.K S as x t→Rep X.K S as y u→g t u=some w→∀ (H:Hp) (Q:VK),Same S H→(∀ v H' S',Ext S H S' H'→Rep X.K S' as v w→Q v H')→r x y H Q):OpT X f g:=by
  intro pins s σ H x y v u Q I rx ry z8
  obtain ⟨S,as,t,w,z,sub,ht,hu,hf,q⟩:=z8
  exact h pins s σ H x y v u Q I rx ry (k S as x y t w z ht hu hf H Q sub q)
theorem Dg {K:PySem.W.Frag} {S:Hp} {as:List Addr} {x y:V} {t u w:T} {g:T→T→Option T} {P:Prop} (ht:Rep K S as x t) (hu:Rep K S as y u) (hf:g t u=some w)
    (n1:∀ t u,(∀ i,t≠.int i)→g t u=none) (n2:∀ i u,(∀ j,u≠.int j)→g (.int i) u=none) (k:∀ i j,x=.int i→y=.int j→g (.int i) (.int j)=some w→P):P:=by
  by_cases h1:∃ i,t=.int i
  · obtain ⟨i,rfl⟩:=h1
    by_cases h2:∃ j,u=.int j
    · obtain ⟨j,rfl⟩:=h2
      cases ht; cases hu
      exact k i j rfl rfl hf
    · rw [n2 i u fun j e=>h2 ⟨j,e⟩] at hf; cases hf
  · rw [n1 t u fun i e=>h1 ⟨i,e⟩] at hf; cases hf
theorem Cu:OpT X (binaryOp .Sub) lu:=Oo a5s fun S as x y t u w ht hu hf H Q sub q =>
  Dg (g:=lu) ht hu hf (fun t u h=>by cases t <;> first | rfl | exact absurd rfl (h _)) (fun i u h=>by cases u <;> first | rfl | exact absurd rfl (h _)) fun i j ex ey hf=>by
  subst ex ey; cases hf
  exact ⟨_,_,rfl,rfl,q _ H S (Ext.refl sub) (.int _)⟩
theorem qx:OpT X (binaryOp .Mod) jo:=Oo a5x fun S as x y t u w ht hu hf H Q sub q =>
  Dg (g:=jo) ht hu hf (fun t u h=>by cases t <;> first | rfl | exact absurd rfl (h _)) (fun i u h=>by cases u <;> first | rfl | exact absurd rfl (h _)) fun i j ex ey hf=>by
  subst ex ey
  simp only [jo] at hf
  split at hf
  · cases hf; exact ⟨_,_,rfl,rfl,by assumption,q _ H S (Ext.refl sub) (.int _)⟩
  · cases hf
noncomputable def a82 (i j:Int):Prop:=0<j∧(j<1073741824∨j.natAbs<fdl)
theorem a0p:OpR X (binaryOp .FloorDiv) (rI a82 fun i j=>.int (i / j)):=opI fun i j _ _ _ _ _ hc q=>by
  have h1:(0:Int)<j:=hc.1
  have h2:j.natAbs<2 ^ 200:=by
    rcases hc.2 with h | h
    · exact Nat.lt_trans (show j.natAbs<1073741824 by omega) (by decide)
    · exact h
  exact floordiv_int (by omega) (by rw [Int.fdiv_eq_ediv_of_nonneg i (by omega)]; exact q) (.inl (PyProof.noPylong_of_log2 (Nat.lt_trans ((Nat.log2_lt (by omega)).mpr h2) (by decide))))
theorem yp:OpT X (binaryOp .FloorDiv) iw:=Oo a0p fun S as x y t u w ht hu hf H Q sub q =>
  Dg (g:=iw) ht hu hf (fun t u h=>by cases t <;> first | rfl | exact absurd rfl (h _)) (fun i u h=>by cases u <;> first | rfl | exact absurd rfl (h _)) fun i j ex ey hf=>by
  subst ex ey
  simp only [iw] at hf
  split at hf
  · rename_i hc; cases hf; exact ⟨_,_,rfl,rfl,hc,q _ H S (Ext.refl sub) (.int _)⟩
  · cases hf
theorem Ji:OpT X (binaryOp .Pow) Pn:=Oo a7b fun S as x y t u w ht hu hf H Q sub q =>
  Dg (g:=Pn) ht hu hf (fun t u h=>by cases t <;> first | rfl | exact absurd rfl (h _)) (fun i u h=>by cases u <;> first | rfl | exact absurd rfl (h _)) fun i j ex ey hf=>by
  subst ex ey
  simp only [Pn] at hf
  split at hf
  · rename_i h; cases hf; exact ⟨_,_,rfl,rfl,⟨h.1,by omega,by omega⟩,q _ H S (Ext.refl sub) (.int _)⟩
  · cases hf
theorem Jj:OpT X (compareOp .Lt) ltT:=Oo a8x fun S as x y t u w ht hu hf H Q sub q =>
  Dg (g:=ltT) ht hu hf (fun t u h=>by cases t <;> first | rfl | exact absurd rfl (h _)) (fun i u h=>by cases u <;> first | rfl | exact absurd rfl (h _)) fun i j ex ey hf=>by
  subst ex ey; cases hf
  exact ⟨_,_,rfl,rfl,q _ H S (Ext.refl sub) (.bl _)⟩
theorem a1f:OpT X (compareOp .LtE) leT:=Oo a80 fun S as x y t u w ht hu hf H Q sub q =>
  Dg (g:=leT) ht hu hf (fun t u h=>by cases t <;> first | rfl | exact absurd rfl (h _)) (fun i u h=>by cases u <;> first | rfl | exact absurd rfl (h _)) fun i j ex ey hf=>by
  subst ex ey; cases hf
  exact ⟨_,_,rfl,rfl,q _ H S (Ext.refl sub) (.bl _)⟩
theorem Um:OpT X (compareOp .Gt) gtT:=Oo a8g fun S as x y t u w ht hu hf H Q sub q =>
  Dg (g:=gtT) ht hu hf (fun t u h=>by cases t <;> first | rfl | exact absurd rfl (h _)) (fun i u h=>by cases u <;> first | rfl | exact absurd rfl (h _)) fun i j ex ey hf=>by
  subst ex ey; cases hf
  exact ⟨_,_,rfl,rfl,q _ H S (Ext.refl sub) (.bl _)⟩
theorem a1l:OpT X (compareOp .GtE) geT:=Oo a8k fun S as x y t u w ht hu hf H Q sub q =>
  Dg (g:=geT) ht hu hf (fun t u h=>by cases t <;> first | rfl | exact absurd rfl (h _)) (fun i u h=>by cases u <;> first | rfl | exact absurd rfl (h _)) fun i j ex ey hf=>by
  subst ex ey; cases hf
  exact ⟨_,_,rfl,rfl,q _ H S (Ext.refl sub) (.bl _)⟩
theorem qj:UnT X (unaryOp .USub) jt:=by
  intro pins s σ H x v Q I rx z8
  obtain ⟨S,as,t,w,sub,ht,hf,q⟩:=z8
  cases ht <;> simp only [jt,reduceCtorEq] at hf
  cases hf
  exact a1o pins s σ H _ v Q I rx ⟨_,rfl,q _ H S (Ext.refl sub) (.int _)⟩
noncomputable def a93 (K:PySem.W.Frag):R2:=fun x y H Q=>∃ l b xs zs,x=.ref l∧y=.ref b∧SqL K H l xs∧SqL K H b zs∧xs.length+zs.length≤sizeLine∧∀ p,H p=none→Q (.ref p) (upd H p (.lst (xs++zs)))
theorem a2i:OpR X (binaryOp .Add) (a93 X.K):=by
  intro pins s σ H x y v u Q I rx ry h
  obtain ⟨l,b,xs,zs,rfl,rfl,hH,hB,hz,q⟩:=h
  cases rx
  cases ry
  obtain ⟨its,r,p1,hl⟩:=I.list hH
  obtain ⟨its2,r2,p2,hl2⟩:=I.list hB
  obtain ⟨⟨cls,dd,data,sl⟩,n,ho,hc,hd0,hd⟩:=id p1
  obtain ⟨⟨cls2,dd2,data2,sl2⟩,n2,ho2,hc2,hd02,hd2⟩:=id p2
  simp only at hc hd hc2 hd2
  subst hc hd hc2 hd2
  refine concat_meets ⟨_,ho,rfl⟩ ⟨_,ho2,rfl⟩ noFill_list_add seq_list_add PySem.F.slot_list_add PySem.F.entry_list_add (PySem.F.args_list_add_2 _ _)
      (list_addW l b its.toArray its2.toArray n n2 dd dd2 sl sl2 (by rw [List.size_toArray,List.size_toArray,← r.length,← r2.length]; exact hz)) ⟨ho,ho2,?_⟩
  have ea:its.toArray++its2.toArray=(its++its2).toArray:=by simp
  rw [ea]
  exact ⟨.ref _,_,I.a9n (t':=s.toks) (r.append r2) (by rw [List.length_append]; exact hz),rfl,q _ I.fresh⟩
noncomputable def a6s (K:PySem.W.Frag):R2:=fun x y H Q=>∃ a b ys,x=.ref a∧y=.ref b∧SqT K H a []∧SqT K H b ys∧Q (.ref b) H
theorem a0i:OpR X (binaryOp .Add) (a6s X.K):=by
  intro pins s σ H x y v u Q I rx ry h
  obtain ⟨a,b,ys,rfl,rfl,ha,hb,q⟩:=h
  cases rx
  cases ry
  obtain ⟨its,r1,p1,_⟩:=I.tuple ha
  obtain ⟨its2,r2,p2,_⟩:=I.tuple hb
  cases r1
  obtain ⟨⟨cls,dd,data,sl⟩,ho,hc,n,hd⟩:=id p1
  obtain ⟨⟨cls2,dd2,data2,sl2⟩,ho2,hc2,n2,hd2⟩:=id p2
  simp only at hc hd hc2 hd2
  subst hc hd hc2 hd2
  exact concat_meets ⟨_,ho,rfl⟩ ⟨_,ho2,rfl⟩ noFill_tuple_add seq_tuple_add PySem.F.slot_tuple_add PySem.F.entry_tuple_add (PySem.F.args_tuple_add_2 _ _)
      (tuple_addW0 a b _ its2.toArray n n2 dd dd2 sl sl2 (by rfl)) ⟨ho,ho2,⟨.ref b,H,I,rfl,q⟩⟩
theorem jq:OpT X (binaryOp .Add) jf:=by
  intro pins s σ H x y v u Q I rx ry z8
  obtain ⟨S,as,t,t2,w,sub,ht,hu,hf,q⟩:=z8
  cases ht <;> first | exact nomatch (show none=some w from hf) | cases hu <;> first | exact nomatch (show none=some w from hf) | simp only [jf] at hf
  · cases hf
    exact a6p pins s σ H _ _ v u Q I rx ry ⟨_,_,rfl,rfl,q _ H S (Ext.refl sub) (.int _)⟩
  · split at hf
    · rename_i hl; cases hf
      exact V4 pins s σ H _ _ v u Q I rx ry ⟨_,_,rfl,rfl,Nat.le_trans (Nat.le_of_lt hl) vh,q _ H S (Ext.refl sub) (.str _)⟩
    · cases hf
  · rename_i a vs ts hs hr b ws us hs2 hr2
    split at hf
    · rename_i hl; cases hf
      have hz:vs.length+ws.length≤sizeLine:=by rw [hr.length,hr2.length]; exact Nat.le_trans (Nat.le_of_lt hl) vh
      cases hr with
      | nil=>exact a0i pins s σ H _ _ v u Q I rx ry ⟨_,_,_,rfl,rfl,qd sub hs,qd sub hs2,q _ H S (Ext.refl sub) (.tup hs2 hr2)⟩
      | @cons v0 t0 vs0 ts0 h1 h2 =>
        refine a3c pins s σ H _ _ v u Q I rx ry ⟨_,_,_,_,rfl,rfl,qd sub hs,qd sub hs2,by simp,hz,fun z=>?_,fun z p hp=>?_⟩
        · subst z
          cases hr2
          rw [List.append_nil] at q
          exact q _ H S (Ext.refl sub) (.tup hs (.cons h1 h2))
        · have x:=Ext.laid sub hp (.tup ((v0::vs0)++ws))
          exact q _ _ _ x (.tup (SqT.of kj) (((yt.cons h1 h2).append hr2).mono x.s nol))
    · cases hf
  · rename_i a vs ts hs hr b ws us hs2 hr2
    split at hf
    · rename_i hl; cases hf
      have hz:vs.length+ws.length≤sizeLine:=by rw [hr.length,hr2.length]; exact Nat.le_trans (Nat.le_of_lt hl) vh
      refine a2i pins s σ H _ _ v u Q I rx ry ⟨_,_,_,_,rfl,rfl,rm sub hs,rm sub hs2,hz,fun p hp=>?_⟩
      have x:=Ext.laid sub hp (.lst (vs++ws))
      exact q _ _ _ x (.lst (SqL.of kj) ((hr.append hr2).mono x.s nol))
    · cases hf
theorem a4v (x:Str) (n:Int) (h:0≤n):Txt.mul x n=⟨((List.replicate n.toNat x.cps.toList).flatten).toArray⟩:=by
  have key:∀ (k:Nat) (acc:Array Nat),(List.replicate k x.cps).foldl (· ++ ·) acc=acc++((List.replicate k x.cps.toList).flatten).toArray:=by
    intro k
    induction k with
    | zero=>intro acc; simp
    | succ k ih =>
      intro acc
      rw [List.replicate_succ,List.foldl_cons,ih,List.replicate_succ,List.flatten_cons]
      apply Array.ext'
      simp
  unfold Txt.mul
  by_cases h1:n<1
  · have:n=0:=by omega
    subst this
    rw [if_pos h1]; rfl
  · rw [if_neg h1]
    by_cases h2:(n==1||x.length==0)=true
    · rw [if_pos h2]
      rw [Bool.or_eq_true] at h2
      rcases h2 with h2 | h2
      · have:n=1:=by simpa using h2
        subst this
        cases x; simp
      · have h3:x.cps.size=0:=by simpa [Str.length] using h2
        obtain ⟨c⟩:=x
        have h4:c = #[]:=Array.eq_empty_of_size_eq_zero h3
        subst h4
        congr 1
        apply Array.ext'
        simp
    · rw [if_neg h2,key]
      congr 1
      apply Array.ext'
      simp
theorem Cj:OpT X (binaryOp .Mult) Dm:=by
  intro pins s σ H x y v u Q I rx ry z8
  obtain ⟨S,as,t,t2,w,sub,ht,hu,hf,q⟩:=z8
  cases ht <;> first | exact nomatch (show none=some w from hf) | cases hu <;> first | exact nomatch (show none=some w from hf) | simp only [Dm] at hf
  · split at hf
    · rename_i hb; cases hf
      refine a5q pins s σ H _ _ v u Q I rx ry ⟨_,_,rfl,rfl,?_,q _ H S (Ext.refl sub) (.int _)⟩
      rw [Bool.or_eq_true] at hb
      rcases hb with h | h
      · exact .inl (of_decide_eq_true h)
      · exact .inr (of_decide_eq_true h)
    · cases hf
  · rename_i z j
    split at hf
    · rename_i hb; cases hf
      obtain ⟨t',rfl⟩:=rx
      obtain ⟨t2',rfl⟩:=ry
      refine SB.mul ⟨?_,fun _ _=>?_,fun _ _=>?_⟩ fun t3 k=>⟨.str (Txt.mul z j),H,I.tok _,⟨_,rfl⟩,?_⟩
      · have h1:¬ j < -(2 ^ 63:Int):=by omega
        have h2:¬ j ≥ 2 ^ 63:=by omega
        rw [decide_eq_false h1,decide_eq_false h2]; rfl
      · have h1:(z.length:Int)≤100:=by omega
        have h2:(100:Int)≤(2 ^ 63 - 1) / j:=by
          have hj:0<j:=by
            rcases Int.lt_or_le 0 j with h | h
            · exact h
            · exfalso
              have:j=0:=by omega
              subst this
              rename_i a _; exact a (by decide)
          exact (Int.le_ediv_iff_mul_le hj).mpr (by omega)
        omega
      · have h3:z.length * j.toNat≤100 * 1000:=Nat.mul_le_mul hb.2.2 (by omega)
        unfold Builtin.Str.tooLong
        rw [sizeLine_eq]
        exact decide_eq_false (by omega)
      · rw [a4v z j hb.1]; exact q _ H S (Ext.refl sub) (.str _)
    · cases hf
end
end C
end
noncomputable section
set_option linter.all false
set_option maxRecDepth 100000
set_option maxHeartbeats 4000002
set_option autoImplicit false
namespace C
open PySem PySem.Spec PyProof.Rows L2
noncomputable section
variable {X:Cx} {B:Bas} {a b c e o:Expr} {m m1 m2:M T} {pos p:Pos}
theorem Wh (n:Nat) (i:Int):ixI n i=ixN n i:=rfl
theorem Wb {K:PySem.W.Frag} {S:Hp} {as:List Addr} {y:V} {t:T} {q:L2.Key} (r:Rep K S as y t) (h:keyOf t=some q):y=kV q:=by
  cases r <;> simp only [keyOf,reduceCtorEq] at h <;> (cases h; rfl)
noncomputable def a8l:R2:=fun x y H Q=>∃ a v,x=.ref a∧Vx H a y (some v)∧Q v H
theorem a4i (hu:X.A.units+1<cLine):IxR X a8l:=by
  intro value slice pins s σ H x y v u Q I rx ry z8 hs
  obtain ⟨a,w,ex,g,q⟩:=z8
  subst ex
  cases rx
  refine tail_any (Qy I g) slot_dict_getitem.lookup (Xj hu I g ry fun w' s' I' r'=>⟨w,H,I',r',q⟩) hs
theorem Z1 (hu:X.A.units+1<cLine):IxR X (r2 X.K gn):=by
  intro value slice pins s σ H x y v u Q I rx ry z8 hs
  obtain ⟨S,as,t,t2,w,sub,ht,hu2,hf,q⟩:=z8
  cases ht with
  | @tup a vs ts h1 h2 =>
    cases hu2 <;> simp only [gn,reduceCtorEq] at hf
    rename_i i
    obtain ⟨j,e1,e2⟩:=Option.bind_eq_some_iff.mp hf
    obtain ⟨z,hz,rz⟩:=h2.get e2
    refine a6x value slice pins s σ H _ _ v u Q I rx ry ⟨a,vs,i,z,rfl,rfl,qd sub h1,?_,q z H S (Ext.refl sub) rz⟩ hs
    rw [Wh,← h2.length] at e1
    unfold atI; rw [e1]; exact hz
  | @lst a vs ts h1 h2 =>
    cases hu2 <;> simp only [gn,reduceCtorEq] at hf
    rename_i i
    obtain ⟨j,e1,e2⟩:=Option.bind_eq_some_iff.mp hf
    obtain ⟨z,hz,rz⟩:=h2.get e2
    refine a3i value slice pins s σ H _ _ v u Q I rx ry ⟨a,vs,i,z,rfl,rfl,rm sub h1,?_,q z H S (Ext.refl sub) rz⟩ hs
    rw [Wh,← h2.length] at e1
    unfold atI; rw [e1]; exact hz
  | str z =>
    cases hu2 <;> simp only [gn,reduceCtorEq] at hf
    rename_i i
    split at hf
    · rename_i hl
      obtain ⟨j,e1,e2⟩:=Option.bind_eq_some_iff.mp hf
      obtain ⟨cc,e3,e4⟩:=Option.map_eq_some_iff.mp e2
      subst e4
      refine a6o value slice pins s σ H _ _ v u Q I rx ry ⟨z,i,cc,rfl,rfl,Nat.le_trans (Nat.le_of_lt hl) vh,?_,q _ H S (Ext.refl sub) (.str _)⟩ hs
      rw [Wh] at e1
      unfold atI; rw [e1]; exact e3
    · cases hf
  | @dic a kvs ts h1 h2 =>
    simp only [gn] at hf
    obtain ⟨k,e1,e2⟩:=Option.bind_eq_some_iff.mp hf
    have ey:=Wb hu2 e1
    subst ey
    rcases h2.get k with ⟨z,t',a1,a2,a3⟩ | ⟨_,a2⟩
    · rw [e2] at a2; cases a2
      exact a4i hu value slice pins s σ H _ _ v u Q I rx ry ⟨a,z,rfl,.inl ⟨kvs,k,Ci sub h1,rfl,a1.symm⟩,q z H S (Ext.refl sub) a3⟩ hs
    · rw [e2] at a2; cases a2
  | _=>simp only [gn,reduceCtorEq] at hf
theorem jk (hu:X.A.units+1<cLine) (ha:PE X a (tOf X.K B m1)) (hb:PE X b (tOf X.K B m2)) (hs:Xr b):PE X (.Subscript a b pos) (tOf X.K B (mOp gn m1 m2)):=Ti (a8h (Z1 hu) ha hb hs)
theorem ud:S8 X (.builtin "len") jz:=by
  intro pins s σ H xs us Q I rs z8
  obtain ⟨S,as,ts,w,sub,hr,hf,q⟩:=z8
  cases hr with
  | nil=>simp only [jz,reduceCtorEq] at hf
  | @cons x t xs' ts' h1 h2 =>
    cases h2 with
    | cons h3 h4=>simp only [jz,reduceCtorEq] at hf
    | nil =>
      cases h1 with
      | tup g1 g2=>simp only [jz] at hf; cases hf; exact Es pins s σ H _ us Q I rs ⟨_,_,rfl,.inr (qd sub g1),by rw [g2.length]; exact q _ H S (Ext.refl sub) (.int _)⟩
      | lst g1 g2=>simp only [jz] at hf; cases hf; exact Es pins s σ H _ us Q I rs ⟨_,_,rfl,.inl (rm sub g1),by rw [g2.length]; exact q _ H S (Ext.refl sub) (.int _)⟩
      | str z =>
        simp only [jz] at hf
        split at hf
        · rename_i hl; cases hf; exact Ny pins s σ H _ us Q I rs ⟨_,rfl,Nat.le_trans (Nat.le_of_lt hl) vh,q _ H S (Ext.refl sub) (.int _)⟩
        · cases hf
      | @dic a kvs ts g1 g2 =>
        simp only [jz] at hf; cases hf
        obtain ⟨u,rfl,ru⟩:=rs.one
        cases ru
        exact a7h I (Ci sub g1) fun t s' I'=>⟨.int kvs.length,H,I',⟨t,rfl⟩,by rw [g2.length]; exact q _ H S (Ext.refl sub) (.int _)⟩
      | _=>simp only [jz,reduceCtorEq] at hf
theorem yq:S8 X (.type "tuple") wu:=by
  intro pins s σ H xs us Q I rs z8
  obtain ⟨S,as,ts,w,sub,hr,hf,q⟩:=z8
  cases hr with
  | nil=>simp only [wu,reduceCtorEq] at hf
  | @cons x t xs' ts' h1 h2 =>
    cases h2 with
    | cons h3 h4=>simp only [wu,reduceCtorEq] at hf
    | nil =>
      cases h1 with
      | @tup a vs ts g1 g2=>simp only [wu] at hf; cases hf; exact Gs pins s σ H _ us Q I rs ⟨_,_,rfl,.inr ⟨qd sub g1,q _ H S (Ext.refl sub) (.tup g1 g2)⟩⟩
      | @lst a vs ts g1 g2 =>
        simp only [wu] at hf; cases hf
        refine Gs pins s σ H _ us Q I rs ⟨_,_,rfl,.inl ⟨rm sub g1,fun p hp=>?_⟩⟩
        have x:=Ext.laid sub hp (.tup vs)
        exact q _ _ _ x (.tup (SqT.of kj) (g2.mono x.s nol))
      | _=>simp only [wu,reduceCtorEq] at hf
theorem La:S8 X (.type "list") Ek:=by
  intro pins s σ H xs us Q I rs z8
  obtain ⟨S,as,ts,w,sub,hr,hf,q⟩:=z8
  cases hr with
  | nil=>simp only [Ek,reduceCtorEq] at hf
  | @cons x t xs' ts' h1 h2 =>
    cases h2 with
    | cons h3 h4=>simp only [Ek,reduceCtorEq] at hf
    | nil =>
      cases h1 with
      | @tup a vs ts g1 g2 =>
        simp only [Ek] at hf; cases hf
        refine Fi pins s σ H _ us Q I rs ⟨_,_,rfl,.inr (qd sub g1),fun p hp=>?_⟩
        have x:=Ext.laid sub hp (.lst vs)
        exact q _ _ _ x (.lst (SqL.of kj) (g2.mono x.s nol))
      | @lst a vs ts g1 g2 =>
        simp only [Ek] at hf; cases hf
        refine Fi pins s σ H _ us Q I rs ⟨_,_,rfl,.inl (rm sub g1),fun p hp=>?_⟩
        have x:=Ext.laid sub hp (.lst vs)
        exact q _ _ _ x (.lst (SqL.of kj) (g2.mono x.s nol))
      | _=>simp only [Ek,reduceCtorEq] at hf
theorem U5 (xs:List V) (n:Nat):Vw xs (some (n:Int)) none=xs.drop n:=by
  unfold Vw
  rw [HT.a3n,HT.Zn]
  by_cases h:n≤xs.length
  · rw [Nat.min_eq_left h,List.take_of_length_le (by rw [List.length_drop]; omega)]
  · rw [Nat.min_eq_right (by omega),List.drop_of_length_le (i:=n) (by omega),List.drop_of_length_le (Nat.le_refl _),List.take_nil]
theorem Fq.put {K:PySem.W.Frag} {S:Hp} {as:List Addr} {k:L2.Key} {v:V} {t:T} (r:Rep K S as v t):∀ {vs:List (L2.Key × V)} {ts:List (L2.Key × T)},Fq K S as vs ts→Fq K S as (putK vs k v) (Tq k t ts):=by
  intro vs ts h
  have any:∀ {vs:List (L2.Key × V)} {ts:List (L2.Key × T)},Fq K S as vs ts→(vs.any fun kv=>decide (kv.1=k))=(ts.any fun p=>decide (p.1=k)):=by
    intro vs ts h
    induction vs generalizing ts with
    | nil=>cases h; rfl
    | cons p r ih=>cases h with | cons h1 h2=>rw [List.any_cons,List.any_cons,ih h2]
  have mp:∀ {vs:List (L2.Key × V)} {ts:List (L2.Key × T)},Fq K S as vs ts→Fq K S as (vs.map fun kv=>if kv.1=k then (kv.1,v) else kv) (ts.map fun p=>if p.1=k then (p.1,t) else p):=by
    intro vs ts h
    induction vs generalizing ts with
    | nil=>cases h; exact .nil
    | cons p rr ih =>
      cases h with
      | @cons q v0 t0 _ _ h1 h2 =>
        rw [List.map_cons,List.map_cons]
        by_cases e:q=k
        · rw [if_pos e,if_pos e]; exact .cons r (ih h2)
        · rw [if_neg e,if_neg e]; exact .cons h1 (ih h2)
  have ap:∀ {vs:List (L2.Key × V)} {ts:List (L2.Key × T)},Fq K S as vs ts→Fq K S as (vs++[(k,v)]) (ts++[(k,t)]):=by
    intro vs ts h
    induction vs generalizing ts with
    | nil=>cases h; exact .cons r .nil
    | cons p rr ih=>cases h with | cons h1 h2=>exact .cons h1 (ih h2)
  unfold putK Tq
  rw [any h]
  split
  · exact mp h
  · exact ap h
end
end C
end
noncomputable section
set_option linter.all false
set_option maxRecDepth 100000
set_option maxHeartbeats 4000002
set_option autoImplicit false
namespace C
open PySem PySem.Spec PyProof.Rows L2
theorem R7 {i:Nat} {k d:M T} {s s':Sta} {t:T} (h:Ep i k d s=some (t,s')):Nr i s=true∧∃ kt s1 dt kvs f q,k s=some (kt,s1)∧d s1=some (dt,s')∧s'.env[i]? = some (some (.dic kvs,f))∧keyOf kt=some q∧t=(Pk q kvs).getD dt:=by
  unfold Ep at h
  split at h
  · rename_i hd
    refine ⟨hd,?_⟩
    split at h
    · rename_i kt s1 e1
      split at h
      · rename_i dt s2 e2
        split at h
        · rename_i kvs f e3
          split at h
          · rename_i q e4
            cases h
            exact ⟨kt,s1,dt,kvs,f,q,e1,e2,e3,e4,rfl⟩
          · cases h
        · cases h
      · cases h
    · cases h
  · cases h
theorem Qp {i:Nat} {s s':Sta} {t:T} (h:qm i s=some (t,s')):s'=s∧((∃ xs f,s.env[i]? = some (some (.lst xs,f))∧t=.int xs.length)∨(∃ xs f,s.env[i]? = some (some (.dic xs,f))∧t=.int xs.length)):=by
  unfold qm at h
  split at h
  · rename_i xs f e; cases h; exact ⟨rfl,.inl ⟨xs,f,e,rfl⟩⟩
  · rename_i xs f e; cases h; exact ⟨rfl,.inr ⟨xs,f,e,rfl⟩⟩
  · cases h
noncomputable section
variable {K:PySem.W.Frag} {B:Bas} {st:Sta} {σ:L2.St} {H S:Hp} {ps:List (V × T)} {as:List Addr}
theorem Rel.dictAt (r:Rel K B st σ H ps S as) {i:Nat} {kvs:List (L2.Key × T)} {f:Bool} (e:st.env[i]? = some (some (.dic kvs,f))):∃ p vs,σ[i]? = some (some (.ref p))∧Rd H p (.dK vs)∧Fq K S as vs kvs:=by
  obtain ⟨v,h1,h2,h3⟩:=r.slots i _ f e
  cases f with
  | false =>
    have h:=h2 rfl
    cases h with
    | dic a b=>exact ⟨_,_,h1,Ci r.sub a,b⟩
  | true =>
    obtain ⟨p,rfl,o⟩:=h3 rfl
    obtain ⟨vs,h,q⟩:=o.own
    exact ⟨p,vs,h1,.inl h,q⟩
end
noncomputable section
variable {X:Cx} {B:Bas} {a b c e o k d:Expr} {m mo mk md mv:M T} {pos p:Pos}
theorem Nm {i:Nat} {s:Sta} (h:Nr i s=true):∃ kvs f,s.env[i]? = some (some (.dic kvs,f)):=by
  unfold Nr at h
  split at h
  · rename_i kvs f e; exact ⟨kvs,f,e⟩
  · cases h
theorem Ou {i:Nat} {s:Sta} (h:jc i s=true):∃ kvs f,s.env[i]? = some (some (.lst kvs,f)):=by
  unfold jc at h
  split at h
  · rename_i kvs f e; exact ⟨kvs,f,e⟩
  · cases h
theorem O6 (i:Nat) {apos:Pos} (hu:X.A.units+1<cLine) (ho:PE X o (a0w i)) (hk:PE X k (tOf X.K B mk)) (hd:PE X d (tOf X.K B md)) (m:M2 X o "get" apos k d pos):PE X (.Call (.Attribute o "get" apos) [k,d] [] pos) (tOf X.K B (Ep i mk md)) :=
  (Zu hu ho hk hd m).imp fun σ H Q z9=>by
    obtain ⟨st,ps,S,as,R,t,st',e,q⟩:=z9
    obtain ⟨hd,kt,s1,dt,kvs,f,qk,e1,e2,e3,e4,rfl⟩:=R7 e
    obtain ⟨kvs0,f0,e0⟩:=Nm hd
    obtain ⟨p0,vs0,s0,rd0,_⟩:=R.dictAt e0
    refine ⟨_,s0,p0,rfl,.inl ⟨vs0,rd0⟩,st,ps,S,as,R,kt,s1,e1,fun u H1 S1 as1 R1=>⟨s1,_,S1,as1,R1,dt,st',e2,fun w H2 S2 as2 R2=>?_⟩⟩
    obtain ⟨p1,vs1,z1,rd1,h4⟩:=R2.dictAt e3
    rw [s0] at z1; cases z1
    have ey:=Wb R2.top2 e4
    subst ey
    refine ⟨O7 vs1 qk,.inl ⟨vs1,qk,rd1,rfl,rfl⟩,?_⟩
    rcases h4.get qk with ⟨z,t',a1,a2,a3⟩ | ⟨a1,a2⟩
    · rw [a1]; rw [a2] at q; exact q z H2 S2 as2 (R2.drop.drop.push a3)
    · rw [a1]; rw [a2] at q; exact q w H2 S2 as2 (R2.drop.drop.push R2.top)
theorem Oh (i:Nat) {pos':Pos} (hu:X.A.units+1<cLine) (ho:PE X o (a0w i)) (hk:PE X k (tOf X.K B mk)) (hv:PE X e (tOf X.K B mv)) (hs:swapsWith e (some (.Subscript o k pos')) pos.line X.env=pure false) :
    PS X (.Assign [.Subscript o k pos'] e pos) (sOf X.K B (Fb i mk mv)):=(a2u hu ho hk hv hs).imp fun D σ H z9=>by
  obtain ⟨st,ps,S,as,R,fl,st',e,q⟩:=z9
  obtain ⟨t,s1,kt,s2,kvs,qk,e1,hd,e3,e4,e5,hl,rfl,rfl⟩:=Rf e
  obtain ⟨kvs0,f0,e0⟩:=Nm hd
  refine ⟨st,ps,S,as,R,t,s1,e1,fun v H1 S1 as1 R1=>?_⟩
  obtain ⟨p0,vs0,s0,rd0,_⟩:=R1.dictAt e0
  refine ⟨_,s0,s1,_,S1,as1,R1,kt,s2,e3,fun y H3 S3 as3 R3=>?_⟩
  obtain ⟨w,h1,_,h3⟩:=R3.slots i _ true e4
  rw [s0] at h1; cases h1
  obtain ⟨p',ep,ow⟩:=h3 rfl
  cases ep
  obtain ⟨vs,hH,h4⟩:=ow.own
  have ey:=Wb R3.top e5
  subst ey
  exact ⟨p0,_,rfl,a5b.k hH (by rw [h4.length]; exact Nat.lt_of_lt_of_le hl vh),q _ _ S3 as3 (R3.drop.drop.turn e4 s0 ⟨_,kj,h4.put R3.top2⟩)⟩
end
end C
end
noncomputable section
set_option linter.all false
set_option maxRecDepth 100000
set_option maxHeartbeats 4000002
set_option autoImplicit false
namespace C
open PySem PySem.Spec PyProof.Rows L2
theorem iy {ms:M (List T)} {n:Nat} (h:∀ st ts st',ms st=some (ts,st')→ts.length≤n) (hn:n≤1000):∀ st ts st',ms st=some (ts,st')→ts.length≤1000:=fun st ts st' e=>Nat.le_trans (h st ts st' e) hn
theorem yu {m:M T}:∀ st ts st',jw m st=some (ts,st')→ts.length≤sizeLine:=fun st ts st' e=>by
  unfold jw at e
  split at e
  · split at e
    · rename_i h; cases e; exact Nat.le_trans (Nat.le_of_lt h) vh
    · cases e
  · split at e
    · rename_i h; cases e; exact Nat.le_trans (Nat.le_of_lt h) vh
    · cases e
  · cases e
theorem Ik {m:M T}:∀ st ts st',gj m st=some (ts,st')→ts.length≤sizeLine:=fun st ts st' e=>by
  obtain ⟨n,_,h,rfl⟩:=Lr e
  unfold rangeT
  rw [List.length_map,List.length_range]
  refine Nat.le_trans ?_ vh
  show n.toNat≤1000000
  omega
noncomputable def jg (P:Program) (w:World) (K:PySem.W.Frag) (mg:Str→Option Value) (base:Heap) (x:Str) (k:Nat) (ps:List Str) (F:Fn):Prop :=
  ∃ f fd,Ce P w K mg base CX0 k f fd ps (spF K ps.length F)∧Binds K fd ps []∧PySem.W.keepIn K (.ref f)=true∧mg x=some (.ref f)
theorem jg.mono {P:Program} {w:World} {K:PySem.W.Frag} {mg:Str→Option Value} {base:Heap} {x:Str} {j k:Nat} {ps:List Str} {F:Fn} (d:jg P w K mg base x j ps F) (h:j≤k):jg P w K mg base x k ps F:=by
  obtain ⟨f,fd,h1,h2⟩:=d
  exact ⟨f,fd,h1.mono h,h2⟩
noncomputable section
variable {X:Cx} {B:Bas} {a b c e o k:Expr} {m m1 m2:M T} {pos p:Pos} {es:List Expr} {ms:M (List T)} {F:Fn} {x:Str} {n:Nat} {pn:List Str}
theorem iu (D:jg X.prog X.w X.K X.mg X.base x n pn F) (hr:Ke n X.A) (hg:Gl X x)
    (ha:PA X (e::es) (aOf X.K B ms)) (hl:∀ st ts st',ms st=some (ts,st')→ts.length=pn.length) (hdb:(x==("__debug__" : Str))=false:=by decide)
    (he:starEach (e::es) X.env=(false,eval e X.env)::starEach es X.env:=by rfl) (hpl:(backTo pos (starEach es X.env)).any (·.1)=false:=by rfl) :
    PE X (.Call (.Name x p) (e::es) [] pos) (tOf X.K B (fu F ms)):=by
  obtain ⟨f,fd,h1,h2,h3,h4⟩:=D
  exact a5a h1 hr hg h4 h3 h2 ha hl hdb he hpl
theorem Hw (h:PA X es (aOf X.K B ms)) (hm:∀ st ts st',ms st=some (ts,st')→ts.length≤1000):PE X (.List es pos) (fOf X.K B (gk (fun l=>some (.lst l)) ms)) :=
  (a2b h).imp fun σ H Q z9=>by
    obtain ⟨st,ps,S,as,R,t,st',e,q⟩:=z9
    obtain ⟨ts,e1,e2⟩:=Du e
    cases e2
    refine ⟨st,ps,S,as,R,ts,st',e1,fun vs H1 S1 as1 R1 rs=>⟨?_,fun p hp=>?_⟩⟩
    · rw [rs.length]; exact Nat.le_of_lt (Ju (hm _ _ _ e1))
    · obtain ⟨bD,sD,nD,no⟩:=R1.fresh hp
      exact q p _ S1 as1 (R1.a2d bD sD nD no) ⟨⟨vs,kj,rs⟩,sD,nD,bD⟩ no
theorem a2m:PE X (.Dict [] [] pos) (fOf X.K B (aq (.dic []))):=Zq.imp fun σ H Q z9=>by
  obtain ⟨st,ps,S,as,R,t,st',e,q⟩:=z9
  cases e
  intro p hp
  obtain ⟨bD,sD,nD,no⟩:=R.fresh hp
  exact q p _ S as (R.a2d bD sD nD no) ⟨⟨[],kj,.nil⟩,sD,nD,bD⟩ no
theorem Rel.listAt {K:PySem.W.Frag} {B:Bas} {st:Sta} {σ:L2.St} {H S:Hp} {ps:List (V × T)} {as:List Addr} (r:Rel K B st σ H ps S as) {i:Nat} {xs:List T} {f:Bool} (e:st.env[i]? = some (some (.lst xs,f))):∃ p vs,σ[i]? = some (some (.ref p))∧SqL K H p vs∧yt K S as vs xs:=by
  obtain ⟨v,h1,h2,h3⟩:=r.slots i _ f e
  cases f with
  | false =>
    have h:=h2 rfl
    cases h with
    | lst a b=>exact ⟨_,_,h1,rm r.sub a,b⟩
  | true =>
    obtain ⟨p,rfl,o⟩:=h3 rfl
    obtain ⟨vs,h,q⟩:=o.own
    exact ⟨p,vs,h1,SqL.of h,q⟩
theorem tu (i:Nat) {st:Stmt} (h:PS X st (a3y (tBM X.K "list" Xo (a0w i) (Qi (tOf X.K B m) a5d)))):PS X st (sOf X.K B (cj i m)):=h.imp fun D σ H z9=>by
  obtain ⟨st,ps,S,as,R,fl,st',e,q⟩:=z9
  obtain ⟨hd,t,s1,xs,e1,e2,hl,rfl,rfl⟩:=Qw e
  obtain ⟨xs0,f0,e0⟩:=Ou hd
  obtain ⟨p0,vs0,s0,q0,_⟩:=R.listAt e0
  refine ⟨_,s0,.inl ⟨rfl,_,q0⟩,st,ps,S,as,R,t,s1,e1,fun v H1 S1 as1 R1=>?_⟩
  obtain ⟨w,h1,_,h3⟩:=R1.slots i _ true e2
  rw [s0] at h1; cases h1
  obtain ⟨p',ep,ow⟩:=h3 rfl
  cases ep
  obtain ⟨vs,hH,h4⟩:=ow.own
  exact ⟨p0,vs,v,rfl,rfl,hH,by rw [h4.length]; exact Nat.lt_of_lt_of_le hl vh,q _ _ S1 as1 (R1.drop.turn e2 s0 ⟨_,kj,h4.append (.cons R1.top .nil)⟩)⟩
end
end C
end
noncomputable section
set_option linter.all false
set_option maxRecDepth 100000
set_option maxHeartbeats 4000002
set_option autoImplicit false
namespace C
open PySem PySem.Spec PyProof.Rows L2
noncomputable section
variable {X:Cx} {B:Bas} {a b c e o k:Expr} {m m1 m2:M T} {pos p:Pos}
theorem Ks {K:PySem.W.Frag} {S:Hp} {as:List Addr}:∀ {vs:List V} {ts:List T} {l:List Bool},yt K S as vs ts→Jr ts=some l→vs=l.map V.bl
  | _,_,l,.nil,h=>by cases h; rfl
  | _,_,l,.cons (t:=t) h1 h2,h=>by
    cases h1 <;> simp only [Jr,reduceCtorEq] at h
    obtain ⟨l',e1,e2⟩:=Option.map_eq_some_iff.mp h
    subst e2
    rw [Ks h2 e1]; rfl
theorem Ob {K:PySem.W.Frag} {S:Hp} {as:List Addr}:∀ {vs:List V} {ts:List T} {l:List Str},yt K S as vs ts→Ih ts=some l→vs=l.map V.str
  | _,_,l,.nil,h=>by cases h; rfl
  | _,_,l,.cons (t:=t) h1 h2,h=>by
    cases h1 <;> simp only [Ih,reduceCtorEq] at h
    obtain ⟨l',e1,e2⟩:=Option.map_eq_some_iff.mp h
    subst e2
    rw [Ob h2 e1]; rfl
theorem Y9 {l:List Bool} {us:List Value} (r:Vals (l.map V.bl) us) {i:Nat} {v:Value} (h:us.toArray[i]? = some v):v=.bool (l.getD i true):=by
  rw [List.getElem?_toArray] at h
  have hi:i<(l.map V.bl).length:=by rw [r.length]; exact (List.getElem?_eq_some_iff.mp h).1
  rw [List.length_map] at hi
  have e:(l.map V.bl)[i]? = some (.bl l[i]):=by rw [List.getElem?_map,List.getElem?_eq_getElem hi]; rfl
  obtain ⟨u,h1,h2⟩:=r.get e
  rw [h] at h1; cases h1
  rw [h2,List.getD_eq_getElem?_getD,List.getElem?_eq_getElem hi]; rfl
theorem Inv.jc {pins:List (Addr × Obj)} {σ:L2.St} {H:Hp} {s:Shared} {a:Addr} {xs:List V} (I:L2.Inv X pins σ H s) (h:SqL X.K H a xs):a<s.heap.objs.size:=by
  obtain ⟨its,_,⟨o,n,h1,_⟩,_⟩:=I.list h
  exact Heap.lt_size h1
theorem all_range (l:List Bool) (d:Bool):((List.range l.length).all fun i=>l.getD i d)=l.all id:=by
  induction l with
  | nil=>rfl
  | cons x r ih =>
    rw [List.length_cons,List.range_succ_eq_map,List.all_cons,List.all_map,List.all_cons,← ih]
    rfl
theorem Gg (hc:X.calm=true):S8 X (.builtin "all") Tw:=by
  intro pins s σ H xs us Q I rs z8
  obtain ⟨S,as,ts,w,sub,hr,hf,q⟩:=z8
  cases hr with
  | nil=>simp only [Tw,reduceCtorEq] at hf
  | @cons x t xs' ts' h1 h2 =>
    cases h2 with
    | cons h3 h4=>simp only [Tw,reduceCtorEq] at hf
    | nil =>
      cases h1 with
      | @lst a vs ts g1 g2 =>
        simp only [Tw] at hf
        obtain ⟨l,e1,e2⟩:=Option.map_eq_some_iff.mp hf
        subst e2
        have ev:=Ks g2 e1
        subst ev
        obtain ⟨u,rfl,ru⟩:=rs.one
        cases ru
        obtain ⟨its,r,p,hz⟩:=I.list (rm sub g1)
        have hlt:=Inv.jc I (rm sub g1)
        refine call_all_walk (wpAny_pyIter_list p.isList ?_)
        refine ⟨_,_,_,_,_,_,fun i=>l.getD i true,rfl,Walks.list (A:=X.A.in1) (show X.A.in1.handled=none from I.ok.hd hc) s.heap.objs.size a (Nat.ne_of_lt hlt) its.toArray,And.intro ⟨_,Heap.get?_push_size _ rfl,rfl,rfl⟩ (PlainL.keeps p fun b o e=>Heap.get?_push_of_some _ e).isList,fun i v s Q E hv hq=>?_,fun h' tk hk=>?_⟩
        · have e:=Y9 r hv
          subst e
          exact wpAny_truthy_bool hq
        · have hl:its.toArray.size=l.length:=by rw [List.size_toArray,← r.length,List.length_map]
          rw [hl,all_range]
          exact ⟨.bl (l.all id),H,I.kept (h':=h') (t':=tk) fun b u e=>hk b u (by simp; exact Nat.ne_of_lt (Heap.lt_size e)) (Heap.get?_push_of_some _ e),rfl,q _ H S (Ext.refl sub) (.bl _)⟩
      | _=>simp only [Tw,reduceCtorEq] at hf
theorem Ky:∀ {l:List Str} {us:List Value},Vals (l.map V.str) us→StrsAre us l
  | [],_,r=>by cases r; exact .nil
  | x::l,_,r=>by
    rw [List.map_cons] at r
    cases r with
    | cons r1 r2=>obtain ⟨t,rfl⟩:=r1; exact .cons x t (Ky r2)
theorem Iw:∀ {l:List Str} {us:List Value},StrsAre us l→Vals (l.map V.str) us
  | _,_,.nil=>.nil
  | _,_,.cons x t h=>.cons ⟨t,rfl⟩ (Iw h)
noncomputable abbrev Fw (a b:Str):Prop:=¬ b.cps.toList<a.cps.toList
theorem K6 {a b c:Str} (h1:Fw a b) (h2:Fw b c):Fw a c:=fun h=>by
  have h3:a.cps.toList≤b.cps.toList:=List.not_lt.mp h1
  have h4:b.cps.toList≤c.cps.toList:=List.not_lt.mp h2
  exact List.not_lt.mpr (List.le_trans h3 h4) h
theorem Vh {a b:Str} (h1:Fw a b) (h2:Fw b a):a=b:=by
  have h3:a.cps.toList≤b.cps.toList:=List.not_lt.mp h1
  have h4:b.cps.toList≤a.cps.toList:=List.not_lt.mp h2
  have h5:=List.le_antisymm h3 h4
  cases a; cases b
  simp at h5; subst h5; rfl
theorem J9:∀ (p:Str) (l:List Str),risingS p l=true→(p::l).Pairwise Fw
  | p,[],_=>by simp
  | p,x::r,h=>by
    rw [risingS,Bool.and_eq_true] at h
    have ih:=J9 x r h.2
    have hx:Fw p x:=fun z=>by
      have:=h.1
      rw [ltCps_eq,decide_eq_true z] at this
      cases this
    refine List.pairwise_cons.mpr ⟨fun y hy=>?_,ih⟩
    rcases List.mem_cons.mp hy with rfl | hy -- here
    · exact hx
    · exact K6 hx (List.rel_of_pairwise_cons ih hy)
theorem Qc (l:List Str) (h:sortedS l=true):l.Pairwise Fw:=by
  cases l with
  | nil=>exact .nil
  | cons x r=>exact J9 x r h
theorem Jf (x:Str):∀ l,(Vy x l).Perm (x::l)
  | []=>.refl _
  | y::r=>by
    rw [Vy]
    split
    · exact .refl _
    · exact ((Jf x r).cons y).trans (.swap x y r)
theorem Og (x:Str):∀ l:List Str,l.Pairwise Fw→(Vy x l).Pairwise Fw
  | [],_=>by simp [Vy]
  | y::r,h=>by
    rw [Vy]
    split
    · rename_i hx
      have hx:=of_decide_eq_true hx
      have hxy:Fw x y:=fun z=>List.lt_irrefl _ (List.lt_trans hx z)
      refine List.pairwise_cons.mpr ⟨fun z hz=>?_,h⟩
      rcases List.mem_cons.mp hz with rfl | hz -- here
      · exact hxy
      · exact K6 hxy (List.rel_of_pairwise_cons h hz)
    · rename_i hx
      have hx:Fw y x:=fun z=>hx (decide_eq_true z)
      refine List.pairwise_cons.mpr ⟨fun z hz=>?_,Og x r (List.pairwise_cons.mp h).2⟩
      rcases List.mem_cons.mp ((Jf x r).mem_iff.mp hz) with rfl | hz
      · exact hx
      · exact List.rel_of_pairwise_cons h hz
theorem Hj:∀ (l acc:List Str),acc.Pairwise Fw→(l.foldl (fun acc x=>Vy x acc) acc).Pairwise Fw∧(l.foldl (fun acc x=>Vy x acc) acc).Perm (l++acc)
  | [],acc,h=>⟨h,.refl _⟩
  | x::l,acc,h=>by
    obtain ⟨h1,h2⟩:=Hj l (Vy x acc) (Og x acc h)
    exact ⟨h1,h2.trans (((Jf x acc).append_left l).trans (List.perm_middle))⟩
theorem Vm (l:List Str):(Dd l).Pairwise Fw:=(Hj l [] .nil).1
theorem Gx (l:List Str):(Dd l).Perm l:=by
  have:=(Hj l [] .nil).2
  rwa [List.append_nil] at this
theorem Tj {l l':List Str} (h1:sortedS l'=true) (h2:l'.Perm l):l'=Dd l :=
  List.Perm.eq_of_pairwise (le:=Fw) (fun _ _ _ _=>Vh) (Qc l' h1) (Vm l) (h2.trans (Gx l).symm)
theorem Jc {K:PySem.W.Frag} {S:Hp} {as:List Addr}:∀ l:List Str,yt K S as (l.map V.str) (l.map T.str)
  | []=>.nil
  | x::l=>.cons (.str x) (Jc l)
theorem Ut {pins:List (Addr × Obj)} {σ:L2.St} {H S:Hp} {s:Shared} {as:List Addr} {a:Addr} {l:List Str} {Q:VK} (I:L2.Inv X pins σ H s) (sub:Same S H) (g1:SqL X.K H a (l.map V.str)) (h64:l.length<64)
    (q:∀ v H' S',Ext S H S' H'→Rep X.K S' as v (.lst ((Dd l).map .str))→Q v H'):wpAny (model X.prog X.w) X.A (call (.builtin "sorted") [.ref a]) (EP X pins σ Q) X.xe s:=by
  obtain ⟨its,r,p,hz⟩:=I.list g1
  refine sorted_strs p.isList (Ky r) (by rw [← r.length,List.length_map]; exact h64) fun out ss' a1 a2 a3=>?_
  have es:=Tj a3 a2
  subst es
  obtain ⟨e,he⟩:=sortedAll_at s.heap its out
  have hl:(List.map V.str (Dd l)).length≤sizeLine:=by
    rw [List.length_map,(Gx l).length_eq]
    exact Nat.le_trans (Nat.le_of_lt h64) (by rw [sizeLine_eq]; decide)
  have hn:H (s.heap.objs.size+1)=none:=I.hok.fresh (Nat.le_succ _)
  have x:=Ext.laid sub hn (.lst ((Dd l).map V.str))
  refine ⟨.ref (s.heap.objs.size+1),_,I.laid (a:=s.heap.objs.size+1) (o:=.lst ((Dd l).map V.str)) (h':=sortedAll s.heap its out) (t':=s.toks) (fun _ _=>sortedAll_old) (Nat.le_succ _) ⟨hl,out.toList,e,Iw a1,he⟩,rfl,q _ _ _ x (.lst (SqL.of kj) (Jc _))⟩
theorem Mf:Em X (.builtin "sorted") (fun xs H Q=>∃ S as ts l,Same S H∧yt X.K S as xs [.lst ts]∧ts.length<64∧Ih ts=some l∧∀ v H' S',Ext S H S' H'→Rep X.K S' as v (.lst ((Dd l).map .str))→Q v H'):=by
  intro pins s σ H xs us Q I rs z8
  obtain ⟨S,as,ts,l,sub,hr,h64,e1,q⟩:=z8
  cases hr with
  | cons h1 h2 =>
    cases h2
    cases h1 with
    | @lst a vs _ g1 g2 =>
      have ev:=Ob g2 e1
      subst ev
      obtain ⟨u,rfl,ru⟩:=rs.one
      cases ru
      have hl:=g2.length
      rw [List.length_map] at hl
      exact Ut I sub (rm sub g1) (by omega) q
noncomputable def tyOf:T→Option Value
  | .non=>some (.type "NoneType")
  | .bl _=>some (.type "bool")
  | .int _=>some (.type "int")
  | .str _=>some (.type "str")
  | .tup _=>some (.type "tuple")
  | .lst _=>some (.type "list")
  | .dic _=>some (.type "dict")
  | .obj _=>none
theorem a6c {pins:List (Addr × Obj)} {σ:L2.St} {H S:Hp} {s:Shared} {as:List Addr} {x:V} {u c:Value} {t:T} {ty:Value} {b:Bool} {Q:Value→Shared→Prop} {E:Value→Shared→Prop} (I:L2.Inv X pins σ H s) (sub:Same S H) (rx:RelV x u) (r:Rep X.K S as x t) (hty:tyOf t=some ty)
    (e:PySem.W.kitOne X.K ty c=some b) (h:∀ tk,Q (.bool b) { s with toks:=tk }):wpAny (model X.prog X.w) X.A (call (.builtin "isinstance") [u,c]) Q E s:=by
  cases r with
  | non=>cases hty; exact Gi I rx .non e h
  | bl y=>cases hty; exact Gi I rx (.bl y) e h
  | int y=>cases hty; exact Gi I rx (.int y) e h
  | str y=>cases hty; exact Gi I rx (.str y) e h
  | @tup a vs ts g1 g2 =>
    cases hty
    cases (show u=Value.ref a from rx)
    obtain ⟨its,_,⟨o,h1,h2,_⟩,_⟩:=I.tuple (qd sub g1)
    exact PySem.W.kia_one PySem.W.kitx_tuple I.kIn ⟨o,h1,h2⟩ e (fun z=>nomatch z) h
  | @lst a vs ts g1 g2 =>
    cases hty
    cases (show u=Value.ref a from rx)
    obtain ⟨its,_,⟨o,n,h1,h2,_⟩,_⟩:=I.list (rm sub g1)
    exact PySem.W.kia_one PySem.W.kitx_list I.kIn ⟨o,h1,h2⟩ e (fun z=>nomatch z) h
  | @dic a kvs ts g1 g2 =>
    cases hty
    cases (show u=Value.ref a from rx)
    obtain ⟨_,_,vs,_,o,es,ep,h1,h2,_⟩:=Hl I.hok (Ci sub g1)
    exact PySem.W.kia_one PySem.W.kitx_dict I.kIn ⟨o,h1,h2.1⟩ e (fun z=>nomatch z) h
  | obj h=>cases hty
noncomputable def a5f (f:Value→Bool):List T→Option T
  | [t]=>(tyOf t).map fun ty=>.bl (f ty)
  | _=>none
theorem Td {cn:String} {f:Value→Bool} {pc:Pos} (hg:Gl X "isinstance") (hm:X.mg "isinstance" = none) (hg2:Gl X (Str.ofString cn)) (hm2:X.mg (Str.ofString cn)=none) (hv:bootBuiltins (Str.ofString cn)=some (.type cn))
    (hf:∀ t ty,tyOf t=some ty→PySem.W.kitOne X.K ty (.type cn)=some (f ty)) (ha:PE X a (tOf X.K B m)) (hd:((Str.ofString cn)==("__debug__" : Str))=false) (hn:(Str.ofString cn) ≠ "__name__")
    (he:starEach [a,.Name (Str.ofString cn) pc] X.env=(false,eval a X.env)::starEach [.Name (Str.ofString cn) pc] X.env:=by rfl) (he2:starEach [.Name (Str.ofString cn) pc] X.env=(false,eval (.Name (Str.ofString cn) pc) X.env)::starEach [] X.env:=by rfl)
    (hpl:(backTo pos (starEach [.Name (Str.ofString cn) pc] X.env)).any (·.1)=false:=by rfl) :
    PE X (.Call (.Name "isinstance" p) [a,.Name (Str.ofString cn) pc] [] pos) (tOf X.K B (gk (a5f f) (aj m dz))):=by
  have hc:Em X (.builtin "isinstance") (fun xs H Q=>∃ S as x t ty,xs=[x,.ty cn]∧Same S H∧Rep X.K S as x t∧tyOf t=some ty∧Q (.bl (f ty)) H):=by
    intro pins s σ H xs us Q I rs z8
    obtain ⟨S,as,x,t,ty,ex,sub,r,hty,q⟩:=z8
    subst ex
    obtain ⟨u,w,rfl,r1,r2⟩:=rs.two
    cases r2
    exact a6c I sub r1 r hty (hf t ty hty) fun tk=>⟨.bl (f ty),H,I.tok _,rfl,q⟩
  have hnm:PE X (.Name (Str.ofString cn) pc) (tC (.ty cn)):=a3m hg2 hm2 hv rfl hn hd
  refine (qg hc hg hm PyProof.Rows.boot_isinstance (qp ha (qp hnm vf he2) he) (by decide) (by decide) he hpl).imp fun σ H Q z0=>?_
  obtain ⟨st,ps,S,as,R,t,st',e,q⟩:=z0
  obtain ⟨ts,e1,e2⟩:=Du e
  obtain ⟨t1,s1,us,ea,en,rfl⟩:=Dq e1
  cases en
  simp only [a5f] at e2
  obtain ⟨ty,e3,e4⟩:=Option.map_eq_some_iff.mp e2
  subst e4
  exact ⟨st,ps,S,as,R,t1,_,ea,fun v H1 S1 as1 R1=>⟨S1,as1,v,t1,ty,rfl,R1.sub,R1.top,e3,q _ H1 S1 as1 (R1.drop.push (.bl _))⟩⟩
example (K:PySem.W.Frag):PySem.W.kitOne K (.type "bool") (.type "int")=some true:=by rfl
example (K:PySem.W.Frag):PySem.W.kitOne K (.type "str") (.type "int")=some false:=by rfl
end
end C
end
noncomputable section
set_option linter.all false
set_option maxRecDepth 100000
set_option maxHeartbeats 4000002
set_option autoImplicit false
namespace C
open PySem PySem.Spec PyProof.Rows L2
theorem Pa (l b:Addr) (xs0 ys0:Array Value) (n n2:Nat) (dd2:Option Addr) (sl2:Array (Option Value)) (hs0:¬(!xs0.isEmpty&&Builtin.List.listTooLong (xs0.size+ys0.size))=true) (hs1:xs0.size≤sizeLine) (hs2:xs0.size+ys0.size≤sizeLine+1) :
    Meets (Builtin.«list.extend» ⟨[.ref l,.ref b],[]⟩) (fun _ R s=>s.heap.get? l=some { cls:=.type "list",dict:=none,data:=.seq xs0 n,slots:=#[] }∧s.heap.get? b=some { cls:=.type "list",dict:=dd2,data:=.seq ys0 n2,slots:=sl2 }∧R (.ok (.ret Value.none)) { s with heap:=s.heap.update l (Obj.mapSeq fun x=>x++ys0),toks:=s.toks }) :=
  .of_wp fun pr wd Ar R z h=>by
    obtain ⟨hp,gs,dr,tk,os⟩:=z; obtain ⟨hl,hb,h⟩:=h; have f1:=AutoSeq1.idx_int; have f2:=AutoSeq1.sub_tuple_tuple; have f3:=AutoSeq1.sub_list_list; have f4:=AutoSeq1.sub_tuple_list; have f5:=AutoSeq1.sub_list_tuple
    have hz':(xs0++ys0).size≤sizeLine+1:=by rw [Array.size_append]; exact hs2
    wp_walk using (wpAny_updateSeq hl rfl (hz:=hs1) (_hz':=hz')),AutoSeq1.wpAny_loadPart' hl,AutoSeq1.wpAny_loadPart' hb; exact ⟨_,rfl,h⟩
theorem Mz (l b:Addr) (xs0 ys0:Array Value) (n n2:Nat) (dd2:Option Addr) (sl2:Array (Option Value)) (hs0:¬(!xs0.isEmpty&&Builtin.List.listTooLong (xs0.size+ys0.size))=true) (hs1:xs0.size≤sizeLine) (hs2:xs0.size+ys0.size≤sizeLine+1) :
    Meets (Builtin.«list.extend» ⟨[.ref l,.ref b],[]⟩) (fun _ R s=>s.heap.get? l=some { cls:=.type "list",dict:=none,data:=.seq xs0 n,slots:=#[] }∧s.heap.get? b=some { cls:=.type "tuple",dict:=dd2,data:=.seq ys0 n2,slots:=sl2 }∧R (.ok (.ret Value.none)) { s with heap:=s.heap.update l (Obj.mapSeq fun x=>x++ys0),toks:=s.toks }) :=
  .of_wp fun pr wd Ar R z h=>by
    obtain ⟨hp,gs,dr,tk,os⟩:=z; obtain ⟨hl,hb,h⟩:=h; have f1:=AutoSeq1.idx_int; have f2:=AutoSeq1.sub_tuple_tuple; have f3:=AutoSeq1.sub_list_list; have f4:=AutoSeq1.sub_tuple_list; have f5:=AutoSeq1.sub_list_tuple
    have hz':(xs0++ys0).size≤sizeLine+1:=by rw [Array.size_append]; exact hs2
    wp_walk using (wpAny_updateSeq hl rfl (hz:=hs1) (_hz':=hz')),AutoSeq1.wpAny_loadPart' hl,AutoSeq1.wpAny_loadPart' hb; exact ⟨_,rfl,h⟩
noncomputable section
variable {X:Cx} {B:Bas} {m:M T}
noncomputable def Tc (K:PySem.W.Frag):V→List V→Hp→VK→Prop:=fun x vs H Q=>∃ l b xs zs,x=.ref l∧vs=[.ref b]∧H l=some (.lst xs)∧(SqL K H b zs∨SqT K H b zs)∧xs.length+zs.length≤sizeLine∧Q .non (upd H l (.lst (xs++zs)))
theorem Hh:MtM X "list.extend" (Tc X.K):=by
  intro pins s σ H x vs v us Q I rx rv h
  obtain ⟨l,b,xs,zs,rfl,rfl,hH,hB,hz,q⟩:=h
  cases rx
  obtain ⟨u,rfl,ru⟩:=rv.one
  cases ru
  obtain ⟨z,its,n,r,hl,e⟩:=I.a83 hH
  have fin:∀ its2:List Value,Vals zs its2→L2.Inv X pins σ (upd H l (.lst (xs++zs))) { s with heap:=s.heap.update l (Obj.mapSeq fun x=>x++its2.toArray),toks:=s.toks }:=fun its2 r2 =>
    I.a8i (its':=its++its2) hH e (by simp) (r.append r2) (by rw [List.length_append]; exact hz)
  have hlong:∀ its2:List Value,Vals zs its2→¬ (!its.toArray.isEmpty&&Builtin.List.listTooLong (its.toArray.size+its2.toArray.size))=true:=fun its2 r2=>by
    have hsz:its.toArray.size+its2.toArray.size≤sizeLine:=by rw [List.size_toArray,List.size_toArray,← hl,← r2.length]; exact hz
    rw [a0q hsz,Bool.and_false]
    exact Bool.false_ne_true
  rcases hB with hB | hB
  · obtain ⟨its2,r2,⟨⟨cls2,dd2,data2,sl2⟩,n2,ho2,hc2,hd02,hd2⟩,_⟩:=I.list hB
    simp only at hc2 hd2
    subst hc2 hd2
    refine call_meets F.slot_list_extend ⟨_,e,rfl⟩ F.entry_list_extend (F.args_list_extend_2 _ _)
      (Pa l b its.toArray its2.toArray n n2 dd2 sl2 (hlong its2 r2) (by rw [List.size_toArray,← hl]; omega) (by rw [List.size_toArray,List.size_toArray,← hl,← r2.length]; omega)) ⟨e,ho2,?_⟩
    exact ⟨.non,_,fin its2 r2,rfl,q⟩
  · obtain ⟨its2,r2,⟨⟨cls2,dd2,data2,sl2⟩,ho2,hc2,n2,hd2⟩,_⟩:=I.tuple hB
    simp only at hc2 hd2
    subst hc2 hd2
    refine call_meets F.slot_list_extend ⟨_,e,rfl⟩ F.entry_list_extend (F.args_list_extend_2 _ _)
      (Mz l b its.toArray its2.toArray n n2 dd2 sl2 (hlong its2 r2) (by rw [List.size_toArray,← hl]; omega) (by rw [List.size_toArray,List.size_toArray,← hl,← r2.length]; omega)) ⟨e,ho2,?_⟩
    exact ⟨.non,_,fin its2 r2,rfl,q⟩
theorem Jq (i:Nat) {st:Stmt} (h:PS X st (a3y (tBM X.K "list" (Tc X.K) (a0w i) (Qi (tOf X.K B m) a5d)))):PS X st (sOf X.K B (dj i m)):=h.imp fun D σ H z9=>by
  obtain ⟨st,ps,S,as,R,fl,st',e,q⟩:=z9
  obtain ⟨hd,t,s1,xs,ys,e1,ey,e2,hl,rfl,rfl⟩:=Rc e
  obtain ⟨xs0,f0,e0⟩:=Ou hd
  obtain ⟨p0,vs0,s0,q0,_⟩:=R.listAt e0
  refine ⟨_,s0,.inl ⟨rfl,_,q0⟩,st,ps,S,as,R,t,s1,e1,fun v H1 S1 as1 R1=>?_⟩
  obtain ⟨w,h1,_,h3⟩:=R1.slots i _ true e2
  rw [s0] at h1; cases h1
  obtain ⟨p',ep,ow⟩:=h3 rfl
  cases ep
  obtain ⟨vs,hH,h4⟩:=ow.own
  have top:=R1.top
  cases top with
  | @tup b zs _ g1 g2 =>
    simp only [j8] at ey; cases ey
    exact ⟨p0,b,vs,zs,rfl,rfl,hH,.inr (qd R1.sub g1),by rw [h4.length,g2.length]; exact Nat.le_trans (Nat.le_of_lt hl) vh,q _ _ S1 as1 (R1.drop.turn e2 s0 ⟨_,kj,h4.append g2⟩)⟩
  | @lst b zs _ g1 g2 =>
    simp only [j8] at ey; cases ey
    exact ⟨p0,b,vs,zs,rfl,rfl,hH,.inl (rm R1.sub g1),by rw [h4.length,g2.length]; exact Nat.le_trans (Nat.le_of_lt hl) vh,q _ _ S1 as1 (R1.drop.turn e2 s0 ⟨_,kj,h4.append g2⟩)⟩
  | _=>simp only [j8,reduceCtorEq] at ey
end
end C
end
noncomputable section
set_option linter.all false
set_option maxRecDepth 100000
set_option maxHeartbeats 4000002
set_option autoImplicit false
namespace C
open PySem PySem.Spec PyProof.Rows L2
noncomputable def PN (X:Cx) (e:Expr) (N:L2.St→V→Prop):Prop:=PE X e (fun σ H Q=>∃ v,N σ v∧Q v H)
noncomputable def MN (K:PySem.W.Frag) (m:M T) (N:L2.St→V→Prop):Prop:=∀ (B:Bas) (st:Sta) (σ:L2.St) (H:Hp) (ps:List (V × T)) (S:Hp) (as:List Addr) (t:T) (st':Sta),Rel K B st σ H ps S as→m st=some (t,st')→st'=st∧∃ v,N σ v∧Rep K S as v t
structure PM (X:Cx) (e:Expr) (m:M T) (N:L2.St→V→Prop):Prop where
  p:PN X e N
  m:MN X.K m N
noncomputable section
variable {X:Cx} {B:Bas} {a b e e1 e2:Expr} {m m1 m2:M T} {N N1 N2:L2.St→V→Prop} {pos p:Pos}
end
end C
end
noncomputable section
set_option linter.all false
set_option autoImplicit false
namespace C
open PySem PySem.Spec PyProof.Rows L2
inductive a3b:List Expr→List Str→Prop where
  | nil:a3b [] []
  | cons {x:Str} {k:Nat} {q:Pos} {es:List Expr} {xs:List Str}:a3b es xs→a3b (.Constant (.str x) k q::es) (x::xs)
noncomputable section
variable {X:Cx} {B:Bas} {a b c e o k:Expr} {m m1 m2:M T} {pos p p2:Pos}
theorem a1b (l:List T):isTup l=a5f (fun ty=>ty == .type "tuple") l:=by
  match l with
  | []=>rfl
  | [t]=>cases t <;> rfl
  | x::y::r=>cases x <;> rfl
theorem a0x (l:List T):isInt l=a5f (fun ty=>ty == .type "int" || ty == .type "bool") l:=by
  match l with
  | []=>rfl
  | [t]=>cases t <;> rfl
  | x::y::r=>cases x <;> rfl
theorem a2j (l:List T):El l=a5f (fun ty=>ty == .type "bool") l:=by
  match l with
  | []=>rfl
  | [t]=>cases t <;> rfl
  | x::y::r=>cases x <;> rfl
theorem Zb (l:List T):isStr l=a5f (fun ty=>ty == .type "str") l:=by
  match l with
  | []=>rfl
  | [t]=>cases t <;> rfl
  | x::y::r=>cases x <;> rfl
theorem Y5:bootBuiltins "int" = some (.type "int"):=by decide +kernel
theorem Vn:bootBuiltins "bool" = some (.type "bool"):=by decide +kernel
theorem Yg:bootBuiltins "str" = some (.type "str"):=by decide +kernel
theorem Hs {pc:Pos} (hg:Gl X "isinstance") (hm:X.mg "isinstance" = none) (hg2:Gl X "tuple") (hm2:X.mg "tuple" = none) (ha:PE X a (tOf X.K B m)) (he:starEach [a,.Name "tuple" pc] X.env=(false,eval a X.env)::starEach [.Name "tuple" pc] X.env:=by rfl) :
    PE X (.Call (.Name "isinstance" p) [a,.Name "tuple" pc] [] pos) (tOf X.K B (gk isTup (aj m dz))):=by
  rw [show isTup=_ from funext a1b]
  exact Td (cn := "tuple") hg hm hg2 hm2 boot_tuple (fun t ty h=>by cases t <;> cases h <;> rfl) ha (by decide) (by decide) he
theorem Uu {pc:Pos} (hg:Gl X "isinstance") (hm:X.mg "isinstance" = none) (hg2:Gl X "int") (hm2:X.mg "int" = none) (ha:PE X a (tOf X.K B m)) (he:starEach [a,.Name "int" pc] X.env=(false,eval a X.env)::starEach [.Name "int" pc] X.env:=by rfl) :
    PE X (.Call (.Name "isinstance" p) [a,.Name "int" pc] [] pos) (tOf X.K B (gk isInt (aj m dz))):=by
  rw [show isInt=_ from funext a0x]
  exact Td (cn := "int") hg hm hg2 hm2 Y5 (fun t ty h=>by cases t <;> cases h <;> rfl) ha (by decide) (by decide) he
theorem Bs {pc:Pos} (hg:Gl X "isinstance") (hm:X.mg "isinstance" = none) (hg2:Gl X "bool") (hm2:X.mg "bool" = none) (ha:PE X a (tOf X.K B m)) (he:starEach [a,.Name "bool" pc] X.env=(false,eval a X.env)::starEach [.Name "bool" pc] X.env:=by rfl) :
    PE X (.Call (.Name "isinstance" p) [a,.Name "bool" pc] [] pos) (tOf X.K B (gk El (aj m dz))):=by
  rw [show El=_ from funext a2j]
  exact Td (cn := "bool") hg hm hg2 hm2 Vn (fun t ty h=>by cases t <;> cases h <;> rfl) ha (by decide) (by decide) he
theorem Bc (i:Nat) (hm:X.mg "len" = none) {es:Expr} (hg:Gl X "len") (h:PE X es (a0w i)) (he:starEach [es] X.env=(false,eval es X.env)::starEach [] X.env:=by rfl) (hpl:(backTo pos (starEach [] X.env)).any (·.1)=false:=by rfl) :
    PE X (.Call (.Name "len" p) [es] [] pos) (tOf X.K B (qm i)):=by
  have hc:Em X (.builtin "len") (fun xs H Q=>∃ q,xs=[.ref q]∧((∃ ys,SqL X.K H q ys∧Q (.int ys.length) H)∨(∃ kvs,Rd H q (.dK kvs)∧Q (.int kvs.length) H))):=by
    intro pins s σ H xs us Q I rs z8
    obtain ⟨q,ex,h⟩:=z8
    rcases h with ⟨ys,h1,h2⟩ | ⟨kvs,h1,h2⟩
    · exact Es pins s σ H xs us Q I rs ⟨q,ys,ex,.inl h1,h2⟩
    · subst ex
      obtain ⟨u,rfl,ru⟩:=rs.one
      cases ru
      exact a7h I h1 fun t s' I'=>⟨.int kvs.length,H,I',⟨t,rfl⟩,h2⟩
  refine (qg hc hg hm PySem.boot_len (qp h vf he) (by decide) (by decide) he hpl).imp fun σ H Q z0=>?_
  obtain ⟨st,ps,S,as,R,t,st',e,q⟩:=z0
  obtain ⟨rfl,h⟩:=Qp e
  rcases h with ⟨xs,f,e1,rfl⟩ | ⟨xs,f,e1,rfl⟩
  · obtain ⟨p0,vs,s0,h1,h2⟩:=R.listAt e1
    exact ⟨_,s0,p0,rfl,.inl ⟨vs,h1,by rw [h2.length]; exact q _ H S as (R.push (.int _))⟩⟩
  · obtain ⟨p0,vs,s0,h1,h2⟩:=R.dictAt e1
    exact ⟨_,s0,p0,rfl,.inr ⟨vs,h1,by rw [h2.length]; exact q _ H S as (R.push (.int _))⟩⟩
end
end C
end
noncomputable section
set_option linter.all false
set_option autoImplicit false
namespace C
open PySem
mutual
theorem Fe:∀ (t:T) {d:PyData},dat t=some d→d.canLay0=true
  | .non,_,h=>by simp only [dat] at h; cases h; simp only [PyData.canLay0]
  | .bl b,_,h=>by simp only [dat] at h; cases h; simp only [PyData.canLay0]
  | .int i,_,h=>by simp only [dat] at h; cases h; simp only [PyData.canLay0]
  | .str x,_,h=>by
    simp only [dat] at h
    split at h
    · rename_i hx; cases h; exact hx
    · cases h
  | .tup xs,_,h=>by
    simp only [dat] at h
    obtain ⟨l,e1,e2⟩:=Option.map_eq_some_iff.mp h
    subst e2
    simp only [PyData.canLay0]
    exact Lz xs e1
  | .lst xs,_,h=>by
    simp only [dat] at h
    obtain ⟨l,e1,e2⟩:=Option.map_eq_some_iff.mp h
    subst e2
    simp only [PyData.canLay0]
    exact Lz xs e1
  | .dic _,_,h=>by simp only [dat] at h; cases h
  | .obj _,_,h=>by simp only [dat] at h; cases h
theorem Lz:∀ (ts:List T) {l:List PyData},Kq ts=some l→PyData.canLayAll0 l=true
  | [],_,h=>by simp only [Kq] at h; cases h; simp only [PyData.canLayAll0]
  | x::r,_,h=>by
    simp only [Kq] at h
    split at h
    · rename_i a ea
      obtain ⟨l,e1,e2⟩:=Option.map_eq_some_iff.mp h
      subst e2
      simp only [PyData.canLayAll0]
      rw [Fe x ea,Lz r e1]; rfl
    · cases h
end
theorem Yw {x:T} {r:List T} {l:List PyData} (h:Kq (x::r)=some l):∃ a l',dat x=some a∧Kq r=some l'∧l=a::l':=by
  simp only [Kq] at h
  split at h
  · rename_i a ea
    obtain ⟨l,e1,e2⟩:=Option.map_eq_some_iff.mp h
    exact ⟨a,l,ea,e1,e2.symm⟩
  · cases h
theorem Q6 {t u:T} {b:Bool} (h:eqD t u=some b):∃ x y,dat t=some x∧dat u=some y∧x.depth≤40∧b=PyData.eqv x y:=by
  unfold eqD at h
  split at h
  · rename_i x ex
    split at h
    · rename_i y ey
      split at h
      · rename_i hd; cases h; exact ⟨x,y,ex,ey,hd,rfl⟩
      · cases h
    · cases h
  · cases h
theorem a4f {t u:T} {b:Bool} (h:eqT t u=some b):(∃ x y,t=.dic x∧u=.dic y∧((x.length=y.length∧a5j x y=some b)∨(x.length≠y.length∧b=false)))∨eqD t u=some b:=by
  unfold eqT at h
  split at h
  · split at h
    · rename_i hl; exact .inl ⟨_,_,rfl,rfl,.inl ⟨hl,h⟩⟩
    · rename_i hl; cases h; exact .inl ⟨_,_,rfl,rfl,.inr ⟨hl,rfl⟩⟩
  · exact .inr h
end C
end
noncomputable section
set_option linter.all false
set_option maxRecDepth 100000
set_option maxHeartbeats 4000002
set_option autoImplicit false
namespace C
open PySem PySem.Spec PyProof.Rows L2
noncomputable section
variable {X:Cx} {pins:List (Addr × Obj)} {σ:L2.St} {H S:Hp} {s:Shared} {as:List Addr}
mutual
theorem Rep.reads (I:L2.Inv X pins σ H s) (sub:Same S H):∀ {v:V} {t:T},Rep X.K S as v t→∀ {d:PyData} {u:Value},dat t=some d→RelV v u→∃ bs,Reads s.heap u d bs
  | _,_,.non,_,_,e,r=>by simp only [dat] at e; cases e; cases r; exact ⟨_,.none⟩
  | _,_,.bl b,_,_,e,r=>by simp only [dat] at e; cases e; cases r; exact ⟨_,.bool b⟩
  | _,_,.int i,_,_,e,r=>by simp only [dat] at e; cases e; obtain ⟨t,rfl⟩:=r; exact ⟨_,.int i t⟩
  | _,_,.str x,_,_,e,r=>by
    simp only [dat] at e
    split at e
    · cases e; obtain ⟨t,rfl⟩:=r; exact ⟨_,.str x t⟩
    · cases e
  | _,_,.tup h q,_,_,e,r=>by
    simp only [dat] at e
    obtain ⟨l,e1,e2⟩:=Option.map_eq_some_iff.mp e
    subst e2
    cases r
    obtain ⟨its,rv,⟨o,h1,h2,n,h3⟩,_⟩:=I.tuple (qd sub h)
    obtain ⟨bs,rb⟩:=yt.reads I sub q e1 rv
    exact ⟨_,.tuple h1 h2 h3 rb⟩
  | _,_,.lst h q,_,_,e,r=>by
    simp only [dat] at e
    obtain ⟨l,e1,e2⟩:=Option.map_eq_some_iff.mp e
    subst e2
    cases r
    obtain ⟨its,rv,⟨o,n,h1,h2,_,h3⟩,_⟩:=I.list (rm sub h)
    obtain ⟨bs,rb⟩:=yt.reads I sub q e1 rv
    exact ⟨_,.list h1 h2 h3 rb⟩
  | _,_,.dic _ _,_,_,e,_=>by simp only [dat] at e; cases e
  | _,_,.obj _,_,_,e,_=>by simp only [dat] at e; cases e
theorem yt.reads (I:L2.Inv X pins σ H s) (sub:Same S H):∀ {vs:List V} {ts:List T},yt X.K S as vs ts→∀ {ds:List PyData} {us:List Value},Kq ts=some ds→Vals vs us→∃ bs,ReadsAll s.heap us ds bs
  | _,_,.nil,_,_,e,r=>by simp only [Kq] at e; cases e; cases r; exact ⟨_,.nil⟩
  | _,_,.cons h q,_,_,e,r=>by
    obtain ⟨a,l,e1,e2,e3⟩:=Yw e
    subst e3
    cases r with
    | cons r1 r2 =>
      obtain ⟨b1,x1⟩:=Rep.reads I sub h e1 r1
      obtain ⟨b2,x2⟩:=yt.reads I sub q e2 r2
      exact ⟨_,.cons x1 x2⟩
end
theorem a1s (I:L2.Inv X pins σ H s) (sub:Same S H) {x y:V} {t u:T} {v w:Value} {b:Bool} {A:Around} (hx:Rep X.K S as x t) (hy:Rep X.K S as y u) (rx:RelV x v) (ry:RelV y w) (e:eqD t u=some b) (hu:A.units+40<cLine):SeqAt.EqAt A s v w b:=by
  obtain ⟨dx,dy,e1,e2,hd,rfl⟩:=Q6 e
  obtain ⟨b1,x1⟩:=hx.reads I sub e1 rx
  obtain ⟨b2,x2⟩:=hy.reads I sub e2 ry
  exact SeqAt.eqAt_reads dx dy A s v w b1 b2 x1 x2 (Fe _ e1) (Fe _ e2) (by have:=Nat.min_le_left dx.depth dy.depth; omega)
theorem Yc (I:L2.Inv X pins σ H s) (sub:Same S H) {A:Around} (hu:A.units+40<cLine) {kb:List (L2.Key × V)} {ub:List (L2.Key × T)} {wb:List (L2.Key × Value)} (rb:Fq X.K S as kb ub) (vb:KV kb wb) :
    ∀ {ka:List (L2.Key × V)} {ua:List (L2.Key × T)} {wa:List (L2.Key × Value)} {r:Bool},Fq X.K S as ka ua→KV ka wa→a5j ua ub=some r→PySem.W.KeqHits A s wb wa r
  | _,_,_,_,.nil,va,e=>by
    simp only [a5j] at e; cases e
    cases va
    exact .nil
  | _,_,_,_,.cons (k:=k) h q,va,e=>by
    simp only [a5j] at e
    cases va with
    | @cons _ p2 _ _ hp hr =>
      obtain ⟨pk,pv⟩:=p2
      obtain ⟨ek,rv⟩:=hp
      dsimp only at ek rv
      subst ek
      rcases rb.get k with ⟨z,t',a1,a2,a3⟩ | ⟨a1,a2⟩
      · rw [a2] at e
        dsimp only at e
        have rel:=KV.val vb k
        rw [a1] at rel
        obtain ⟨w',hw,rw'⟩:=Pb.some_of rel
        split at e
        · rename_i eb he
          obtain ⟨b',e1,e2⟩:=Option.map_eq_some_iff.mp e
          subst e2
          exact .hit hw (a1s I sub h a3 rv rw' he hu) (Yc I sub hu rb vb q hr e1)
        · cases e
      · rw [a2] at e
        cases e
        have rel:=KV.val vb k
        rw [a1] at rel
        exact .miss (Pb.none_of rel)
end
noncomputable section
variable {X:Cx}
theorem Nq {op:CmpOp} {neg:Bool} (hop:(op=.Eq∧neg=false)∨(op=.NotEq∧neg=true)) {g:T→T→Option T} (hg:∀ t u w,g t u=some w→∃ b,eqT t u=some b∧w=.bl (xor neg b)) (hu:X.A.units+64<cLine):OpT X (compareOp op) g:=by
  intro pins s σ H x y v u Q I rx ry z8
  obtain ⟨S,as,t,t2,w,sub,ht,hu2,hf,q⟩:=z8
  obtain ⟨b,e,rfl⟩:=hg _ _ _ hf
  have fin:EP X pins σ Q (.bool (xor neg b)) s:=⟨.bl (xor neg b),H,I,rfl,q _ H S (Ext.refl sub) (.bl _)⟩
  rcases a4f e with ⟨xs,ys,rfl,rfl,hd⟩ | he
  · cases ht with
    | @dic a kvs _ g1 g2 =>
      cases hu2 with
      | @dic a' kvs' _ k1 k2 =>
        cases rx
        cases ry
        obtain ⟨z,hs,vs,rel,dd⟩:=Hl I.hok (Ci sub g1)
        obtain ⟨z',hs',vs',rel',dd'⟩:=Hl I.hok (Ci sub k1)
        have l1:vs.length=xs.length:=by rw [← rel.length]; exact g2.length
        have l2:vs'.length=ys.length:=by rw [← rel'.length]; exact k2.length
        have hu1:X.A.in1.units+40<cLine:=by show X.A.units+1+40<cLine; omega
        rcases hd with ⟨hl,eb⟩ | ⟨hl,rfl⟩
        · have hits:vs.length=vs'.length→PySem.W.KeqHits X.A.in1 s vs' vs b:=fun _=>Yc I sub hu1 k2 rel' g2 rel eb
          have el:(vs.length==vs'.length)=true:=by rw [l1,l2,hl]; exact beq_self_eq_true _
          rcases hop with ⟨rfl,rfl⟩ | ⟨rfl,rfl⟩
          · refine PySem.W.keq_eq hs hs' dd dd' (by omega) hits ?_
            rw [el]; simpa using fin
          · refine PySem.W.keq_ne hs hs' dd dd' (by omega) hits ?_
            rw [el]; simpa using fin
        · have hits:vs.length=vs'.length→PySem.W.KeqHits X.A.in1 s vs' vs true:=fun h=>absurd (by rw [← l1,← l2]; exact h) hl
          have el:(vs.length==vs'.length)=false:=by rw [l1,l2]; exact beq_eq_false_iff_ne.mpr hl
          rcases hop with ⟨rfl,rfl⟩ | ⟨rfl,rfl⟩
          · refine PySem.W.keq_eq hs hs' dd dd' (by omega) hits ?_
            rw [el]; simpa using fin
          · refine PySem.W.keq_ne hs hs' dd dd' (by omega) hits ?_
            rw [el]; simpa using fin
  · obtain ⟨dx,dy,e1,e2,hd,rfl⟩:=Q6 he
    obtain ⟨b1,x1⟩:=ht.reads I sub e1 rx
    obtain ⟨b2,x2⟩:=hu2.reads I sub e2 ry
    have hm:X.A.units+min dx.depth dy.depth<cLine:=by have:=Nat.min_le_left dx.depth dy.depth; omega
    rcases hop with ⟨rfl,rfl⟩ | ⟨rfl,rfl⟩
    · exact SeqAt.compareEq_reads x1 x2 (Fe _ e1) (Fe _ e2) hm (by simpa using fin)
    · exact SeqAt.compareNe_reads x1 x2 (Fe _ e1) (Fe _ e2) hm (by simpa using fin)
theorem Af (hu:X.A.units+64<cLine):OpT X (compareOp .Eq) eqO:=Nq (.inl ⟨rfl,rfl⟩) (fun t u w h=>by
  unfold eqO at h
  split at h
  · rename_i b e; cases h; exact ⟨b,e,by simp⟩
  · cases h) hu
theorem Df (hu:X.A.units+64<cLine):OpT X (compareOp .NotEq) neO:=Nq (.inr ⟨rfl,rfl⟩) (fun t u w h=>by
  unfold neO at h
  split at h
  · rename_i b e; cases h; exact ⟨b,e,by simp⟩
  · cases h) hu
open Classical in
noncomputable def a2e (h:Heap) (dx:PyData) (y:Value):Bool:=if e:∃ d bs,Reads h y d bs∧d.canLay0=true then PyData.eqv (Classical.choose e) dx else false
theorem a2h {h:Heap} {dx d:PyData} {y:Value} {bs:List Addr} (r:Reads h y d bs) (l:d.canLay0=true):a2e h dx y=PyData.eqv d dx:=by
  have e:∃ d bs,Reads h y d bs∧d.canLay0=true:=⟨d,bs,r,l⟩
  unfold a2e
  rw [dif_pos e]
  obtain ⟨bs',r',l'⟩:=Classical.choose_spec e
  rw [SeqAt.Reads.unique _ _ _ _ _ l' r' r]
theorem Wz {pins:List (Addr × Obj)} {σ:L2.St} {H S:Hp} {s:Shared} {as:List Addr} {A:Around} (I:L2.Inv X pins σ H s) (sub:Same S H) (hu:A.units+40<cLine) {x:V} {t:T} {v:Value} {dx:PyData} (hx:Rep X.K S as x t) (rx:RelV x v) (ex:dat t=some dx) :
    ∀ {vs:List V} {ts:List T} {us:List Value} {b:Bool},yt X.K S as vs ts→Vals vs us→inL t ts=some b→(∀ y∈us,SeqAt.EqAt A s y v (a2e s.heap dx y))∧us.any (a2e s.heap dx)=b
  | _,_,_,_,.nil,r,e=>by simp only [inL] at e; cases e; cases r; exact ⟨fun y h=>(nomatch h),rfl⟩
  | _,_,_,_,.cons h q,r,e=>by
    simp only [inL] at e
    cases r with
    | @cons _ u1 _ us1 r1 r2 =>
      split at e
      · rename_i eb he
        obtain ⟨b',e1,e2⟩:=Option.map_eq_some_iff.mp e
        subst e2
        obtain ⟨i1,i2⟩:=Wz I sub hu hx rx ex q r2 e1
        obtain ⟨dy,dx',f1,f2,hd,rfl⟩:=Q6 he
        rw [ex] at f2; cases f2
        obtain ⟨b1,x1⟩:=h.reads I sub f1 r1
        have hb:=a2h (dx:=dx) x1 (Fe _ f1)
        refine ⟨fun y hy=>?_,by rw [List.any_cons,i2,hb]⟩
        rcases List.mem_cons.mp hy with rfl | hy -- here
        · rw [hb]; exact a1s I sub h hx r1 rx he hu
        · exact i1 y hy
      · cases e
theorem Wy {t u w:T} (h:inT t u=some w):(∃ ys b,(u=.tup ys∨u=.lst ys)∧inL t ys=some b∧(dat t).isSome=true∧w=.bl b)∨(∃ kvs q,u=.dic kvs∧keyOf t=some q∧w=.bl (Pk q kvs).isSome):=by
  unfold inT at h
  split at h
  · obtain ⟨q,e1,e2⟩:=Option.map_eq_some_iff.mp h
    exact .inr ⟨_,q,rfl,e1,e2.symm⟩
  · split at h
    · rename_i hd
      split at h
      · obtain ⟨b,e1,e2⟩:=Option.map_eq_some_iff.mp h; exact .inl ⟨_,b,.inl rfl,e1,hd,e2.symm⟩
      · obtain ⟨b,e1,e2⟩:=Option.map_eq_some_iff.mp h; exact .inl ⟨_,b,.inr rfl,e1,hd,e2.symm⟩
      · cases h
    · cases h
theorem Wo {op:CmpOp} {neg:Bool} (hop:(op=.In∧neg=false)∨(op=.NotIn∧neg=true)) {g:T→T→Option T} (hg:∀ t u w,g t u=some w→∃ w',inT t u=some w'∧∃ b,w'=.bl b∧w=.bl (xor neg b)) (hu:X.A.units+64<cLine):OpT X (compareOp op) g:=by
  intro pins s σ H x y v u Q I rx ry z8
  obtain ⟨S,as,t,t2,w,sub,ht,hu2,hf,q⟩:=z8
  obtain ⟨w',ei,b0,rfl,rfl⟩:=hg _ _ _ hf
  rcases Wy ei with ⟨ys,b,hy,e,hdt,eb⟩ | ⟨kvs,qk,rfl,ek,eb⟩
  · cases eb
    obtain ⟨dx,ex⟩:=Option.isSome_iff_exists.mp hdt
    have fin:EP X pins σ Q (.bool (xor neg b0)) s:=⟨.bl (xor neg b0),H,I,rfl,q _ H S (Ext.refl sub) (.bl _)⟩
    have hu1:X.A.in1.units+40<cLine:=by show X.A.units+1+40<cLine; omega
    rcases hy with rfl | rfl
    · cases hu2 with
      | @tup a vs _ g1 g2 =>
        cases ry
        obtain ⟨its,r,p,hz⟩:=I.tuple (qd sub g1)
        obtain ⟨i1,i2⟩:=Wz I sub hu1 ht rx ex g2 r e
        have he:∀ y,y∈its.toArray→SeqAt.EqAt X.A.in1 s y v (a2e s.heap dx y):=fun y hy=>i1 y (by simpa using hy)
        have ha:its.toArray.any (a2e s.heap dx)=b0:=by rw [← i2]; simp
        rcases hop with ⟨rfl,rfl⟩ | ⟨rfl,rfl⟩
        · exact SeqAt.in_tupleAt _ (show s.heap.IsTuple a its.toArray from p) he (by rw [ha]; simpa using fin)
        · exact SeqAt.notIn_tupleAt _ (show s.heap.IsTuple a its.toArray from p) he (by rw [ha]; simpa using fin)
    · cases hu2 with
      | @lst a vs _ g1 g2 =>
        cases ry
        obtain ⟨its,r,p,hz⟩:=I.list (rm sub g1)
        obtain ⟨i1,i2⟩:=Wz I sub hu1 ht rx ex g2 r e
        have he:∀ y,y∈its.toArray→SeqAt.EqAt X.A.in1 s y v (a2e s.heap dx y):=fun y hy=>i1 y (by simpa using hy)
        have ha:its.toArray.any (a2e s.heap dx)=b0:=by rw [← i2]; simp
        rcases hop with ⟨rfl,rfl⟩ | ⟨rfl,rfl⟩
        · exact SeqAt.in_listAt _ p.isList he (by rw [ha]; simpa using fin)
        · exact SeqAt.notIn_listAt _ p.isList he (by rw [ha]; simpa using fin)
  · cases eb
    cases hu2 with
    | @dic a kv _ g1 g2 =>
      cases ry
      have ey:=Wb ht ek
      subst ey
      have hs:(Pk qk kvs).isSome=(O7 kv qk).isSome:=by
        rcases g2.get qk with ⟨z,t',a1,a2,_⟩ | ⟨a1,a2⟩
        · simp [a1,a2]
        · simp [a1,a2]
      rw [hs] at q
      have gd:Vx H a (kV qk) (O7 kv qk):=.inl ⟨kv,qk,Ci sub g1,rfl,rfl⟩
      rcases hop with ⟨rfl,rfl⟩ | ⟨rfl,rfl⟩
      · exact aa1 (by omega) I gd rx fun s' I'=>⟨.bl _,H,I',rfl,by simpa using q _ H S (Ext.refl sub) (.bl _)⟩
      · exact a4k (by omega) I gd rx fun s' I'=>⟨.bl _,H,I',rfl,by simpa using q _ H S (Ext.refl sub) (.bl _)⟩
theorem a5y (hu:X.A.units+64<cLine):OpT X (compareOp .In) inT:=Wo (.inl ⟨rfl,rfl⟩) (fun t u w h=>by
  rcases Wy h with ⟨ys,b,h1,h2,h3,rfl⟩ | ⟨kvs,q,rfl,h2,rfl⟩
  · exact ⟨_,h,b,rfl,by simp⟩
  · exact ⟨_,h,_,rfl,by simp⟩) hu
end
end C
end
noncomputable section
set_option linter.all false
set_option maxRecDepth 100000
set_option maxHeartbeats 4000002
set_option autoImplicit false
namespace C
open PySem PySem.Spec PyProof.Rows L2
noncomputable def a9u (K:PySem.W.Frag) (ar:Nat) (F:Fn):Sp:=fun vs H Q _=>∃ S as sto ts t sto',Same S H∧Hy K S as H sto∧yt K S as vs ts∧ts.length=ar∧F ts sto=some (t,sto') ∧
  ∀ p H' S' as',a7v ⟨S,as,H⟩ S' as' H'→Same S' H'→Hy K S' as' H' sto'→Vc K ⟨S,as,H⟩ S' as' H' p t→Q (.ref p) H'
theorem a4y {g:G} {m:M T} {s s':Sta} {fl:Flow} (h:sGo g m s=some (fl,s')):∃ t s1,m s=some (t,s1)∧g t s1=some s'∧fl=.next:=by
  unfold sGo at h
  split at h
  · rename_i t s1 e
    split at h
    · rename_i s2 e2; cases h; exact ⟨t,s1,e,e2,rfl⟩
    · cases h
  · cases h
noncomputable section
variable {X:Cx} {B:Bas} {a b c e:Expr} {m m1 m2:M T} {pos p:Pos} {u v:S} {es:List Expr} {ms:M (List T)} {k n:Nat} {f:Addr} {fd:FuncData} {pn:List Str} {F:Fn} {x:Str}
theorem a7e {g:G} {s:Stmt} (h:PS X s (a2w (tOf X.K B m) (gOf X.K B g))):PS X s (sOf X.K B (sGo g m)):=h.imp fun D σ H z9=>by
  obtain ⟨st,ps,S,as,R,fl,st',e,q⟩:=z9
  obtain ⟨t,s1,e1,e2,rfl⟩:=a4y e
  exact ⟨st,ps,S,as,R,t,s1,e1,fun v H' S' as' R'=>⟨s1,ps,S',as',t,R',st',e2,fun σ' H'' S'' as'' R''=>q σ' H'' S'' as'' R''⟩⟩
end
noncomputable def Xa (P:Program) (w:World) (K:PySem.W.Frag) (mg:Str→Option Value) (base:Heap) (x:Str) (k:Nat) (ps:List Str) (F:Fn):Prop :=
  ∃ f fd,Ce P w K mg base CX0 k f fd ps (a9u K ps.length F)∧Binds K fd ps []∧PySem.W.keepIn K (.ref f)=true∧mg x=some (.ref f)
theorem Xa.mono {P:Program} {w:World} {K:PySem.W.Frag} {mg:Str→Option Value} {base:Heap} {x:Str} {j k:Nat} {ps:List Str} {F:Fn} (d:Xa P w K mg base x j ps F) (h:j≤k):Xa P w K mg base x k ps F:=by
  obtain ⟨f,fd,h1,h2⟩:=d
  exact ⟨f,fd,h1.mono h,h2⟩
noncomputable section
variable {X:Cx} {B:Bas} {a b c e:Expr} {m m1 m2:M T} {pos p:Pos} {es:List Expr} {ms:M (List T)} {n:Nat} {pn:List Str} {F:Fn} {x:Str}
end
noncomputable section
variable {P:Program} {w:World} {K:PySem.W.Frag} {mg:Str→Option Value} {base:Heap}
end
end C
end
noncomputable section
set_option linter.all false
set_option maxRecDepth 100000
set_option maxHeartbeats 4000002
set_option autoImplicit false
namespace C
open PySem PySem.Spec PyProof.Rows L2
noncomputable section
variable {X:Cx} {B:Bas} {a b c e:Expr} {m m1 m2:M T} {pos p p2 pos2:Pos}
theorem W7:S8 X (.builtin "abs") mj:=by
  intro pins s σ H xs us Q I rs z8
  obtain ⟨S,as,ts,w,sub,hr,hf,q⟩:=z8
  cases hr with
  | nil=>simp only [mj,reduceCtorEq] at hf
  | @cons x t xs' ts' h1 h2 =>
    cases h2 with
    | cons h3 h4=>cases h1 <;> simp only [mj,reduceCtorEq] at hf
    | nil =>
      cases h1 <;> simp only [mj,reduceCtorEq] at hf
      cases hf
      exact Zr pins s σ H _ us Q I rs ⟨_,rfl,q _ H S (Ext.refl sub) (.int _)⟩
noncomputable def W2:List Nat→TGs
  | []=>a7u
  | i::is=>Vg (Hz i) (W2 is)
theorem Uo {K:PySem.W.Frag} {H S:Hp} {as:List Addr} {ps:List (V × T)}:∀ (is:List Nat) {vs:List V} {xs:List T} {st:Sta} {σ:L2.St} {Q:L2.St→Hp→Prop},Rel K B st σ H ps S as→yt K S as vs xs→xs.length=is.length →
    (∀ σ',Rel K B ((is.zip xs).foldl (fun s p=>cg p.1 p.2 false s) st) σ' H ps S as→Q σ' H)→W2 is vs σ H Q
  | [],_,_,_,_,_,R,.nil,_,q=>⟨rfl,q _ R⟩
  | i::is,_,_,_,_,_,R,.cons r rs,hl,q=>⟨_,_,rfl,Uo is (R.put (i:=i) r) rs (by simpa using hl) q⟩
  | [],_,_,_,_,_,_,.cons _ _,hl,_=>by simp at hl
  | _::_,_,_,_,_,_,_,.nil,hl,_=>by simp at hl
theorem Ef {is:List Nat} {tg:Expr} (h:PG X tg (a7w X.K is.length (W2 is))):PG X tg (gOf X.K B (lq is)):=fun pins s σ H x u Q I r z9=>h pins s σ H x u Q I r (by
  obtain ⟨st,ps,S,as,t,R,st',e,q⟩:=z9
  have top:=R.top
  cases t with
  | tup xs =>
    cases top with
    | @tup a vs _ g1 g2 =>
      simp only [lq] at e
      split at e
      · rename_i hl
        cases e
        exact ⟨a,vs,rfl,qd R.sub g1,by rw [g2.length]; exact hl,Uo is R.drop g2 hl fun σ' R'=>q σ' H S as R'⟩
      · cases e
  | _=>simp only [lq,reduceCtorEq] at e)
end
end C
namespace C
open PySem PySem.Spec PyProof.Rows L2
theorem a6k {K:PySem.W.Frag} {F:Fn} {H:Hp} {a:Addr} {ns:List Int} (hS:SqL K H a (ns.map V.int)) (hF:F [.lst (ns.map T.int)] []=some (.bl true,[])):spF K 1 F [.ref a] H (fun v _=>v=.bl true) fun _ _ _=>False:=by
  have reps:∀ (S:Hp) (l:List Int),yt K S [] (l.map V.int) (l.map T.int):=fun S l=>by
    induction l with
    | nil=>exact .nil
    | cons x l ih=>exact .cons (.int x) ih
  let S:Hp:=fun p=>if p=a then H p else none
  have sa:S a=H a:=if_pos rfl
  have sub:Same S H:=fun p u h=>by
    by_cases e:p=a
    · subst e; rw [← sa]; exact h
    · have:S p=none:=if_neg e
      rw [this] at h; cases h
  have sq:SqL K S a (ns.map V.int):=by
    rcases hS with h | h
    · refine .inl ?_
      unfold Rd at h ⊢
      rw [sa]; exact h
    · exact .inr h
  refine ⟨S,[],[],[.lst (ns.map T.int)],.bl true,[],sub,⟨rfl,.nil,fun n so e=>by simp at e⟩,.cons (.lst sq (reps S ns)) .nil,rfl,hF,fun v H' S' as' _ _ _ r=>?_⟩
  cases r
  rfl
end C
end
noncomputable section
set_option autoImplicit false
namespace C
open PySem
noncomputable def Al:Nat→M Bool→S→S
  | 0,_,_=>fun _=>none
  | n+1,c,b=>fun s=>match c s with
    | some (false,s1)=>some (.next,s1)
    | some (true,s1)=>match b s1 with
      | some (.next,s2)=>Al n c b s2
      | some (.cont,s2)=>Al n c b s2
      | some (.brk,s2)=>some (.next,s2)
      | some (.ret v,s2)=>some (.ret v,s2)
      | none=>none
    | none=>none
noncomputable def a1r (i j:Nat):S:=fun s=>match s.env[i]? with
  | some (some (.lst xs,true))=>match xs[xs.length - 1]? with
    | some t=>some (.next,cg j t false (cg i (.lst xs.dropLast) true s))
    | none=>none
  | _=>none
noncomputable def Jl:List T→Option T
  | [.int i]=>some (.int i)
  | [.bl k]=>some (.int (if k then 1 else 0))
  | _=>none
end C
end
noncomputable section
set_option autoImplicit false
namespace C
open PySem
noncomputable def a5h (xs ys:List T):List T:=(xs.zip ys).map fun p=>.tup [p.1,p.2]
noncomputable def a5r (a b:M T):M (List T):=fun s=>match a s with
  | some (t,s1)=>match b s1 with
    | some (u,s2)=>match j8 t,j8 u with
      | some xs,some ys=>if xs.length<lim∧ys.length<lim then some (a5h xs ys,s2) else none
      | _,_=>none
    | none=>none
  | none=>none
noncomputable def sIx (n d:Nat):Option Int→Nat
  | none=>d
  | some v=>if v<0 then (v+(n:Int)).toNat else min v.toNat n
noncomputable def Ym (xs:List T) (lo hi:Option Int):List T:=(xs.drop (sIx xs.length 0 lo)).take (sIx xs.length xs.length hi - sIx xs.length 0 lo)
noncomputable def Wk (lo hi:Option Int):T→Option T
  | .lst xs=>some (.lst (Ym xs lo hi))
  | .tup xs=>if sIx xs.length 0 lo=0∧sIx xs.length xs.length hi=xs.length then none else some (.tup (Ym xs lo hi))
  | _=>none
noncomputable def wg:M (Option Int):=fun s=>some (none,s)
noncomputable def ur (e:M T):M (Option Int):=fun s=>match e s with
  | some (.int i,s1)=>some (some i,s1)
  | _=>none
noncomputable def qb (m:M T) (lo hi:M (Option Int)):M T:=fun s=>match m s with
  | some (t,s1)=>match lo s1 with
    | some (l,s2)=>match hi s2 with
      | some (h,s3)=>match Wk l h t with
        | some u=>some (u,s3)
        | none=>none
      | none=>none
    | none=>none
  | none=>none
noncomputable def a6w:T→Option T
  | .lst xs=>some (.lst xs.reverse)
  | _=>none
noncomputable def a98 (b:Bool):T→Bool
  | .bl k=>k==b
  | _=>false
noncomputable def isC:T→T→Option T
  | x,.non=>some (.bl (Nk x))
  | x,.bl b=>some (.bl (a98 b x))
  | _,_=>none
noncomputable def Ge (x y:T):Option T:=match isC x y with
  | some (.bl b)=>some (.bl (!b))
  | _=>none
end C
end
noncomputable section
set_option linter.all false
set_option autoImplicit false
namespace C
open PySem
noncomputable def Pz (xs:List T):List T:=xs.zipIdx.map fun p=>.tup [.int (p.2:Int),p.1]
end C
end
noncomputable section
set_option linter.all false
set_option autoImplicit false
namespace C
open PySem
noncomputable def Yq (i j k:Nat):G:=fun t s=>match t with
  | .tup [a,.tup [b,c]]=>some (cg k c false (cg j b false (cg i a false s)))
  | _=>none
noncomputable def Gv (a:M T):M (List T):=fun s=>match a s with
  | some (.tup xs,s1)=>if xs.length<lim then some (Pz xs,s1) else none
  | _=>none
end C
end
noncomputable section
set_option linter.all false
set_option maxRecDepth 100000
set_option maxHeartbeats 4000002
set_option autoImplicit false
namespace C
open PySem PySem.Spec PyProof.Rows L2
noncomputable section
variable {X:Cx} {B:Bas} {a b c e lo hi:Expr} {m m1 m2 ml mh:M T} {pos p p2:Pos}
theorem Wj {K:PySem.W.Frag} {S:Hp} {as:List Addr} {x:V} {t:T} (r:Rep K S as x t):decide (x=V.non)=Nk t:=by
  cases r <;> rfl
theorem Zo {K:PySem.W.Frag} {S:Hp} {as:List Addr} {x:V} {t:T} (r:Rep K S as x t) (h:Nk t=true):x=.non:=by
  cases r <;> first | rfl | cases h
theorem a1n:OpT X (compareOp .Is) a0r:=by
  intro pins s σ H x y v u Q I rx ry z8
  obtain ⟨S,as,t,t2,w,sub,ht,hu2,hf,q⟩:=z8
  unfold a0r at hf
  split at hf
  · rename_i hn; cases hf
    exact a5n pins s σ H x y v u Q I rx ry ⟨Zo hu2 hn,by rw [Wj ht]; exact q _ H S (Ext.refl sub) (.bl _)⟩
  · cases hf
theorem yt.take {K:PySem.W.Frag} {S:Hp} {as:List Addr}:∀ (n:Nat) {vs:List V} {ts:List T},yt K S as vs ts→yt K S as (vs.take n) (ts.take n)
  | 0,_,_,_=>.nil
  | _+1,_,_,.nil=>.nil
  | n+1,_,_,.cons h r=>.cons h (yt.take n r)
end
end C
end
noncomputable section
set_option linter.all false
set_option maxRecDepth 100000
set_option maxHeartbeats 4000002
set_option autoImplicit false
namespace C
open PySem PySem.Spec PyProof.Rows L2
noncomputable section
variable {X:Cx} {B:Bas} {a b c e o k:Expr} {m mo mk mv:M T} {pos p:Pos}
end
end C
end
noncomputable section
set_option linter.all false
set_option maxRecDepth 100000
set_option maxHeartbeats 4000002
set_option autoImplicit false
namespace C
open PySem PySem.Spec PyProof.Rows L2
noncomputable section
variable {X:Cx} {B:Bas} {pins:List (Addr × Obj)} {σ:L2.St} {H S:Hp} {s:Shared} {as:List Addr} {Q:VK}
theorem gather {R:List Value→Shared→Prop} {A:Around} {E:Value→Shared→Prop} {T:String} {r d:Addr} {n:Nat} {P:Nat→Value→Prop} {OK:Heap→Prop} (KS:PySem.W.KdlSrc X.prog X.w T r d n P OK) (nh:A.handled=none) (ok0:OK s.heap) (sz:n≤sizeLine)
    (k:∀ (h1:Heap) (tk:Nat) (got:Array Value),s.heap.objs.size<h1.objs.size→(∀ b o,s.heap.get? b=some o→h1.get? b=some o)→ItemsOf P got n→R got.toList { s with heap:=h1,toks:=tk }) :
    wpAny (model X.prog X.w) A (collect (.ref r)) R E s:=by
  have lt0:=KS.there _ ok0
  unfold collect
  refine wpAny_bind (wpAny_runValue
    (codeAny_builtin entry_proto_collect' ?_))
  rw [Around.under_plainId
    PySem.F.plain_proto_collect _]
  show wpAny _ A.in1 (newList [] >>= fun z=>again (.builtin "list.__iadd__" ⟨[z,.ref r],[]⟩)) _ _ s
  refine wpAny_bind (wpAny_newObj_type (wpAny_pure ⟨plainId_quiet PySem.F.plain_list_iadd _,codeAny_builtin entry_list_iadd' ?_⟩))
  rw [Around.under_plainId
    PySem.F.plain_list_iadd _]
  change wpAny _ A.in1 (Builtin.List.listExtendWith (.ref s.heap.objs.size) (.ref r) (.ref s.heap.objs.size)) _ _ _
  have new0:(s.heap.push { cls:=.type "list",data:=.seq ([]:List Value).toArray }).get? s.heap.objs.size=some { cls:=.type "list",data:=.seq #[] }:=Heap.get?_push_size _ rfl
  have walk:=PySem.W.kdl_extend (A:=A) (s:={ s with heap:=s.heap.push { cls:=.type "list",data:=.seq ([]:List Value).toArray } })
    (R:=fun (f:Result) (s1:Shared)=>∃ (h1:Heap) (tk:Nat) (got:Array Value) (c1:Nat),f=.ok (.ret (.ref s.heap.objs.size))∧s1 = { s with heap:=h1,toks:=tk }∧(∀ b o,s.heap.get? b=some o→h1.get? b=some o) ∧
      h1.get? s.heap.objs.size=some { cls:=.type "list",dict:=none,data:=.seq got c1,slots:=#[] }∧ItemsOf P got n)
    KS nh (KS.keep _ _ ok0 fun b _ o e=>Heap.get?_push_of_some _ e) s.heap.objs.size (Nat.ne_of_gt lt0.1) (Nat.ne_of_gt lt0.2) (.ref s.heap.objs.size) 0 new0
    (fun h1 tk got c1 old at1 its=>⟨h1,tk,got,c1,rfl,rfl,fun b o e=>old b o (Nat.ne_of_lt (Heap.lt_size e)) (Heap.get?_push_of_some _ e),at1,its⟩) sz
  have last:∀ (h1:Heap) (tk:Nat) (got:Array Value) (c1:Nat),(∀ b o,s.heap.get? b=some o→h1.get? b=some o)→h1.get? s.heap.objs.size=some { cls:=.type "list",dict:=none,data:=.seq got c1,slots:=#[] }→ItemsOf P got n →
      wpAny (model X.prog X.w) A (load s.heap.objs.size >>= fun o=>match o.data with | .seq xs _=>pure xs.toList | _=>unsupported "internal:collect") R E { s with heap:=h1,toks:=tk } :=
    fun h1 tk got c1 old at1 its=>wpAny_bind (wpAny_load at1 (wpAny_pure (k h1 tk got (Heap.lt_size at1) old its)))
  refine wpAny_mono walk (fun fin s1 x=>?_) fun e s1 x=>?_
  · cases fin with
    | done f =>
      obtain ⟨h1,tk,got,c1,ef,rfl,old,at1,its⟩:=x
      cases ef
      exact last h1 tk got c1 old at1 its
    | again c =>
      refine ⟨x.1,codeAny_mono x.2 fun f s2 y=>?_⟩
      obtain ⟨h1,tk,got,c1,rfl,rfl,old,at1,its⟩:=y
      exact last h1 tk got c1 old at1 its
  · obtain ⟨_,_,_,_,ef,_⟩:=x
    cases ef
theorem X5 {T:String} {r d:Addr} {n:Nat} {P:Nat→Value→Prop} {OK:Heap→Prop} {l:List Str} (KS:PySem.W.KdlSrc X.prog X.w T r d n P OK) (hc:X.calm=true) (I:L2.Inv X pins σ H s) (sub:Same S H) (hok:OK s.heap) (h64:n<64)
    (hi:∀ vs:List Value,vs.length=n→(∀ (j:Nat) (v:Value),vs[j]? = some v→P j v)→∃ l',StrsAre vs l'∧l'.Perm l)
    (q:∀ v H' S',Ext S H S' H'→Rep X.K S' as v (.lst ((Dd l).map .str))→Q v H'):wpAny (model X.prog X.w) X.A (call (.builtin "sorted") [.ref r]) (EP X pins σ Q) X.xe s:=by
  have hn:n≤sizeLine:=Nat.le_trans (Nat.le_of_lt h64) (by rw [sizeLine_eq]; decide)
  refine Calls.call_function_entry kind_sorted plain_sorted
    entry_sorted (args_sorted1 _) ?_
  unfold Builtin.«sorted»
  refine wpAny_bind (m:=checkCount "sorted" 1 1 _) (wpAny_pure (wpAny_bind ?_))
  refine (gather (A:=X.A.in1) KS (show X.A.in1.handled=none from I.ok.hd hc) hok hn fun h' tk acc hlt hk hacc=>?_)
  have hl:acc.toList.length=n:=Array.length_toList.trans hacc.1
  obtain ⟨l',hS,hp⟩:=hi acc.toList hl fun j v e=>hacc.2 j v (by rw [← Array.getElem?_toList]; exact e)
  refine wpAny_bind (wpAny_newList ?_ (hl ▸ hn))
  have hoL:(h'.push (seqObj "list" acc.toList.toArray 0)).get? h'.objs.size=some (seqObj "list" acc.toList.toArray 0):=Heap.get?_push_size _ rfl
  refine wpAny_bind (wpAny_holding (wpAny_call_entry slot_list_sort ⟨_,hoL,rfl⟩ entry_list_sort (list_sort_treeK strKind_oneLt hoL hS.keysOf (fun v₁ v₂ rest e=>keyKind_strs (by rw [← e]; exact hS)) (by rw [hl]; exact h64) fun st' a1 a2=>⟨_,rfl,?_⟩) (args_list_sort _)))
  refine wpAny_pure ⟨_,rfl,(?_:EP X pins σ Q _ _)⟩
  obtain ⟨ss',b1,b2,b3⟩:=sorted_out_str hS a1 a2
  have es:=Tj b3 (b2.trans hp)
  subst es
  have hle:=Nat.le_of_lt hlt
  obtain ⟨e,he⟩:=sortedHeap_at (out:=(arrOf st').map (·.2)) hoL
  have hsz:(List.map V.str (Dd l)).length≤sizeLine:=by
    rw [List.length_map,(Gx l).length_eq,← hp.length_eq,← hS.length,hl]
    exact hn
  have hnn:H h'.objs.size=none:=I.hok.fresh hle
  have x:=Ext.laid sub hnn (.lst ((Dd l).map V.str))
  refine ⟨.ref h'.objs.size,_,I.laid (a:=h'.objs.size) (o:=.lst ((Dd l).map V.str)) (t':=tk) (fun b u eb=>?_) hle ⟨hsz,_,e,Iw b1,he⟩,rfl,q _ _ _ x (.lst (SqL.of kj) (Jc _))⟩
  have hb:=Heap.lt_size (hk _ _ eb)
  rw [sortedHeap_old (Nat.ne_of_lt hb) (by rw [Heap.size_push]; exact Nat.lt_succ_of_lt hb)]
  exact Heap.get?_push_of_some _ (hk _ _ eb)
theorem N5:∀ {kvs:List (L2.Key × V)} {ts:List (L2.Key × T)} {l:List Str},kvs.map (·.1)=ts.map (·.1)→Ih (ts.map fun p=>Vo p.1)=some l→kvs.map (·.1)=l.map Sum.inr
  | [],[],l,_,h=>by simp only [List.map_nil,Ih] at h; cases h; rfl
  | (k,v)::kvs,(k2,t)::ts,l,e,h=>by
    simp only [List.map_cons,List.cons.injEq] at e
    obtain ⟨e1,e2⟩:=e
    subst e1
    cases k with
    | inl i=>simp only [List.map_cons,Vo,Ih,reduceCtorEq] at h
    | inr x =>
      simp only [List.map_cons,Vo,Ih] at h
      obtain ⟨l',h1,h2⟩:=Option.map_eq_some_iff.mp h
      subst h2
      rw [List.map_cons,List.map_cons,N5 e2 h1]
theorem Fq.keys {K:PySem.W.Frag} {S:Hp} {as:List Addr}:∀ {kvs:List (L2.Key × V)} {ts:List (L2.Key × T)},Fq K S as kvs ts→kvs.map (·.1)=ts.map (·.1)
  | _,_,.nil=>rfl
  | _,_,.cons h q=>by rw [List.map_cons,List.map_cons,Fq.keys q]
theorem Hq {prog:Program} {w:World}:∀ {vs:List (L2.Key × Value)} {us:List Value} {l:List Str},vs.map (·.1)=l.map Sum.inr→us.length=vs.length→(∀ (j:Nat) (v:Value),us[j]? = some v→∃ k x,vs[j]? = some (k,x)∧(v9 prog w).is k v=true)→StrsAre us l
  | [],us,l,e,hl,h=>by
    cases us with
    | cons _ _=>simp at hl
    | nil=>cases l with
      | nil=>exact .nil
      | cons _ _=>simp at e
  | (k,x)::vs,us,l,e,hl,h=>by
    cases us with
    | nil=>simp at hl
    | cons u us =>
      cases l with
      | nil=>simp at e
      | cons y l =>
        simp only [List.map_cons,List.cons.injEq] at e
        obtain ⟨e1,e2⟩:=e
        subst e1
        obtain ⟨k',x',h1,h2⟩:=h 0 u rfl
        simp only [List.getElem?_cons_zero,Option.some.injEq,Prod.mk.injEq] at h1
        obtain ⟨rfl,rfl⟩:=h1
        rw [Us] at h2
        have hu:∃ t,u=.str y t:=by
          rcases vq h2 with ⟨i,t,e',_⟩ | ⟨z,t,e',hz⟩
          · cases e'
          · cases e'; exact ⟨t,hz⟩
        obtain ⟨t,rfl⟩:=hu
        exact .cons y t (Hq e2 (by simpa using hl) fun j v ev=>by simpa using h (j+1) v (by simpa using ev))
theorem Hu (hc:X.calm=true):S8 X (.builtin "sorted") Dk:=by
  intro pins s σ H xs us Q I rs z8
  obtain ⟨S,as,ts,w,sub,hr,hf,q⟩:=z8
  cases hr with
  | nil=>simp only [Dk,reduceCtorEq] at hf
  | @cons x t xs' ts' h1 h2 =>
    cases h2 with
    | cons h3 h4=>cases h1 <;> simp only [Dk,reduceCtorEq] at hf
    | nil =>
      cases h1 with
      | @lst a vs ts g1 g2 =>
        simp only [Dk] at hf
        split at hf
        · rename_i h64
          obtain ⟨l,e1,e2⟩:=Option.map_eq_some_iff.mp hf
          subst e2
          exact Mf pins s σ H _ us Q I rs ⟨S,as,ts,l,sub,.cons (.lst g1 g2) .nil,h64,e1,q⟩
        · cases hf
      | @dic a kvs ts g1 g2 =>
        simp only [Dk] at hf
        split at hf
        · rename_i h64
          obtain ⟨l,e1,e2⟩:=Option.map_eq_some_iff.mp hf
          subst e2
          obtain ⟨u,rfl,ru⟩:=rs.one
          cases ru
          obtain ⟨z,hd,vs,rel,dd⟩:=Hl I.hok (Ci sub g1)
          obtain ⟨ep,hat⟩:=dd.dictAt
          have hlen:vs.length=ts.length:=by rw [← rel.length]; exact g2.length
          have hk:=N5 g2.keys e1
          rw [KV.keys rel] at hk
          exact X5 (PySem.W.kdl_dict (knd:=v9 X.prog X.w) (kvs:=vs) (ep:=ep) hd) hc I sub hat (by rw [hlen]; exact h64) (fun us hl hp=>⟨l,Hq hk hl hp,.refl _⟩) q
        · cases hf
      | _=>simp only [Dk,reduceCtorEq] at hf
end
end C
end
noncomputable section
set_option linter.all false
set_option maxRecDepth 100000
set_option maxHeartbeats 4000002
set_option autoImplicit false
namespace C
open PySem PySem.Spec PyProof.Rows L2
noncomputable section
variable {prog:Program} {w:World} {A:Around} {E:Value→Shared→Prop} {s:Shared}
theorem Ko:typeLookup (.type "list") "keys" = pure none:=am_miss_of_fast (by decide +kernel)
theorem Wr {l:Addr} {xs:Array Value} {k:Nat} {sl:Array (Option Value)} {Q:Option Value→Shared→Prop} (hx:s.heap.get? l=some { cls:=.type "list",dict:=none,data:=.seq xs k,slots:=sl }) (nh:A.handled=none)
    (h:∀ h' tk e,Heap.NewExcOf s.heap h' e "AttributeError" → Q none { s with heap:=h',toks:=tk }):wpAny (model prog w) A (getAttr? (.ref l) "keys") Q E s:=by
  obtain ⟨h0,g0,d0,tk,os⟩:=s
  have hT:∀ tk',(⟨h0,g0,d0,tk',os⟩:Shared).TypeIs (.ref l) "list" := fun _=>⟨_,hx,rfl⟩
  have g1:=sub_AttributeError
  have g3:=F.slot_list_getattribute.lookup
  have g4:=F.slot_list_getattribute.bind (.ref l)
  have g5:=am_list_getattr_none
  unfold getAttr?
  unfold getAttrBy?
  unfold getAttrBy
  repeat (any_goals (first | assumption | exact hT _ | ((with_reducible show wpAny _ _ (call (Value.builtin "list.__getattribute__") _ _) _ _ _); refine call_meets F.slot_list_getattribute (hT _) am_entry_list_getattribute (F.args_list_getattribute_2 _ _) (meets_getattribute_miss_list l xs k sl "keys" _ Ko (by decide +kernel)) ⟨hx,nh,fun h' tk' e y=>?_⟩) | wp_step))
  obtain ⟨t',u',he⟩:=y.there
  change wpAny _ _ (getattributeRaised _ _ _ _ _ _ _) _ _ _
  unfold getattributeRaised
  repeat (any_goals first | assumption | wp_step)
  exact h _ _ _ y.of
theorem Jp:typeLookup (.type "tuple") "keys" = pure none:=am_miss_of_fast (by decide +kernel)
theorem Vk {l:Addr} {xs:Array Value} {k:Nat} {sl:Array (Option Value)} {Q:Option Value→Shared→Prop} (hx:s.heap.get? l=some { cls:=.type "tuple",dict:=none,data:=.seq xs k,slots:=sl }) (nh:A.handled=none)
    (h:∀ h' tk e,Heap.NewExcOf s.heap h' e "AttributeError" → Q none { s with heap:=h',toks:=tk }):wpAny (model prog w) A (getAttr? (.ref l) "keys") Q E s:=by
  obtain ⟨h0,g0,d0,tk,os⟩:=s
  have hT:∀ tk',(⟨h0,g0,d0,tk',os⟩:Shared).TypeIs (.ref l) "tuple" := fun _=>⟨_,hx,rfl⟩
  have g1:=sub_AttributeError
  have g3:=F.slot_tuple_getattribute.lookup
  have g4:=F.slot_tuple_getattribute.bind (.ref l)
  have g5:=am_tuple_getattr_none
  unfold getAttr?
  unfold getAttrBy?
  unfold getAttrBy
  repeat (any_goals (first | assumption | exact hT _ | ((with_reducible show wpAny _ _ (call (Value.builtin "tuple.__getattribute__") _ _) _ _ _); refine call_meets F.slot_tuple_getattribute (hT _) am_entry_tuple_getattribute (F.args_tuple_getattribute_2 _ _) (meets_getattribute_miss_tuple l xs k sl "keys" _ Jp (by decide +kernel)) ⟨hx,nh,fun h' tk' e y=>?_⟩) | wp_step))
  obtain ⟨t',u',he⟩:=y.there
  change wpAny _ _ (getattributeRaised _ _ _ _ _ _ _) _ _ _
  unfold getattributeRaised
  repeat (any_goals first | assumption | wp_step)
  exact h _ _ _ y.of
end
end C
end
noncomputable section
set_option linter.all false
set_option maxRecDepth 100000
set_option maxHeartbeats 4000002
set_option autoImplicit false
namespace C
open PySem PySem.Spec PyProof.Rows L2
theorem Rv {prog:Program} {w:World} {A:Around} {E:Value→Shared→Prop} {s:Shared} {t:Addr} {o:Obj} {xs:Array Value} {m:Nat} {Q:Option (Array Value)→Shared→Prop} (h:s.heap.get? t=some o) (hd:o.data=.seq xs m) (q:Q (some xs) s):wpAny (model prog w) A (seqItems? (.ref t)) Q E s:=by
  show wpAny _ A (load t >>= fun o=>match o.data with | .seq xs _=>pure (some xs) | _=>pure none) _ _ s
  refine wpAny_bind (wpAny_load h ?_)
  rw [hd]
  exact wpAny_pure q
theorem Dn:entryFor table "dict.update.loop" = some Builtin.«dict.update.loop»:=entryFor_of_tree (by kernel_rfl)
theorem xq:plainId "dict.update.loop" = true:=by decide +kernel
noncomputable section
variable {prog:Program} {w:World} {A:Around} {R:Result→Shared→Prop} {I:Addr} {fp wr:List Addr} {G:Array GenState→Array GenState→Prop} {n:Nat} {P:Nat→Value→Prop} {St:Nat→Shared→Prop} {κ:Type} [DecidableEq κ] {knd:PySem.KeyKind prog w κ}
theorem Ub (W:WalksS prog w A.in1 I fp wr G n P St) (D:Addr) (hDf:D∉fp) (result:Value) (h0:Heap) (kvs:Nat→List (κ × Value)) (key:Nat→κ) (val:Nat→Value) (hs:∀ i,kvs (i+1)=stored (kvs i) (key i) (val i)) (hz:∀ i,i≤n→(kvs i).length≤sizeLine)
    (hit:∀ i v,P i v→∃ t kx o m,v=.ref t∧t≠D∧t∉wr∧h0.get? t=some o∧o.cls=.type "tuple" ∧ o.data=.seq #[kx,val i] m∧knd.is (key i) kx=true) :
    ∀ (j i:Nat) (c:Nat) (s:Shared),n - i=j→i≤n→St i s→(∀ b o,b≠D→b∉wr→h0.get? b=some o→s.heap.get? b=some o)→s.heap.DictOf knd D (kvs i) →
      (∀ s',Moved (D::wr) G s s'→s'.heap.DictOf knd D (kvs n)→R (.ok (.ret result)) s')→codeAny (model prog w) A (.builtin "dict.update.loop" ⟨[.ref D,.ref I,rawInt (c:Int),result],[]⟩) R s:=by
  have hDw:D∉wr:=fun z=>hDf (W.sub _ z)
  have more:∀ b∈wr,b∈D::wr:=fun b hb=>List.mem_cons_of_mem _ hb
  intro j
  induction j with
  | zero =>
    intro i c s hk hi hst keep hD hR
    have e:i=n:=by omega
    subst e
    refine codeAny_builtin Dn ?_
    rw [Around.under_plainId xq _]
    change wpAny _ A.in1 (pyNext (.ref I) >>= _) _ _ s
    refine wpAny_bind (W.done s _ _ hst (fun s' hm=>?_))
    show wpAny _ A.in1 (Builtin.Dict.addKeywords D [] >>= fun _=>ret result) _ _ s'
    refine wpAny_bind (wpAny_pure (wpAny_pure (hR s' (hm.mono more) ?_)))
    obtain ⟨o,es,ep,ho,rest⟩:=hD
    exact ⟨o,es,ep,hm.heap D _ hDw ho,rest⟩
  | succ j ih =>
    intro i c s hk hi hst keep hD hR
    have hlt:i<n:=by omega
    refine codeAny_builtin Dn ?_
    rw [Around.under_plainId xq _]
    change wpAny _ A.in1 (pyNext (.ref I) >>= _) _ _ s
    refine wpAny_bind (W.item i s _ _ hlt hst (fun v s' hP hst' hm=>?_))
    obtain ⟨t,kx,o,m,rfl,htD,htw,ht,hc,hd,hkey⟩:=hit i v hP
    have ht':s'.heap.get? t=some o:=hm.heap t o htw (keep t o htD htw ht)
    have hD':s'.heap.DictOf knd D (kvs i):=by
      obtain ⟨o,es,ep,ho,rest⟩:=hD
      exact ⟨o,es,ep,hm.heap D _ hDw ho,rest⟩
    have hT:s'.TypeIs (.ref t) "tuple" := ⟨o,ht',hc⟩
    dsimp only
    refine wpAny_bind (wpAny_holding (wpAny_bind (wpAny_tryCatch ?_)))
    unfold Builtin.Dict.pairItems
    refine wpAny_bind (wpAny_typeOf (T := "tuple") hT ?_)
    rw [if_pos (by decide)]
    refine wpAny_bind (Rv ht' hd ?_)
    refine wpAny_pure ?_
    show wpAny _ A.in1 (holding [kx,val i] (dictSet D kx (val i))) _ _ s'
    refine wpAny_holding (wpAny_dictSet_pairs hkey hD' (fun h2 hD2 same=>?_) (hz i hi))
    rw [← hs i] at hD2
    refine wpAny_pure ⟨plainId_quiet xq _,?_⟩
    have ec:((c:Int)+1)=((c+1:Nat):Int):=by omega
    rw [ec]
    refine ih (i+1) (c+1) _ (by omega) hlt (W.frame _ s' _ _ hst' (Nat.le_succ _) fun b hb o e=>?_) (fun b o hb hw e=>?_) hD2 fun s2 hm2 hD3=>?_
    · rw [same.2 b (fun h:b=D=>hDf (by rw [← h]; exact hb))]; exact e
    · show h2.get? b=some o
      rw [same.2 b hb]; exact hm.heap b o hw (keep b o hb hw e)
    · refine hR s2 (Moved.trans W.gtrans ((hm.mono more).then_heap (Nat.le_succ _) fun b o hb e=>?_) hm2) hD3
      rw [same.2 b (fun h:b=D=>hb (by rw [h]; exact List.mem_cons_self))]; exact e
end
end C
end
noncomputable section
set_option linter.all false
set_option maxRecDepth 100000
set_option maxHeartbeats 4000002
set_option autoImplicit false
namespace C
open PySem PySem.Spec PyProof.Rows L2
noncomputable section
variable {prog:Program} {w:World} {A:Around} {E:Value→Shared→Prop} {s:Shared} {κ:Type} [DecidableEq κ] {knd:PySem.KeyKind prog w κ}
noncomputable def told (key:Nat→κ) (val:Nat→Value):Nat→List (κ × Value)
  | 0=>[]
  | i+1=>stored (told key val i) (key i) (val i)
theorem Vi (l:List (κ × Value)) (k:κ) (v:Value):(stored l k v).length≤l.length+1:=by
  unfold stored
  split
  · rw [List.length_map]; omega
  · rw [List.length_append,List.length_singleton]; exact Nat.le_refl _
theorem Gm (key:Nat→κ) (val:Nat→Value):∀ i,(told key val i).length≤i
  | 0=>Nat.le_refl _
  | i+1=>Nat.le_trans (Vi _ _ _) (Nat.succ_le_succ (Gm key val i))
theorem Oq {l:Addr} {its:Array Value} {m:Nat} {sl:Array (Option Value)} {key:Nat→κ} {val:Nat→Value} {Q:Value→Shared→Prop} (nh:A.handled=none) (hl:s.heap.get? l=some { cls:=.type "list",dict:=none,data:=.seq its m,slots:=sl }) (hz:its.size≤sizeLine)
    (hit:∀ i v,its[i]? = some v→∃ t kx o n,v=.ref t∧s.heap.get? t=some o∧o.cls=.type "tuple" ∧ o.data=.seq #[kx,val i] n∧knd.is (key i) kx=true)
    (q:∀ h' tk,h'.DictOf knd s.heap.objs.size (told key val its.size)→(∀ b o,s.heap.get? b=some o→h'.get? b=some o)→Q (.ref s.heap.objs.size) { s with heap:=h',toks:=tk }) :
    wpAny (model prog w) A (call (.type "dict") [.ref l]) Q E s:=by
  refine callType_codes (Q₁:=fun ob z=>ob=.ref s.heap.objs.size∧z = { s with heap:=s.heap.push { cls:=.type "dict",data:=.dict #[] } }) F.kt_called_dict (F.kt_typeCall_dict_1 _) F.entry_dict_init (kt_code_dict_new _ ⟨rfl,rfl⟩) ?_
  rintro obj s₁ ⟨rfl,rfl⟩
  have new0:(s.heap.push { cls:=.type "dict",data:=.dict #[] }).DictOf knd s.heap.objs.size []:=Heap.DictOf.new s.heap
  have hl1:(s.heap.push { cls:=.type "dict",data:=.dict #[] }).get? l=some { cls:=.type "list",dict:=none,data:=.seq its m,slots:=sl }:=Heap.get?_push_of_some _ hl
  have hll:l<s.heap.objs.size:=Heap.lt_size hl
  refine ⟨new0.typeIs,F.args_dict_init_2 _ _,?_⟩
  unfold Builtin.«dict.__init__» Builtin.Dict.selfAndRest
  refine wpAny_bind (wpAny_bind (wpAny_notOrdered_dict new0.typeIs ?_))
  show wpAny _ _ (pure (s.heap.objs.size,[Value.ref l])) _ _ _
  refine wpAny_pure ?_
  show wpAny _ _ (Builtin.Dict.updateFrom "dict.__init__" s.heap.objs.size (.ref l) [] .none) _ _ _
  unfold Builtin.Dict.updateFrom; refine wpAny_bind (wpAny_typeOf (T := "list") ⟨_,hl1,rfl⟩ ?_)
  rw [if_pos (by decide)]
  refine wpAny_bind (Wr hl1 nh fun h2 tk e ne=>?_)
  rw [if_pos (show (none:Option Value).isNone=true from rfl)]
  have old2:∀ b o,(s.heap.push { cls:=.type "dict",data:=.dict #[] }).get? b=some o→h2.get? b=some o:=fun b o hb=>ne.keeps b o hb
  have hl2:h2.IsList l its:=⟨_,old2 _ _ hl1,rfl,m,rfl⟩
  have hD2:s.heap.objs.size<h2.objs.size:=by
    obtain ⟨o,es,ep,ho,rest⟩:=new0
    exact Heap.lt_size (old2 _ _ ho)
  refine wpAny_bind (wpAny_rule (wpAny_bind (wpAny_pyIter_list hl2 ?_)))
  refine wpAny_pure ⟨plainId_quiet xq _,?_⟩
  have nl:l≠h2.objs.size:=Nat.ne_of_lt (Nat.lt_trans hll hD2)
  have nD:s.heap.objs.size∉[h2.objs.size,l]:=by
    simp only [List.mem_cons,List.mem_singleton,List.not_mem_nil,or_false,not_or]
    exact ⟨Nat.ne_of_lt hD2,Nat.ne_of_gt hll⟩
  have hD3:(h2.push { cls:=.type "list_iterator",data:=.fields #[.ref l,.int 0 0] }).DictOf knd s.heap.objs.size (told key val 0):=by
    obtain ⟨o,es,ep,ho,rest⟩:=new0
    exact ⟨o,es,ep,Heap.get?_push_of_some _ (old2 _ _ ho),rest⟩
  refine Ub (knd:=knd) ((Walks.list (A:=A.in1.in1) (show A.in1.in1.handled=none from nh) h2.objs.size l nl its).toS) s.heap.objs.size nD .none s.heap (told key val) key val (fun _=>rfl) (fun i hi=>Nat.le_trans (Gm key val i) (Nat.le_trans hi hz))
    (fun i v hv=>?_) (its.size - 0) 0 0 _ rfl (Nat.zero_le _) ⟨⟨_,Heap.get?_push_size _ rfl,rfl,rfl⟩,hl2.push _⟩ (fun b o _ _ hb=>Heap.get?_push_of_some _ (old2 _ _ (Heap.get?_push_of_some _ hb))) hD3 fun s3 hm hD4=>?_
  · obtain ⟨t,kx,o,n,rfl,ht,hc,hd,hk⟩:=hit i v hv
    have tl:=Heap.lt_size ht
    refine ⟨t,kx,o,n,rfl,Nat.ne_of_lt tl,?_,ht,hc,hd,hk⟩
    simp only [List.mem_singleton]
    exact Nat.ne_of_lt (Nat.lt_trans tl hD2)
  · obtain ⟨h3,g3,d3,t3,o3⟩:=s3
    have eg:g3=s.gens:=hm.gens
    have ed:d3=s.drawn:=hm.drawn
    have eo:o3=s.os:=hm.os
    subst eg; subst ed; subst eo
    refine ⟨rfl,q h3 t3 hD4 fun b o hb=>?_⟩
    have bl:=Heap.lt_size hb
    refine hm.heap b o ?_ (Heap.get?_push_of_some _ (old2 _ _ (Heap.get?_push_of_some _ hb)))
    simp only [List.mem_cons,List.mem_singleton,List.not_mem_nil,or_false,not_or]
    exact ⟨Nat.ne_of_lt bl,Nat.ne_of_lt (Nat.lt_trans bl hD2)⟩
theorem Mj {l:Addr} {its:Array Value} {m:Nat} {sl:Array (Option Value)} {key:Nat→κ} {val:Nat→Value} {Q:Value→Shared→Prop} (nh:A.handled=none) (hl:s.heap.get? l=some { cls:=.type "tuple",dict:=none,data:=.seq its m,slots:=sl }) (hz:its.size≤sizeLine)
    (hit:∀ i v,its[i]? = some v→∃ t kx o n,v=.ref t∧s.heap.get? t=some o∧o.cls=.type "tuple" ∧ o.data=.seq #[kx,val i] n∧knd.is (key i) kx=true)
    (q:∀ h' tk,h'.DictOf knd s.heap.objs.size (told key val its.size)→(∀ b o,s.heap.get? b=some o→h'.get? b=some o)→Q (.ref s.heap.objs.size) { s with heap:=h',toks:=tk }) :
    wpAny (model prog w) A (call (.type "dict") [.ref l]) Q E s:=by
  refine callType_codes (Q₁:=fun ob z=>ob=.ref s.heap.objs.size∧z = { s with heap:=s.heap.push { cls:=.type "dict",data:=.dict #[] } }) F.kt_called_dict (F.kt_typeCall_dict_1 _) F.entry_dict_init (kt_code_dict_new _ ⟨rfl,rfl⟩) ?_
  rintro obj s₁ ⟨rfl,rfl⟩
  have new0:(s.heap.push { cls:=.type "dict",data:=.dict #[] }).DictOf knd s.heap.objs.size []:=Heap.DictOf.new s.heap
  have hl1:(s.heap.push { cls:=.type "dict",data:=.dict #[] }).get? l=some { cls:=.type "tuple",dict:=none,data:=.seq its m,slots:=sl }:=Heap.get?_push_of_some _ hl
  have hll:l<s.heap.objs.size:=Heap.lt_size hl
  refine ⟨new0.typeIs,F.args_dict_init_2 _ _,?_⟩
  unfold Builtin.«dict.__init__» Builtin.Dict.selfAndRest
  refine wpAny_bind (wpAny_bind (wpAny_notOrdered_dict new0.typeIs ?_))
  show wpAny _ _ (pure (s.heap.objs.size,[Value.ref l])) _ _ _
  refine wpAny_pure ?_
  show wpAny _ _ (Builtin.Dict.updateFrom "dict.__init__" s.heap.objs.size (.ref l) [] .none) _ _ _
  unfold Builtin.Dict.updateFrom; refine wpAny_bind (wpAny_typeOf (T := "tuple") ⟨_,hl1,rfl⟩ ?_)
  rw [if_pos (by decide)]
  refine wpAny_bind (Vk hl1 nh fun h2 tk e ne=>?_)
  rw [if_pos (show (none:Option Value).isNone=true from rfl)]
  have old2:∀ b o,(s.heap.push { cls:=.type "dict",data:=.dict #[] }).get? b=some o→h2.get? b=some o:=fun b o hb=>ne.keeps b o hb
  have hl2:h2.IsTuple l its:=⟨_,old2 _ _ hl1,rfl,m,rfl⟩
  have hD2:s.heap.objs.size<h2.objs.size:=by
    obtain ⟨o,es,ep,ho,rest⟩:=new0
    exact Heap.lt_size (old2 _ _ ho)
  refine wpAny_bind (wpAny_rule (wpAny_bind (wpAny_pyIter_tuple hl2 ?_)))
  refine wpAny_pure ⟨plainId_quiet xq _,?_⟩
  have nl:l≠h2.objs.size:=Nat.ne_of_lt (Nat.lt_trans hll hD2)
  have nD:s.heap.objs.size∉[h2.objs.size,l]:=by
    simp only [List.mem_cons,List.mem_singleton,List.not_mem_nil,or_false,not_or]
    exact ⟨Nat.ne_of_lt hD2,Nat.ne_of_gt hll⟩
  have hD3:(h2.push { cls:=.type "tuple_iterator",data:=.fields #[.ref l,.int 0 0] }).DictOf knd s.heap.objs.size (told key val 0):=by
    obtain ⟨o,es,ep,ho,rest⟩:=new0
    exact ⟨o,es,ep,Heap.get?_push_of_some _ (old2 _ _ ho),rest⟩
  refine Ub (knd:=knd) ((Walks.tuple (A:=A.in1.in1) (show A.in1.in1.handled=none from nh) h2.objs.size l nl its).toS) s.heap.objs.size nD .none s.heap (told key val) key val (fun _=>rfl) (fun i hi=>Nat.le_trans (Gm key val i) (Nat.le_trans hi hz))
    (fun i v hv=>?_) (its.size - 0) 0 0 _ rfl (Nat.zero_le _) ⟨⟨_,Heap.get?_push_size _ rfl,rfl,rfl⟩,hl2.push _⟩ (fun b o _ _ hb=>Heap.get?_push_of_some _ (old2 _ _ (Heap.get?_push_of_some _ hb))) hD3 fun s3 hm hD4=>?_
  · obtain ⟨t,kx,o,n,rfl,ht,hc,hd,hk⟩:=hit i v hv
    have tl:=Heap.lt_size ht
    refine ⟨t,kx,o,n,rfl,Nat.ne_of_lt tl,?_,ht,hc,hd,hk⟩
    simp only [List.mem_singleton]
    exact Nat.ne_of_lt (Nat.lt_trans tl hD2)
  · obtain ⟨h3,g3,d3,t3,o3⟩:=s3
    have eg:g3=s.gens:=hm.gens
    have ed:d3=s.drawn:=hm.drawn
    have eo:o3=s.os:=hm.os
    subst eg; subst ed; subst eo
    refine ⟨rfl,q h3 t3 hD4 fun b o hb=>?_⟩
    have bl:=Heap.lt_size hb
    refine hm.heap b o ?_ (Heap.get?_push_of_some _ (old2 _ _ (Heap.get?_push_of_some _ hb)))
    simp only [List.mem_cons,List.mem_singleton,List.not_mem_nil,or_false,not_or]
    exact ⟨Nat.ne_of_lt bl,Nat.ne_of_lt (Nat.lt_trans bl hD2)⟩
end
end C
end
noncomputable section
set_option linter.all false
set_option maxRecDepth 100000
set_option maxHeartbeats 4000002
set_option autoImplicit false
namespace C
open PySem PySem.Spec PyProof.Rows L2
theorem Q9 {x:T} {xs:List T} {l:List (Key × T)} (h:Eh (x::xs)=some l):∃ k v q l',x=.tup [k,v]∧keyOf k=some q∧Eh xs=some l'∧l=(q,v)::l':=by
  match x,h with
  | .tup [k,v],h =>
    simp only [Eh] at h
    split at h
    · rename_i q l' e1 e2; cases h; exact ⟨k,v,q,l',rfl,e1,e2,rfl⟩
    · cases h
noncomputable section
variable {X:Cx} {pins:List (Addr × Obj)} {σ:L2.St} {H S:Hp} {s:Shared} {as:List Addr}
inductive Fj (h:Heap) (prog:Program) (w:World):List Value→List L2.Key→List Value→Prop where
  | nil:Fj h prog w [] [] []
  | cons {t:Addr} {kx wv:Value} {o:Obj} {n:Nat} {q:L2.Key} {us:List Value} {qs:List L2.Key} {ws:List Value}:h.get? t=some o→o.cls=.type "tuple" → o.data=.seq #[kx,wv] n→(v9 prog w).is q kx=true →
      Fj h prog w us qs ws→Fj h prog w (.ref t::us) (q::qs) (wv::ws)
theorem Fj.get {h:Heap} {prog:Program} {w:World}:∀ {us:List Value} {qs:List L2.Key} {ws:List Value},Fj h prog w us qs ws→∀ (i:Nat) (v:Value),us[i]? = some v→∃ t kx o n,v=.ref t∧h.get? t=some o∧o.cls=.type "tuple" ∧ o.data=.seq #[kx,ws.getD i .none] n∧(v9 prog w).is (qs.getD i (.inl 0)) kx=true
  | _,_,_,.nil,i,v,e=>by simp at e
  | _,_,_,.cons h1 h2 h3 h4 r,0,v,e=>by simp at e; subst e; exact ⟨_,_,_,_,rfl,h1,h2,h3,h4⟩
  | _,_,_,.cons h1 h2 h3 h4 r,i+1,v,e=>by simpa using r.get i v (by simpa using e)
theorem Fj.len {h:Heap} {prog:Program} {w:World}:∀ {us:List Value} {qs:List L2.Key} {ws:List Value},Fj h prog w us qs ws→us.length=qs.length∧us.length=ws.length
  | _,_,_,.nil=>⟨rfl,rfl⟩
  | _,_,_,.cons _ _ _ _ r=>⟨congrArg (· + 1) r.len.1,congrArg (· + 1) r.len.2⟩
theorem pairs_at (I:L2.Inv X pins σ H s) (sub:Same S H):∀ {vs:List V} {xs:List T} {us:List Value} {l:List (L2.Key × T)},yt X.K S as vs xs→Vals vs us→Eh xs=some l →
    ∃ ys ws,Fj s.heap X.prog X.w us (l.map (·.1)) ws∧Vals ys ws∧yt X.K S as ys (l.map (·.2))
  | _,_,_,_,.nil,r,e=>by simp only [Eh] at e; cases e; cases r; exact ⟨[],[],.nil,.nil,.nil⟩
  | _,_,_,_,.cons h q,r,e=>by
    obtain ⟨k,v,qk,l',rfl,e1,e2,rfl⟩:=Q9 e
    cases r with
    | cons r1 r2 =>
      obtain ⟨ys,ws,p1,p2,p3⟩:=pairs_at I sub q r2 e2
      cases h with
      | tup g1 g2 =>
        cases g2 with
        | cons a1 g2 =>
          cases g2 with
          | cons a2 g2 =>
            cases g2
            cases r1
            obtain ⟨its,rv,⟨o,o1,o2,n,o3⟩,_⟩:=I.tuple (qd sub g1)
            cases rv with
            | cons b1 rv =>
              cases rv with
              | cons b2 rv =>
                cases rv
                have ek:=Wb a1 e1
                subst ek
                exact ⟨_::ys,_::ws,.cons o1 o2 o3 (Sh b1) p1,.cons b2 p2,.cons a2 p3⟩
theorem Mp (l:List (L2.Key × T)) {ys:List V} {ws:List Value} (hv:Vals ys ws) (hr:yt X.K S as ys (l.map (·.2))):∀ i,i≤l.length →
    ∃ kv,KV kv (told (fun i=>(l.map (·.1)).getD i (.inl 0)) (fun i=>ws.getD i .none) i)∧Fq X.K S as kv ((l.take i).foldl (fun d p=>Tq p.1 p.2 d) [])
  | 0,_=>⟨[],.nil,.nil⟩
  | i+1,hi=>by
    obtain ⟨kv,k1,k2⟩:=Mp l hv hr i (by omega)
    have hlt:i<l.length:=Nat.lt_of_succ_le hi
    have e1:(l.map (·.2))[i]? = some l[i].2:=by rw [List.getElem?_map,List.getElem?_eq_getElem hlt]; rfl
    obtain ⟨y,h1,h2⟩:=hr.get e1
    obtain ⟨u,h3,h4⟩:=hv.get h1
    have e2:(l.map (·.1)).getD i (.inl 0)=l[i].1:=by rw [List.getD_eq_getElem?_getD,List.getElem?_map,List.getElem?_eq_getElem hlt]; rfl
    have e3:ws.getD i .none=u:=by rw [List.getD_eq_getElem?_getD,h3]; rfl
    refine ⟨putK kv l[i].1 y,?_,?_⟩
    · have:=k1.put l[i].1 h4
      show KV (putK kv l[i].1 y) (stored (told (fun i=>(l.map (·.1)).getD i (.inl 0)) (fun i=>ws.getD i .none) i) ((l.map (·.1)).getD i (.inl 0)) (ws.getD i .none))
      rw [e2,e3]
      exact this
    · rw [List.take_succ_eq_append_getElem hlt,List.foldl_append]
      exact k2.put h2
theorem Pj {Q:VK} {a:Addr} {vs:List V} {xs:List T} {l:List (L2.Key × T)} (hc:X.calm=true) (I:L2.Inv X pins σ H s) (sub:Same S H) (g1:SqL X.K S a vs) (g2:yt X.K S as vs xs) (e:Eh xs=some l) (hz:xs.length≤sizeLine)
    (q:∀ p kv,H p=none→kv.length≤sizeLine→Fq X.K S as kv (l.foldl (fun d p=>Tq p.1 p.2 d) [])→Q (.ref p) (upd H p (.dK kv))):wpAny (model X.prog X.w) X.A (call (.type "dict") [.ref a]) (EP X pins σ Q) X.xe s:=by
  obtain ⟨its,r,p,_⟩:=I.list (rm sub g1)
  obtain ⟨⟨cls,dd,data,sl⟩,n,ho,hcl,hd0,hd⟩:=id p
  simp only at hcl hd0 hd
  subst hcl hd0 hd
  obtain ⟨ys,ws,p1,p2,p3⟩:=pairs_at I sub g2 r e
  have hlen:its.length=l.length:=by rw [p1.len.1,List.length_map]
  have hlx:vs.length=its.length:=r.length
  obtain ⟨kv,k1,k2⟩:=Mp l p2 p3 l.length (Nat.le_refl _)
  rw [List.take_length] at k2
  refine Oq (knd:=v9 X.prog X.w) (key:=fun i=>(l.map (·.1)).getD i (.inl 0)) (val:=fun i=>ws.getD i .none) (I.ok.hd hc) ho (by rw [List.size_toArray,← hlx,g2.length]; exact hz)
    (fun i v hv=>p1.get i v (by rw [List.getElem?_toArray] at hv; exact hv)) fun h' tk hD old=>?_
  rw [show its.toArray.size=l.length by rw [List.size_toArray,hlen]] at hD
  have kl:kv.length≤sizeLine:=by
    rw [k1.length]
    exact Nat.le_trans (Gm _ _ _) (by rw [← hlen,← hlx,g2.length]; exact hz)
  have hp:H s.heap.objs.size=none:=I.hok.fresh (Nat.le_refl _)
  exact ⟨.ref s.heap.objs.size,_,I.laid (a:=s.heap.objs.size) (o:=.dK kv) (h':=h') (t':=tk) old (Nat.le_refl _) (T5 kl (beq_eq_false_iff_ne.mpr (Ne.symm (Nat.ne_of_lt I.big))) k1 hD),rfl,q _ kv hp kl k2⟩
theorem Mu {Q:VK} {a:Addr} {vs:List V} {xs:List T} {l:List (L2.Key × T)} (hc:X.calm=true) (I:L2.Inv X pins σ H s) (sub:Same S H) (g1:SqT X.K S a vs) (g2:yt X.K S as vs xs) (e:Eh xs=some l) (hz:xs.length≤sizeLine)
    (q:∀ p kv,H p=none→kv.length≤sizeLine→Fq X.K S as kv (l.foldl (fun d p=>Tq p.1 p.2 d) [])→Q (.ref p) (upd H p (.dK kv))):wpAny (model X.prog X.w) X.A (call (.type "dict") [.ref a]) (EP X pins σ Q) X.xe s:=by
  obtain ⟨its,r,p,_⟩:=I.a71 (qd sub g1)
  obtain ⟨⟨cls,dd,data,sl⟩,ho,hcl,hd0,n,hd⟩:=id p
  simp only at hcl hd0 hd
  subst hcl hd0 hd
  obtain ⟨ys,ws,p1,p2,p3⟩:=pairs_at I sub g2 r e
  have hlen:its.length=l.length:=by rw [p1.len.1,List.length_map]
  have hlx:vs.length=its.length:=r.length
  obtain ⟨kv,k1,k2⟩:=Mp l p2 p3 l.length (Nat.le_refl _)
  rw [List.take_length] at k2
  refine Mj (knd:=v9 X.prog X.w) (key:=fun i=>(l.map (·.1)).getD i (.inl 0)) (val:=fun i=>ws.getD i .none) (I.ok.hd hc) ho (by rw [List.size_toArray,← hlx,g2.length]; exact hz)
    (fun i v hv=>p1.get i v (by rw [List.getElem?_toArray] at hv; exact hv)) fun h' tk hD old=>?_
  rw [show its.toArray.size=l.length by rw [List.size_toArray,hlen]] at hD
  have kl:kv.length≤sizeLine:=by
    rw [k1.length]
    exact Nat.le_trans (Gm _ _ _) (by rw [← hlen,← hlx,g2.length]; exact hz)
  have hp:H s.heap.objs.size=none:=I.hok.fresh (Nat.le_refl _)
  exact ⟨.ref s.heap.objs.size,_,I.laid (a:=s.heap.objs.size) (o:=.dK kv) (h':=h') (t':=tk) old (Nat.le_refl _) (T5 kl (beq_eq_false_iff_ne.mpr (Ne.symm (Nat.ne_of_lt I.big))) k1 hD),rfl,q _ kv hp kl k2⟩
end
noncomputable section
variable {X:Cx} {B:Bas} {a:Expr} {m:M T} {pos p:Pos}
end
end C
end
noncomputable section
set_option linter.all false
set_option autoImplicit false
namespace C
open PySem PySem.Spec PyProof.Rows L2
theorem jg.zero {P:Program} {w:World} {K:PySem.W.Frag} {mg:Str→Option Value} {base:Heap} {x qual:Str} {st:Stmt} {f:Addr} {fd:FuncData} {ps:List Str} {k:Nat} (F:Fun K x qual st f fd) (h:mg x=some (.ref f)) (b:Binds K fd ps []):jg P w K mg base x k ps (fun _ _=>none):=by
  have no:∀ vs H Q E,¬ spF K ps.length (fun _ _=>none) vs H Q E:=fun vs H Q E z=>by
    obtain ⟨S,as,sto,ts,t,sto',_,_,_,_,e,_⟩:=z
    cases e
  exact ⟨f,fd,⟨fun vs H Q E z=>absurd z (no vs H Q E),fun A outer s H args us vs Q E _ _ _ _ z=>absurd z (no vs H Q E)⟩,b,F.kp,h⟩
end C
end
noncomputable section
set_option linter.all false
set_option maxRecDepth 100000
set_option maxHeartbeats 4000002
set_option autoImplicit false
namespace C
open PySem PySem.Spec PyProof.Rows L2
theorem Vu {n:Nat} {c:M Bool} {b:S} {s s':Sta} {fl:Flow} (h:Al (n+1) c b s=some (fl,s')):(∃ s1,c s=some (false,s1)∧fl=.next∧s'=s1) ∨
    ∃ s1 fb s2,c s=some (true,s1)∧b s1=some (fb,s2)∧(match fb with | .next=>Al n c b s2=some (fl,s') | .cont=>Al n c b s2=some (fl,s') | .brk=>fl=.next∧s'=s2 | .ret v=>fl=.ret v∧s'=s2):=by
  rw [Al] at h
  dsimp only at h
  split at h
  · rename_i s1 e1; cases h; exact .inl ⟨_,e1,rfl,rfl⟩
  · rename_i s1 e1
    split at h
    · rename_i s2 e2; exact .inr ⟨s1,.next,s2,e1,e2,h⟩
    · rename_i s2 e2; exact .inr ⟨s1,.cont,s2,e1,e2,h⟩
    · rename_i s2 e2; cases h; exact .inr ⟨s1,.brk,_,e1,e2,rfl,rfl⟩
    · rename_i v s2 e2; cases h; exact .inr ⟨s1,.ret v,_,e1,e2,rfl,rfl⟩
    · cases h
  · cases h
theorem a0l {i j:Nat} {s s':Sta} {fl:Flow} (h:a1r i j s=some (fl,s')):∃ xs t,s.env[i]? = some (some (.lst xs,true))∧xs[xs.length - 1]? = some t∧fl=.next∧s'=cg j t false (cg i (.lst xs.dropLast) true s):=by
  unfold a1r at h
  split at h
  · rename_i xs e
    split at h
    · rename_i t e2; cases h; exact ⟨xs,t,e,e2,rfl,rfl⟩
    · cases h
  · cases h
theorem yt.dropLast {K:PySem.W.Frag} {S:Hp} {as:List Addr}:∀ {vs:List V} {ts:List T},yt K S as vs ts→yt K S as vs.dropLast ts.dropLast
  | _,_,.nil=>.nil
  | _,_,.cons h .nil=>.nil
  | _,_,.cons h (.cons h2 r)=>.cons h (yt.dropLast (.cons h2 r))
noncomputable section
variable {X:Cx} {B:Bas} {c e:Expr} {m:M T} {pos p:Pos} {u:S} {body:List Stmt}
theorem Ud (n:Nat) {mc:M Bool} (hp:PassesOwn (model X.prog X.w) X.A X.env X.xe) (hc:PT X c (cOf X.K B mc)) (hb:PSs X body (sOf X.K B u)):PS X (.While c body [] pos) (sOf X.K B (Al n mc u)):=(a0v hp hc hb).imp fun D σ H z9=>by
  obtain ⟨st,ps,S,as,R,fl,st',e,q⟩:=z9
  refine ⟨fun k σ H=>∃ sti Si asi,Rel X.K B sti σ H ps Si asi∧Al k mc u sti=some (fl,st'),⟨n,st,S,as,R,e⟩,?_⟩
  rintro k σ2 H2 ⟨sti,Si,asi,Ri,ei⟩
  cases k with
  | zero=>rw [Al] at ei; cases ei
  | succ k =>
    rcases Vu ei with ⟨s1,e1,rfl,rfl⟩ | ⟨s1,fb,s2,e1,e2,er⟩
    · exact ⟨sti,ps,Si,asi,Ri,false,_,e1,fun H3 S3 as3 R3=>a2y (q σ2 H3 S3 as3 R3)⟩
    · refine ⟨sti,ps,Si,asi,Ri,true,s1,e1,fun H3 S3 as3 R3=>a4d ⟨fun σ' H'=>∃ sti Si asi,Rel X.K B sti σ' H' ps Si asi∧Al k mc u sti=some (fl,st'),fun σ' H' h=>⟨k,Nat.lt_succ_self _,h⟩,s1,ps,S3,as3,R3,fb,s2,e2,?_⟩⟩
      cases fb with
      | next=>exact fun σ' H' S' as' R'=>⟨s2,S',as',R',er⟩
      | cont=>exact fun σ' H' S' as' R'=>⟨s2,S',as',R',er⟩
      | brk =>
        obtain ⟨rfl,rfl⟩:=er
        exact fun σ' H' S' as' R'=>q σ' H' S' as' R'
      | ret v =>
        obtain ⟨rfl,rfl⟩:=er
        exact fun v σ' H' S' as' R'=>q v σ' H' S' as' R'
theorem a1v (i j:Nat) {st:Stmt} (h:PS X st (a2w (a9a X.K "list" a99 (a0w i)) (Hz j))):PS X st (sOf X.K B (a1r i j)):=h.imp fun D σ H z9=>by
  obtain ⟨st,ps,S,as,R,fl,st',e,q⟩:=z9
  obtain ⟨xs,t,e2,e3,rfl,rfl⟩:=a0l e
  obtain ⟨w,h1,_,h3⟩:=R.slots i _ true e2
  obtain ⟨p0,rfl,ow⟩:=h3 rfl
  obtain ⟨vs,hH,h4⟩:=ow.own
  obtain ⟨y,hy,ry⟩:=h4.get e3
  have hy':vs[vs.length - 1]? = some y:=by rw [h4.length]; exact hy
  have R2:=R.turn (ob:=.lst vs.dropLast) (t':=.lst xs.dropLast) e2 h1 ⟨_,kj,h4.dropLast⟩
  exact ⟨_,h1,.inl ⟨rfl,_,SqL.of hH⟩,p0,vs,y,rfl,rfl,hH,hy',q _ _ S as (R2.put (i:=j) ry)⟩
theorem Cr:S8 X (.type "int") Jl:=by
  intro pins s σ H xs us Q I rs z8
  obtain ⟨S,as,ts,w,sub,hr,hf,q⟩:=z8
  cases hr with
  | nil=>simp only [Jl,reduceCtorEq] at hf
  | @cons x t xs' ts' h1 h2 =>
    cases h2 with
    | cons h3 h4=>cases h1 <;> simp only [Jl,reduceCtorEq] at hf
    | nil =>
      cases h1 <;> simp only [Jl,reduceCtorEq] at hf
      · cases hf
        exact Oa pins s σ H _ us Q I rs (.inr ⟨_,rfl,q _ H S (Ext.refl sub) (.int _)⟩)
      · cases hf
        exact Oa pins s σ H _ us Q I rs (.inl ⟨_,rfl,q _ H S (Ext.refl sub) (.int _)⟩)
end
end C
end
noncomputable section
set_option linter.all false
set_option maxRecDepth 100000
set_option maxHeartbeats 4000002
set_option autoImplicit false
namespace C
open PySem PySem.Spec PyProof.Rows L2
noncomputable section
variable {X:Cx} {B:Bas} {e st:Expr} {te:TE} {m:M T} {pos p2 p3 p4:Pos} {j:Nat}
theorem Yv (hg:Gl X "list") (hm:X.mg "list" = none) (ha:PE X e (tOf X.K B m)) (he:starEach [e] X.env=(false,eval e X.env)::starEach [] X.env:=by rfl) (hpl:(backTo pos (starEach [] X.env)).any (·.1)=false:=by rfl) :
    PE X (.Call (.Name "list" p3) [e] [] pos) (fOf X.K B (gk Ek (aj m dz))):=by
  refine (qt Fi hg hm PyProof.Rows.boot_list (qp ha vf he) (by decide) (by decide) he hpl).imp fun σ H Q z0=>?_
  obtain ⟨st,ps,S,as,R,t,st',e,q⟩:=z0
  obtain ⟨ts,e1,e2⟩:=Du e
  obtain ⟨t1,s1,us,ea,en,rfl⟩:=Dq e1
  cases en
  refine ⟨st,ps,S,as,R,t1,_,ea,fun v H1 S1 as1 R1=>?_⟩
  have top:=R1.top
  cases top with
  | @lst a vs ts g1 g2 =>
    simp only [Ek] at e2; cases e2
    refine ⟨a,vs,rfl,.inl (rm R1.sub g1),fun p hp=>?_⟩
    obtain ⟨bD,sD,nD,no⟩:=R1.fresh hp
    exact q p _ S1 as1 (R1.drop.a2d bD sD nD (fun j w e1 e2=>no j w e1 e2)) ⟨⟨vs,kj,g2⟩,sD,nD,bD⟩ (fun j w e1 e2=>no j w e1 e2)
  | @tup a vs ts g1 g2 =>
    simp only [Ek] at e2; cases e2
    refine ⟨a,vs,rfl,.inr (qd R1.sub g1),fun p hp=>?_⟩
    obtain ⟨bD,sD,nD,no⟩:=R1.fresh hp
    exact q p _ S1 as1 (R1.drop.a2d bD sD nD (fun j w e1 e2=>no j w e1 e2)) ⟨⟨vs,kj,g2⟩,sD,nD,bD⟩ (fun j w e1 e2=>no j w e1 e2)
  | _=>simp only [Ek,reduceCtorEq] at e2
end
end C
end
noncomputable section
set_option linter.all false
set_option maxRecDepth 100000
set_option maxHeartbeats 4000002
set_option autoImplicit false
namespace C
open PySem PySem.Spec PyProof.Rows L2
noncomputable section
variable {X:Cx} {B:Bas} {a:Expr} {m:M T} {pos p:Pos}
noncomputable def a5w (K:PySem.W.Frag):List V→Hp→VK→Prop:=fun xs H Q=>∃ S as t u,Same S H∧yt K S as xs [t]∧Jd [t]=some (.dic u)∧∀ p kv,H p=none→Fq K S as kv u→Q (.ref p) (upd H p (.dK kv))
theorem V3 (hc:X.calm=true):Em X (.type "dict") (a5w X.K):=by
  intro pins s σ H xs us Q I rs z8
  obtain ⟨S,as,t,u,sub,hr,hf,q⟩:=z8
  cases hr with
  | cons h1 h2 =>
    cases h2
    obtain ⟨v,rfl,ru⟩:=rs.one
    cases h1 with
    | @lst a vs ts g1 g2 =>
      cases ru
      simp only [Jd] at hf
      split at hf
      · rename_i hl
        obtain ⟨l,e1,e2⟩:=Option.map_eq_some_iff.mp hf
        cases e2
        exact Pj hc I sub g1 g2 e1 (Nat.le_trans (Nat.le_of_lt hl) vh) fun p kv hp _ k2=>q p kv hp k2
      · cases hf
    | @tup a vs ts g1 g2 =>
      cases ru
      simp only [Jd] at hf
      split at hf
      · rename_i hl
        obtain ⟨l,e1,e2⟩:=Option.map_eq_some_iff.mp hf
        cases e2
        exact Mu hc I sub g1 g2 e1 (Nat.le_trans (Nat.le_of_lt hl) vh) fun p kv hp _ k2=>q p kv hp k2
      · cases hf
    | @dic a kvs ts g1 g2 =>
      cases ru
      simp only [Jd] at hf
      cases hf
      exact a1a I (Ci sub g1) fun p s' hp I'=>⟨.ref p,_,I',rfl,q p kvs hp g2⟩
    | _=>simp only [Jd,reduceCtorEq] at hf
theorem Y0 {t w:T} (h:Jd [t]=some w):∃ u,w=.dic u:=by
  cases t <;> simp only [Jd,reduceCtorEq] at h
  · split at h
    · obtain ⟨l,_,e⟩:=Option.map_eq_some_iff.mp h; exact ⟨_,e.symm⟩
    · cases h
  · split at h
    · obtain ⟨l,_,e⟩:=Option.map_eq_some_iff.mp h; exact ⟨_,e.symm⟩
    · cases h
  · cases h; exact ⟨_,rfl⟩
theorem a4r (hc:X.calm=true) (hg:Gl X "dict") (hm:X.mg "dict" = none) (ha:PE X a (tOf X.K B m)) (he:starEach [a] X.env=(false,eval a X.env)::starEach [] X.env:=by rfl) (hpl:(backTo pos (starEach [] X.env)).any (·.1)=false:=by rfl) :
    PE X (.Call (.Name "dict" p) [a] [] pos) (fOf X.K B (gk Jd (aj m dz))):=by
  refine (qt (V3 hc) hg hm PyProof.Rows.boot_dict (qp ha vf he) (by decide) (by decide) he hpl).imp fun σ H Q z0=>?_
  obtain ⟨st,ps,S,as,R,t,st',e,q⟩:=z0
  obtain ⟨ts,e1,e2⟩:=Du e
  obtain ⟨t1,s1,us,ea,en,rfl⟩:=Dq e1
  cases en
  obtain ⟨u,rfl⟩:=Y0 e2
  refine ⟨st,ps,S,as,R,t1,_,ea,fun v H1 S1 as1 R1=>⟨S1,as1,t1,u,R1.sub,.cons R1.top .nil,e2,fun p kv hp k2=>?_⟩⟩
  obtain ⟨bD,sD,nD,no⟩:=R1.fresh hp
  exact q p _ S1 as1 (R1.drop.a2d bD sD nD (fun j w e1 e2=>no j w e1 e2)) ⟨⟨kv,kj,k2⟩,sD,nD,bD⟩ (fun j w e1 e2=>no j w e1 e2)
end
end C
end
noncomputable section
set_option linter.all false
set_option autoImplicit false
namespace C
open PySem PySem.Sem
noncomputable def Gz:Bool→Heap→Addr→Addr→Nat→Prop
  | true,h,it,a,i=>h.IsListIter it a i
  | false,h,it,a,i=>h.IsTupleIter it a i
noncomputable def Dp:Bool→Heap→Addr→Array Value→Prop
  | true,h,a,xs=>h.IsList a xs
  | false,h,a,xs=>h.IsTuple a xs
theorem Gz.to {k:Bool} {h h':Heap} {it a:Addr} {i:Nat} (x:Gz k h it a i) (e:∀ o,h.get? it=some o→h'.get? it=some o):Gz k h' it a i:=by
  cases k <;> obtain ⟨o,ho,r⟩:=x <;> exact ⟨o,e o ho,r⟩
theorem Gz.obj {k:Bool} {h:Heap} {it a:Addr} {i:Nat} (x:Gz k h it a i):∃ o,h.get? it=some o∧∀ v,o.data≠.cell v:=by
  cases k <;> obtain ⟨o,ho,_,d⟩:=x <;> exact ⟨o,ho,fun v z=>by rw [d] at z; cases z⟩
theorem Dp.to {k:Bool} {h h':Heap} {a:Addr} {xs:Array Value} (x:Dp k h a xs) (e:∀ o,h.get? a=some o→h'.get? a=some o):Dp k h' a xs:=by
  cases k <;> obtain ⟨o,ho,r⟩:=x <;> exact ⟨o,e o ho,r⟩
noncomputable section
variable {prog:Program} {w:World} {A:Around} {E:Value→Shared→Prop} {s:Shared}
theorem nextT {it t:Addr} {i:Nat} {xs:Array Value} {x:Value} {Q:Value→Shared→Prop} (h1:s.heap.IsTupleIter it t i) (h2:s.heap.IsTuple t xs) (h3:xs[i]? = some x)
    (q:∀ h',h'.IsTupleIter it t (i+1)→Heap.SameBut it s.heap h'→Q x { s with heap:=h' }):wpAny (model prog w) A (Builtin.SmallTypes.nextOf (.ref it)) Q E s:=by
  have ty:s.TypeIs (.ref it) "tuple_iterator" := h1.typeIs
  obtain ⟨oi,gi,ci,di⟩:=h1
  obtain ⟨ot,gt,_,m,dt⟩:=h2
  have upd:∀ (h':Heap),h'=s.heap.update it (Obj.mapFields (·.setIfInBounds 1 (rawInt ((i:Int)+1))))→h'.IsTupleIter it t (i+1):=fun h' e=>by
    subst e
    refine ⟨_,Heap.get?_update_self _ gi (Obj.isFreed_of_fields (Obj.data_mapFields di _)),(Obj.cls_mapFields ..).trans ci,?_⟩
    rw [Obj.data_mapFields di]; rfl
  unfold Builtin.SmallTypes.nextOf -- here
  refine wpAny_bind (wpAny_callSpecial?_slot (name:=Str.ofString "__next__") ty F.slot_tuple_iterator_next (wpAny_call_entry F.slot_tuple_iterator_next ty F.entry_tuple_iterator_next ?_ (F.args_tuple_iterator_next_1 _)))
  refine (show wpAny _ _ (field (.ref it) 0 >>= _) _ _ s from wpAny_bind (wpAny_field gi di (x:=.ref t) rfl ?_))
  dsimp only
  rw [if_neg (by intro z; cases z)]
  refine (show wpAny _ _ (field (.ref it) 1 >>= _) _ _ s from wpAny_bind (wpAny_field gi di (x:=.int i 0) rfl ?_))
  refine (show wpAny _ _ (seqItems? (.ref t) >>= _) _ _ s from wpAny_bind (wpAny_seqItems gt dt ?_))
  dsimp only
  rw [Int.toNat_natCast,h3]
  exact wpAny_bind (wpAny_setField gi di (by simp) (wpAny_pure ⟨x,rfl,wpAny_pure (q _ (upd _ rfl) (Heap.SameBut.update ..))⟩))
theorem Jt {it t:Addr} {i:Nat} {xs:Array Value} {Q:Value→Shared→Prop} (hh:A.handled=none) (h1:s.heap.IsTupleIter it t i) (h2:s.heap.IsTuple t xs) (h3:xs[i]? = none)
    (q:∀ h' e,Heap.ExtBut it s.heap h'→(∃ o,h'.get? e=some o∧o.cls=.type "StopIteration")→E (.ref e) { s with heap:=h' }):wpAny (model prog w) A (Builtin.SmallTypes.nextOf (.ref it)) Q E s:=by
  have ty:s.TypeIs (.ref it) "tuple_iterator" := h1.typeIs
  obtain ⟨oi,gi,ci,di⟩:=h1
  obtain ⟨ot,gt,_,m,dt⟩:=h2
  unfold Builtin.SmallTypes.nextOf -- here
  refine wpAny_bind (wpAny_callSpecial?_slot (name:=Str.ofString "__next__") ty F.slot_tuple_iterator_next (wpAny_call_entry F.slot_tuple_iterator_next ty F.entry_tuple_iterator_next ?_ (F.args_tuple_iterator_next_1 _)))
  refine (show wpAny _ _ (field (.ref it) 0 >>= _) _ _ s from wpAny_bind (wpAny_field gi di (x:=.ref t) rfl ?_))
  dsimp only
  rw [if_neg (by intro z; cases z)]
  refine (show wpAny _ _ (field (.ref it) 1 >>= _) _ _ s from wpAny_bind (wpAny_field gi di (x:=.int i 0) rfl ?_))
  refine (show wpAny _ _ (seqItems? (.ref t) >>= _) _ _ s from wpAny_bind (wpAny_seqItems gt dt ?_))
  dsimp only
  rw [Int.toNat_natCast,h3]
  refine wpAny_bind (wpAny_rule (wpAny_bind (wpAny_setField gi di (by simp) ?_)))
  refine (show wpAny _ _ (newExc (.type "StopIteration") [] >>= _) _ _ _ from wpAny_bind ?_)
  simp only [newExc,newTuple]
  refine wpAny_bind (wpAny_newObj_type (wpAny_bind (m:=firstArgMember _ _) (wpAny_of_eq (a:=Value.none) (by first | rfl | (simp only [firstArgMember]; rfl)) (wpAny_newObj_type ?_ (by size_fits)))) (by size_fits))
  simp only [raiseNew]
  refine wpAny_bind (wpAny_handled ?_) -- here
  rw [show A.in1.handled=none from hh] -- here
  exact wpAny_bind (wpAny_pure (wpAny_throw (q _ _ (((Heap.SameBut.update ..).extBut.push _).push _) ⟨_,Heap.get?_push_size _ rfl,rfl⟩)))
theorem M7 {k:Bool} {it a:Addr} {i:Nat} {xs:Array Value} {x:Value} {Q:Value→Shared→Prop} (h1:Gz k s.heap it a i) (h2:Dp k s.heap a xs) (h3:xs[i]? = some x)
    (q:∀ h',Gz k h' it a (i+1)→Heap.SameBut it s.heap h'→Q x { s with heap:=h' }):wpAny (model prog w) A (Builtin.SmallTypes.nextOf (.ref it)) Q E s:=by
  cases k with
  | true=>exact wpAny_nextOf_list_item h1 h2 h3 q
  | false=>exact nextT h1 h2 h3 q
theorem Hr {k:Bool} {it a:Addr} {i:Nat} {xs:Array Value} {Q:Value→Shared→Prop} (hh:A.handled=none) (h1:Gz k s.heap it a i) (h2:Dp k s.heap a xs) (h3:xs[i]? = none)
    (q:∀ h' e,Heap.ExtBut it s.heap h'→(∃ o,h'.get? e=some o∧o.cls=.type "StopIteration")→E (.ref e) { s with heap:=h' }):wpAny (model prog w) A (Builtin.SmallTypes.nextOf (.ref it)) Q E s:=by
  cases k with
  | true=>exact wpAny_nextOf_list_end hh h1 h2 h3 q
  | false=>exact Jt hh h1 h2 h3 q
end
structure Nh (h:Heap) (z ti to' i1 i2:Addr) (f:Value):Prop where
  zip:IsZip h z ti to' f
  its:IsPair h ti (.ref i1) (.ref i2)
  kept:∃ a b,IsPair h to' a b
structure Far (z ti to' i1 i2:Addr):Prop where
  nd:[z,ti,to',i1,i2].Nodup
theorem Far.all {z ti to' i1 i2:Addr} (f:Far z ti to' i1 i2):ti≠z∧to'≠z∧i1≠z∧i2≠z∧ti≠to'∧ti≠i1∧ti≠i2∧to'≠i1∧to'≠i2∧i1≠i2:=by
  have:=f.nd
  simp only [List.nodup_cons,List.mem_cons,List.not_mem_nil,or_false,not_or] at this
  obtain ⟨⟨a,b,c,d⟩,⟨e,f,g⟩,⟨h,i⟩,j,_⟩:=this
  exact ⟨Ne.symm a,Ne.symm b,Ne.symm c,Ne.symm d,e,f,g,h,i,j⟩
noncomputable def Wv (z to' i1 i2:Addr) (h h':Heap):Prop:=∀ c o,c≠z→c≠to'→c≠i1→c≠i2→h.get? c=some o→h'.get? c=some o
noncomputable section
variable {prog:Program} {w:World} {A:Around} {E:Value→Shared→Prop} {s:Shared}
theorem Zi {k1 k2:Bool} {z ti to' i1 i2 a1 a2:Addr} {j1 j2:Nat} {xs ys:Array Value} {x y:Value} {Q:Value→Shared→Prop} (D:Far z ti to' i1 i2) (Z:Nh s.heap z ti to' i1 i2 .none)
    (h1:Gz k1 s.heap i1 a1 j1) (h2:Gz k2 s.heap i2 a2 j2) (r1:Dp k1 s.heap a1 xs) (r2:Dp k2 s.heap a2 ys) (n2:a2≠z∧a2≠to'∧a2≠i1∧a2≠i2) (n1:a1≠z) (hx:xs[j1]? = some x) (hy:ys[j2]? = some y)
    (q:∀ h',Nh h' z ti to' i1 i2 (rawInt s.heap.objs.size)→Gz k1 h' i1 a1 (j1+1)→Gz k2 h' i2 a2 (j2+1)→IsPair h' s.heap.objs.size x y→Wv z to' i1 i2 s.heap h'→Q (.ref s.heap.objs.size) { s with heap:=h' }) :
    wpAny (model prog w) A (Builtin.«zip.__next__» ⟨[.ref z],[]⟩) (fun fin s'=>∃ v,fin=.done (.ret v)∧Q v s') E s:=by -- here
  obtain ⟨hz,hI,a,b,hO⟩:=Z
  obtain ⟨d1,d2,d3,d4,d5,d6,d7,d8,d9,d10⟩:=D.all
  refine (show wpAny _ _ (field (.ref z) 2 >>= _) _ _ _ from wpAny_bind (wpAny_field hz rfl (x:=.bool false) rfl ?_))
  refine (show wpAny _ _ (field (.ref z) 3 >>= _) _ _ _ from wpAny_bind (wpAny_field hz rfl (x:=.ref ti) rfl (wpAny_bind (wpAny_seqItems hI rfl ?_))))
  refine (show wpAny _ _ (Builtin.SmallTypes.ownedTupleIsFree (.ref z) >>= _) _ _ _ from wpAny_bind ?_)
  unfold Builtin.SmallTypes.ownedTupleIsFree -- here
  refine wpAny_bind (wpAny_field hz rfl (x:=.none) rfl (wpAny_pure ?_)) -- here
  dsimp only
  rw [if_pos rfl]
  refine wpAny_bind (wpAny_rule (wpAny_bind (wpAny_field hz rfl (x:=.ref to') rfl (wpAny_bind (wpAny_setField_rec hz (by simp) fun g1 z1 s1=>wpAny_bind ?_)))))
  have z1:IsZip g1 z ti to' .ellipsis:=z1
  simp only [List.zipIdx_cons,List.zipIdx_nil,List.forIn_cons,List.forIn_nil] -- here
  refine wpAny_bind (wpAny_bind (wpAny_onRaise (show wpAny _ _ (Builtin.SmallTypes.nextOf (.ref i1) >>= _) _ _ _ from wpAny_bind (M7 (h1.to fun o e=>s1.extBut _ _ d3 e) (r1.to fun o e=>s1.extBut _ _ n1 e) hx fun g2 t2 s2=>wpAny_pure ?_))))
  have o2:IsPair g2 to' a b:=s2.extBut _ _ d8 (s1.extBut _ _ d2 hO)
  refine wpAny_bind (wpAny_seqItems o2 rfl (wpAny_bind (wpAny_updateSeq_pair o2 fun g3 o3 s3=>wpAny_bind (wpAny_letGo (wpAny_pure ?_)))))
  have o3:IsPair g3 to' x b:=o3
  have e3:∀ c o,c≠z→c≠i1→c≠to'→s.heap.get? c=some o→g3.get? c=some o:=fun c o c1 c2 c3 e=>s3.extBut _ _ c3 (s2.extBut _ _ c2 (s1.extBut _ _ c1 e))
  refine wpAny_bind (wpAny_bind (wpAny_onRaise (show wpAny _ _ (Builtin.SmallTypes.nextOf (.ref i2) >>= _) _ _ _ from wpAny_bind (M7 (h2.to fun o e=>e3 _ o d4 (Ne.symm d10) (Ne.symm d9) e) (r2.to fun o e=>e3 _ o n2.1 n2.2.2.1 n2.2.1 e) hy fun g4 t4 s4=>wpAny_pure ?_))))
  have o4:IsPair g4 to' x b:=s4.extBut _ _ d9 o3
  refine wpAny_bind (wpAny_seqItems o4 rfl (wpAny_bind (wpAny_updateSeq_pair o4 fun g5 o5 s5=>wpAny_bind (wpAny_letGo (wpAny_pure (wpAny_pure ?_))))))
  have o5:IsPair g5 to' x y:=o5
  have sz:g5.objs.size=s.heap.objs.size:=by rw [s5.1,s4.1,s3.1,s2.1,s1.1]
  have z5:IsZip g5 z ti to' .ellipsis:=s5.extBut _ _ (Ne.symm d2) (s4.extBut _ _ (Ne.symm d4) (s3.extBut _ _ (Ne.symm d2) (s2.extBut _ _ (Ne.symm d3) z1)))
  have t5:Gz k1 g5 i1 a1 (j1+1):=t2.to fun o e=>s5.extBut _ _ (Ne.symm d8) (s4.extBut _ _ d10 (s3.extBut _ _ (Ne.symm d8) e))
  have u5:Gz k2 g5 i2 a2 (j2+1):=t4.to fun o e=>s5.extBut _ _ (Ne.symm d9) e
  refine wpAny_bind (wpAny_seqItems o5 rfl (wpAny_bind (wpAny_newTuple ?_)))
  refine (show wpAny _ _ (Builtin.SmallTypes.ownedTupleHandOut (.ref z) (.ref g5.objs.size) >>= _) _ _ _ from wpAny_bind ?_)
  unfold Builtin.SmallTypes.ownedTupleHandOut -- here
  have z6:IsZip (g5.push { cls:=.type "tuple",data:=.seq #[x,y] }) z ti to' .ellipsis:=Heap.get?_push_of_some _ z5
  refine wpAny_bind (wpAny_setField_rec z6 (by simp) fun g7 z7 s7=>?_)
  have z7:IsZip g7 z ti to' (rawInt g5.objs.size):=z7
  refine wpAny_setField_rec z7 (by simp) fun g8 z8 s8=>wpAny_pure ⟨_,rfl,?_⟩
  have z8:IsZip g8 z ti to' (rawInt g5.objs.size):=z8
  have e8:∀ c o,c≠z→g5.get? c=some o→g8.get? c=some o:=fun c o c1 e=>s8.extBut _ _ c1 (s7.extBut _ _ c1 (Heap.get?_push_of_some _ e))
  have p8:IsPair g8 g5.objs.size x y:=s8.extBut _ _ (Nat.ne_of_gt (Heap.lt_size z5)) (s7.extBut _ _ (Nat.ne_of_gt (Heap.lt_size z5)) (Heap.get?_push_size _ rfl))
  have all:∀ c o,c≠z→c≠to'→c≠i1→c≠i2→s.heap.get? c=some o→g8.get? c=some o:=fun c o c1 c2 c3 c4 e=>e8 c o c1 (s5.extBut _ _ c2 (s4.extBut _ _ c4 (e3 c o c1 c3 c2 e)))
  rw [sz] at z8 p8
  show Q (.ref g5.objs.size) _
  rw [sz]
  exact q g8 ⟨z8,all _ _ d1 d5 d6 d7 hI,x,y,e8 _ _ d2 o5⟩ (t5.to fun o e=>e8 _ o d3 e) (u5.to fun o e=>e8 _ o d4 e) p8 all
theorem a06 {k1 k2:Bool} {z ti to' i1 i2 a1 a2:Addr} {j1 j2:Nat} {xs ys:Array Value} {Q:PySem.Fin→Shared→Prop} (hh:A.handled=none) (D:Far z ti to' i1 i2) (Z:Nh s.heap z ti to' i1 i2 .none)
    (h1:Gz k1 s.heap i1 a1 j1) (h2:Gz k2 s.heap i2 a2 j2) (r1:Dp k1 s.heap a1 xs) (r2:Dp k2 s.heap a2 ys) (n2:a2≠z∧a2≠to'∧a2≠i1∧a2≠i2) (n1:a1≠z) (hend:xs[j1]? = none∨ys[j2]? = none)
    (q:∀ h' e,Wv z to' i1 i2 s.heap h'→(∃ o,h'.get? e=some o∧o.cls=.type "StopIteration")→E (.ref e) { s with heap:=h' }) :
    wpAny (model prog w) A (Builtin.«zip.__next__» ⟨[.ref z],[]⟩) Q E s:=by -- here
  obtain ⟨hz,hI,a,b,hO⟩:=Z
  obtain ⟨d1,d2,d3,d4,d5,d6,d7,d8,d9,d10⟩:=D.all
  refine (show wpAny _ _ (field (.ref z) 2 >>= _) _ _ _ from wpAny_bind (wpAny_field hz rfl (x:=.bool false) rfl ?_))
  refine (show wpAny _ _ (field (.ref z) 3 >>= _) _ _ _ from wpAny_bind (wpAny_field hz rfl (x:=.ref ti) rfl (wpAny_bind (wpAny_seqItems hI rfl ?_))))
  refine (show wpAny _ _ (Builtin.SmallTypes.ownedTupleIsFree (.ref z) >>= _) _ _ _ from wpAny_bind ?_)
  unfold Builtin.SmallTypes.ownedTupleIsFree -- here
  refine wpAny_bind (wpAny_field hz rfl (x:=.none) rfl (wpAny_pure ?_)) -- here
  dsimp only
  rw [if_pos rfl]
  refine wpAny_bind (wpAny_rule (wpAny_bind (wpAny_field hz rfl (x:=.ref to') rfl (wpAny_bind (wpAny_setField_rec hz (by simp) fun g1 z1 s1=>wpAny_bind ?_)))))
  have z1:IsZip g1 z ti to' .ellipsis:=z1
  simp only [List.zipIdx_cons,List.zipIdx_nil,List.forIn_cons,List.forIn_nil] -- here
  have fin:∀ (g:Heap) (e:Addr) (zg:IsZip g z ti to' .ellipsis) (he:∃ o,g.get? e=some o∧o.cls=.type "StopIteration") (kg:Wv z to' i1 i2 s.heap g),wpAny (model prog w) A (setField (.ref z) 0 .none) (fun _ s'=>E (.ref e) s') E { s with heap:=g }:=fun g e zg ⟨o,ho,hc⟩ kg=>by
    have ne:e≠z:=fun x=>by subst x; rw [zg] at ho; cases ho; simp at hc
    exact wpAny_setField_rec zg (by simp) fun g' _ s'=>q g' e (fun c o c1 c2 c3 c4 x=>s'.extBut _ _ c1 (kg c o c1 c2 c3 c4 x)) ⟨o,s'.extBut _ _ ne ho,hc⟩
  cases hx:xs[j1]? with
  | none =>
    refine wpAny_bind (wpAny_bind (wpAny_onRaise (show wpAny _ _ (Builtin.SmallTypes.nextOf (.ref i1) >>= _) _ _ _ from wpAny_bind (Hr hh (h1.to fun o e=>s1.extBut _ _ d3 e) (r1.to fun o e=>s1.extBut _ _ n1 e) hx fun g2 e s2 he=>?_))))
    exact fin g2 e (s2 _ _ (Ne.symm d3) z1) he fun c o c1 _ c3 _ x=>s2 _ _ c3 (s1.extBut _ _ c1 x)
  | some x =>
    have hy:ys[j2]? = none:=hend.resolve_left fun h=>by rw [hx] at h; cases h
    refine wpAny_bind (wpAny_bind (wpAny_onRaise (show wpAny _ _ (Builtin.SmallTypes.nextOf (.ref i1) >>= _) _ _ _ from wpAny_bind (M7 (h1.to fun o e=>s1.extBut _ _ d3 e) (r1.to fun o e=>s1.extBut _ _ n1 e) hx fun g2 t2 s2=>wpAny_pure ?_))))
    have o2:IsPair g2 to' a b:=s2.extBut _ _ d8 (s1.extBut _ _ d2 hO)
    refine wpAny_bind (wpAny_seqItems o2 rfl (wpAny_bind (wpAny_updateSeq_pair o2 fun g3 o3 s3=>wpAny_bind (wpAny_letGo (wpAny_pure ?_)))))
    have e3:∀ c o,c≠z→c≠i1→c≠to'→s.heap.get? c=some o→g3.get? c=some o:=fun c o c1 c2 c3 e=>s3.extBut _ _ c3 (s2.extBut _ _ c2 (s1.extBut _ _ c1 e))
    refine wpAny_bind (wpAny_bind (wpAny_onRaise (show wpAny _ _ (Builtin.SmallTypes.nextOf (.ref i2) >>= _) _ _ _ from wpAny_bind (Hr hh (h2.to fun o e=>e3 _ o d4 (Ne.symm d10) (Ne.symm d9) e) (r2.to fun o e=>e3 _ o n2.1 n2.2.2.1 n2.2.1 e) hy fun g4 e s4 he=>?_))))
    exact fin g4 e (s4 _ _ (Ne.symm d4) (s3.extBut _ _ (Ne.symm d2) (s2.extBut _ _ (Ne.symm d3) z1))) he fun c o c1 c2 c3 c4 x=>s4 _ _ c4 (e3 c o c1 c3 c2 x)
theorem a0n {k1 k2:Bool} {z ti to' i1 i2 a1 a2:Addr} {j1 j2:Nat} {xs ys:Array Value} {x y:Value} {Q:Option Value→Shared→Prop} (D:Far z ti to' i1 i2) (Z:Nh s.heap z ti to' i1 i2 .none)
    (h1:Gz k1 s.heap i1 a1 j1) (h2:Gz k2 s.heap i2 a2 j2) (r1:Dp k1 s.heap a1 xs) (r2:Dp k2 s.heap a2 ys) (n2:a2≠z∧a2≠to'∧a2≠i1∧a2≠i2) (n1:a1≠z) (hx:xs[j1]? = some x) (hy:ys[j2]? = some y)
    (q:∀ h',Nh h' z ti to' i1 i2 (rawInt s.heap.objs.size)→Gz k1 h' i1 a1 (j1+1)→Gz k2 h' i2 a2 (j2+1)→IsPair h' s.heap.objs.size x y→Wv z to' i1 i2 s.heap h'→Q (some (.ref s.heap.objs.size)) { s with heap:=h' }) :
    wpAny (model prog w) A (pyNext (.ref z)) Q E s:=by -- here
  have ty:s.TypeIs (.ref z) "zip" := ⟨_,Z.zip,rfl⟩
  unfold pyNext
  exact wpAny_bind (wpAny_attempt (wpAny_callSpecial?_slot (name:=Str.ofString "__next__") ty F.slot_zip_next (wpAny_call_entry F.slot_zip_next ty F.entry_zip_next
    (Zi D Z h1 h2 r1 r2 n2 n1 hx hy fun h' a b c d e=>wpAny_pure (q h' a b c d e)) (F.args_zip_next_1 _))))
theorem a0b {k1 k2:Bool} {z ti to' i1 i2 a1 a2:Addr} {j1 j2:Nat} {xs ys:Array Value} {Q:Option Value→Shared→Prop} (hh:A.handled=none) (D:Far z ti to' i1 i2) (Z:Nh s.heap z ti to' i1 i2 .none)
    (h1:Gz k1 s.heap i1 a1 j1) (h2:Gz k2 s.heap i2 a2 j2) (r1:Dp k1 s.heap a1 xs) (r2:Dp k2 s.heap a2 ys) (n2:a2≠z∧a2≠to'∧a2≠i1∧a2≠i2) (n1:a1≠z) (hend:xs[j1]? = none∨ys[j2]? = none)
    (q:∀ h',Wv z to' i1 i2 s.heap h'→Q none { s with heap:=h' }):wpAny (model prog w) A (pyNext (.ref z)) Q E s:=by
  have ty:s.TypeIs (.ref z) "zip" := ⟨_,Z.zip,rfl⟩
  unfold pyNext
  refine wpAny_bind (wpAny_attempt (wpAny_callSpecial?_slot (name:=Str.ofString "__next__") ty F.slot_zip_next (wpAny_call_entry F.slot_zip_next ty F.entry_zip_next
    (a06 hh D Z h1 h2 r1 r2 n2 n1 hend fun h' e kp he=>?_) (F.args_zip_next_1 _))))
  obtain ⟨o,ho,hc⟩:=he
  exact wpAny_bind (wpAny_isInstance (T := "StopIteration") (b:=true) ⟨o,ho,hc⟩ isSubtype_stop (wpAny_pure (q _ kp)))
end
noncomputable abbrev X6 (k:Bool) (a:Addr):Obj:={ cls:=.type (if k then "list_iterator" else "tuple_iterator"),data:=.fields #[.ref a,.int 0 0] }
noncomputable abbrev zh1 (h:Heap) (k1:Bool) (a1:Addr):Heap:=h.push (X6 k1 a1)
noncomputable abbrev zh2 (h:Heap) (k1 k2:Bool) (a1 a2:Addr):Heap:=(zh1 h k1 a1).push (X6 k2 a2)
noncomputable abbrev zh3 (h:Heap) (k1 k2:Bool) (a1 a2:Addr):Heap:=(zh2 h k1 k2 a1 a2).push { cls:=.type "tuple",data:=.seq #[.ref h.objs.size,.ref (zh1 h k1 a1).objs.size] }
noncomputable abbrev zh4 (h:Heap) (k1 k2:Bool) (a1 a2:Addr):Heap:=(zh3 h k1 k2 a1 a2).push { cls:=.type "tuple",data:=.seq #[.none,.none] }
noncomputable abbrev zh5 (h:Heap) (k1 k2:Bool) (a1 a2:Addr):Heap:=(zh4 h k1 k2 a1 a2).push { cls:=.type "zip",data:=.fields #[.none,.bool false,.bool false,.ref (zh2 h k1 k2 a1 a2).objs.size,.ref (zh3 h k1 k2 a1 a2).objs.size] }
set_option maxHeartbeats 4000000 in
theorem Ql (a1 a2:Addr) (xs ys:Array Value):Meets (Builtin.«zip.__new__» ⟨[.type "zip",.ref a1,.ref a2],[]⟩) (fun _ R s=>s.heap.IsTuple a1 xs∧s.heap.IsTuple a2 ys ∧
      R (.ok (.ret (.ref (zh4 s.heap false false a1 a2).objs.size))) { s with heap:=zh5 s.heap false false a1 a2 }) :=
  .of_wp fun prog w A R s z9=>by
    obtain ⟨r1,r2,fin⟩:=z9
    obtain ⟨hp,g,d,tk,os⟩:=s -- here
    have hsub:=sub_zip
    have q1:Heap.IsTuple (Shared.heap ⟨hp,g,d,tk,os⟩) a1 xs:=r1
    have q2:Heap.IsTuple (Shared.heap ⟨hp.push { cls:=.type "tuple_iterator",data:=.fields #[.ref a1,.int 0 0] },g,d,tk,os⟩) a2 ys:=Heap.IsTuple.push r2 _
    wp_walk using wpAny_pyIter_tuple q1,wpAny_pyIter_tuple q2
    exact ⟨_,rfl,fin⟩
set_option maxHeartbeats 4000000 in
theorem Qo (a1 a2:Addr) (xs ys:Array Value):Meets (Builtin.«zip.__new__» ⟨[.type "zip",.ref a1,.ref a2],[]⟩) (fun _ R s=>s.heap.IsTuple a1 xs∧s.heap.IsList a2 ys ∧
      R (.ok (.ret (.ref (zh4 s.heap false true a1 a2).objs.size))) { s with heap:=zh5 s.heap false true a1 a2 }) :=
  .of_wp fun prog w A R s z9=>by
    obtain ⟨r1,r2,fin⟩:=z9
    obtain ⟨hp,g,d,tk,os⟩:=s -- here
    have hsub:=sub_zip
    have q1:Heap.IsTuple (Shared.heap ⟨hp,g,d,tk,os⟩) a1 xs:=r1
    have q2:Heap.IsList (Shared.heap ⟨hp.push { cls:=.type "tuple_iterator",data:=.fields #[.ref a1,.int 0 0] },g,d,tk,os⟩) a2 ys:=Heap.IsList.push r2 _
    wp_walk using wpAny_pyIter_tuple q1,wpAny_pyIter_list q2
    exact ⟨_,rfl,fin⟩
set_option maxHeartbeats 4000000 in
theorem Ru (a1 a2:Addr) (xs ys:Array Value):Meets (Builtin.«zip.__new__» ⟨[.type "zip",.ref a1,.ref a2],[]⟩) (fun _ R s=>s.heap.IsList a1 xs∧s.heap.IsTuple a2 ys ∧
      R (.ok (.ret (.ref (zh4 s.heap true false a1 a2).objs.size))) { s with heap:=zh5 s.heap true false a1 a2 }) :=
  .of_wp fun prog w A R s z9=>by
    obtain ⟨r1,r2,fin⟩:=z9
    obtain ⟨hp,g,d,tk,os⟩:=s -- here
    have hsub:=sub_zip
    have q1:Heap.IsList (Shared.heap ⟨hp,g,d,tk,os⟩) a1 xs:=r1
    have q2:Heap.IsTuple (Shared.heap ⟨hp.push { cls:=.type "list_iterator",data:=.fields #[.ref a1,.int 0 0] },g,d,tk,os⟩) a2 ys:=Heap.IsTuple.push r2 _
    wp_walk using wpAny_pyIter_list q1,wpAny_pyIter_tuple q2
    exact ⟨_,rfl,fin⟩
set_option maxHeartbeats 4000000 in
theorem Q8 (a1 a2:Addr) (xs ys:Array Value):Meets (Builtin.«zip.__new__» ⟨[.type "zip",.ref a1,.ref a2],[]⟩) (fun _ R s=>s.heap.IsList a1 xs∧s.heap.IsList a2 ys ∧
      R (.ok (.ret (.ref (zh4 s.heap true true a1 a2).objs.size))) { s with heap:=zh5 s.heap true true a1 a2 }) :=
  .of_wp fun prog w A R s z9=>by
    obtain ⟨r1,r2,fin⟩:=z9
    obtain ⟨hp,g,d,tk,os⟩:=s -- here
    have hsub:=sub_zip
    have q1:Heap.IsList (Shared.heap ⟨hp,g,d,tk,os⟩) a1 xs:=r1
    have q2:Heap.IsList (Shared.heap ⟨hp.push { cls:=.type "list_iterator",data:=.fields #[.ref a1,.int 0 0] },g,d,tk,os⟩) a2 ys:=Heap.IsList.push r2 _
    wp_walk using wpAny_pyIter_list q1,wpAny_pyIter_list q2
    exact ⟨_,rfl,fin⟩
theorem Zk (k1 k2:Bool) (a1 a2:Addr) (xs ys:Array Value):Meets (Builtin.«zip.__new__» ⟨[.type "zip",.ref a1,.ref a2],[]⟩) (fun _ R s=>Dp k1 s.heap a1 xs∧Dp k2 s.heap a2 ys ∧
      R (.ok (.ret (.ref (zh4 s.heap k1 k2 a1 a2).objs.size))) { s with heap:=zh5 s.heap k1 k2 a1 a2 }):=by
  cases k1 <;> cases k2
  · exact Ql a1 a2 xs ys
  · exact Qo a1 a2 xs ys
  · exact Ru a1 a2 xs ys
  · exact Q8 a1 a2 xs ys
theorem U6 {k:Bool} {h:Heap} {p a:Addr} (e:h.get? p=some (X6 k a)):Gz k h p a 0:=by
  cases k <;> exact ⟨_,e,rfl,rfl⟩
noncomputable section
variable {prog:Program} {w:World} {A:Around} {E:Value→Shared→Prop} {s:Shared}
theorem Zt {k1 k2:Bool} {a1 a2:Addr} {xs ys:Array Value} {Q:Value→Shared→Prop} (r1:Dp k1 s.heap a1 xs) (r2:Dp k2 s.heap a2 ys)
    (q:∀ h',Nh h' (s.heap.objs.size+4) (s.heap.objs.size+2) (s.heap.objs.size+3) s.heap.objs.size (s.heap.objs.size+1) .none→Gz k1 h' s.heap.objs.size a1 0→Gz k2 h' (s.heap.objs.size+1) a2 0 →
      (∀ c o,s.heap.get? c=some o→h'.get? c=some o)→Q (.ref (s.heap.objs.size+4)) { s with heap:=h' }):wpAny (model prog w) A (call (.type "zip") [.ref a1,.ref a2]) Q E s:=by
  refine callType_new F.called_zip (by decide) (F.typeCall_zip_2 _ _) (F.newCall_zip_2 _ _) (fun obj=>F.args_object_init_3 obj _ _) F.entry_zip_new (Zk k1 k2 a1 a2 xs ys) ⟨r1,r2,?_⟩
  have y1:(zh1 s.heap k1 a1).objs.size=s.heap.objs.size+1:=Heap.size_push ..
  have y2:(zh2 s.heap k1 k2 a1 a2).objs.size=s.heap.objs.size+2:=by rw [Heap.size_push,y1]
  have y3:(zh3 s.heap k1 k2 a1 a2).objs.size=s.heap.objs.size+3:=by rw [Heap.size_push,y2]
  have y4:(zh4 s.heap k1 k2 a1 a2).objs.size=s.heap.objs.size+4:=by rw [Heap.size_push,y3]
  have up:∀ {h:Heap} {o:Obj} {c:Addr} {u:Obj},h.get? c=some u→(h.push o).get? c=some u:=fun e=>Heap.get?_push_of_some _ e
  have g5:(zh5 s.heap k1 k2 a1 a2).get? (zh4 s.heap k1 k2 a1 a2).objs.size=some _:=Heap.get?_push_size _ rfl
  have g4:(zh5 s.heap k1 k2 a1 a2).get? (zh3 s.heap k1 k2 a1 a2).objs.size=some _:=up (Heap.get?_push_size _ rfl)
  have g3:(zh5 s.heap k1 k2 a1 a2).get? (zh2 s.heap k1 k2 a1 a2).objs.size=some _:=up (up (Heap.get?_push_size _ rfl))
  have g2:(zh5 s.heap k1 k2 a1 a2).get? (zh1 s.heap k1 a1).objs.size=some (X6 k2 a2):=up (up (up (Heap.get?_push_size _ rfl)))
  have g1:(zh5 s.heap k1 k2 a1 a2).get? s.heap.objs.size=some (X6 k1 a1):=up (up (up (up (Heap.get?_push_size _ rfl))))
  show _∧_
  rw [y2,y3,y4] at g5
  rw [y1,y2] at g3
  rw [y3] at g4
  rw [y1] at g2
  rw [y4]
  exact ⟨⟨_,g5,rfl⟩,q _ ⟨g5,g3,_,_,g4⟩ (U6 g1) (U6 g2) fun c o x=>up (up (up (up (up x))))⟩
end
end C
end
noncomputable section
set_option linter.all false
set_option maxRecDepth 100000
set_option maxHeartbeats 4000002
set_option autoImplicit false
namespace C
open PySem PySem.Spec PyProof.Rows L2
theorem Inv.Xl {X:Cx} {pins:List (Addr × Obj)} {σ:L2.St} {H:Hp} {s:Shared} {h':Heap} {t':Nat} {ch:List Addr} {n:Addr} {o:HO} (I:L2.Inv X pins σ H s) (hch:∀ b∈ch,Ox X pins H b)
    (k:∀ b u,b∉ch→s.heap.get? b=some u→h'.get? b=some u) (hp:s.heap.objs.size≤n) (new:Bh X.prog X.w (upd H n o) h' n o):L2.Inv X pins σ (upd H n o) { s with heap:=h',toks:=t' }:=by
  have fr:=I.hok.fresh hp
  have nn:∀ b u,s.heap.get? b=some u→b≠n:=fun b u e=>Nat.ne_of_lt (Nat.lt_of_lt_of_le (Heap.lt_size e) hp)
  have nch:∀ b u,H b=some u→b∉ch:=fun b u e z=>by rw [(hch b z).1] at e; cases e
  refine I.step (g':=s.gens) (d':=s.drawn) (ch:=ch) (fun b hb=>?_) (fun b u _ _ hc e _=>k b u hc e) (fun b u _ _ hc e _=>⟨u.slots,k b u hc e⟩) (fun b u _ e z=>by rw [ql (nn b u e)]; exact z)
    (fun b u hc e=>⟨u,k b u hc e⟩) (fun b xs e=>by rw [ql (wz e fr)]; exact e) (fun b u xs e=>by rw [ql (wz e fr)]; exact e) (fun b ps e=>⟨#[],by rw [ql (wz e fr),e]; simp⟩) (fun m hm=>?_) (fun b u e=>?_) I.bare
  · obtain ⟨f0,f1,f2,f3,f4,f5⟩:=hch b hb
    exact ⟨f3,f1,f4,f5⟩
  · obtain ⟨ob,es,ep,ho,r⟩:=hm
    exact ⟨ob,es,ep,k _ ob (fun z=>(hch _ z).2.1 rfl) ho,r⟩
  · by_cases hb:b=n
    · subst hb; rw [kj] at e; cases e; exact new
    · rw [ql hb] at e
      refine (I.hok b u e).stay (fun c v hc q=>k c v ?_ q) (fun c q=>by rw [ql (wz q fr)]; exact q) fun c xs q=>by rw [ql (wz q fr)]; exact q
      rcases hc with rfl | hc
      · exact nch _ _ e
      · exact nch _ _ hc
theorem Inv.Xg {X:Cx} {pins:List (Addr × Obj)} {σ:L2.St} {H:Hp} {s:Shared} {h':Heap} {t':Nat} {ch:List Addr} (I:L2.Inv X pins σ H s) (hch:∀ b∈ch,Ox X pins H b)
    (k:∀ b u,b∉ch→s.heap.get? b=some u→h'.get? b=some u):L2.Inv X pins σ H { s with heap:=h',toks:=t' }:=by
  have nch:∀ b u,H b=some u→b∉ch:=fun b u e z=>by rw [(hch b z).1] at e; cases e
  refine I.step (g':=s.gens) (d':=s.drawn) (ch:=ch) (fun b hb=>?_) (fun b u _ _ hc e _=>k b u hc e) (fun b u _ _ hc e _=>⟨u.slots,k b u hc e⟩) (fun b u _ e z=>z)
    (fun b u hc e=>⟨u,k b u hc e⟩) (fun b xs e=>e) (fun b u xs e=>e) (fun b ps e=>⟨#[],by rw [e]; simp⟩) (fun m hm=>?_) (fun b u e=>?_) I.bare
  · obtain ⟨f0,f1,f2,f3,f4,f5⟩:=hch b hb
    exact ⟨f3,f1,f4,f5⟩
  · obtain ⟨ob,es,ep,ho,r⟩:=hm
    exact ⟨ob,es,ep,k _ ob (fun z=>(hch _ z).2.1 rfl) ho,r⟩
  · refine (I.hok b u e).stay (fun c v hc q=>k c v ?_ q) (fun c q=>q) fun c xs q=>q
    rcases hc with rfl | hc
    · exact nch _ _ e
    · exact nch _ _ hc
noncomputable def Sq:Bool→PySem.W.Frag→Hp→Addr→List V→Prop
  | true,K,H,a,xs=>SqL K H a xs
  | false,K,H,a,xs=>SqT K H a xs
noncomputable section
variable {X:Cx} {pins:List (Addr × Obj)} {σ:L2.St} {H:Hp} {s:Shared} {a:Addr} {xs ys:List V} {k:Bool}
theorem Sq.row (I:L2.Inv X pins σ H s) (h:Sq k X.K H a xs):∃ its:List Value,Vals xs its∧Dp k s.heap a its.toArray:=by
  cases k with
  | true=>obtain ⟨its,r,p,_⟩:=I.list h; exact ⟨its,r,p.isList⟩
  | false=>obtain ⟨its,r,p,_⟩:=I.tuple h; exact ⟨its,r,p⟩
theorem Sq.inj (I:L2.Inv X pins σ H s) (h:Sq k X.K H a xs) (h':Sq k X.K H a ys):xs=ys:=by
  cases k with
  | true=>exact I.Uq h h'
  | false=>exact I.J3 h h'
theorem Sq.far (I:L2.Inv X pins σ H s) {b:Addr} (h:Sq k X.K H a xs) (f:Ox X pins H b):a≠b:=by
  have held:∀ o,X.K.lookup a=some o→a≠b:=fun o e z=>by
    subst z
    have eb:=I.mod.kin a o e
    rcases f.2.2.2.1 with q | q
    · exact I.ok.noex a o eb q
    · exact absurd (Nat.lt_of_lt_of_le (Heap.lt_size (I.ok.bs a o eb).1) q) (Nat.lt_irrefl _)
  have there:∀ u,Rd H a u→a≠b:=fun u e z=>by
    subst z
    rcases e with e | ⟨o,e⟩ <;> rw [f.1] at e <;> cases e
  cases k with
  | true =>
    rcases h with h | ⟨o,_,_,e,_⟩
    · exact there _ h
    · exact held o e
  | false =>
    rcases h with h | ⟨o,_,_,e,_⟩
    · exact there _ h
    · exact held o e
end
noncomputable def Itz (K:PySem.W.Frag) (k1 k2:Bool) (a1 a2:Addr):It :=
  ⟨fun i H=>∃ xs ys x y,Sq k1 K H a1 xs∧Sq k2 K H a2 ys∧xs[i]? = some x∧ys[i]? = some y,
   fun i H v H'=>∃ p x y,H p=none∧v=.ref p∧H'=upd H p (.tup [x,y])∧(∀ xs,Sq k1 K H a1 xs→xs[i]? = some x)∧∀ ys,Sq k2 K H a2 ys→ys[i]? = some y,
   fun i H=>∃ xs ys,Sq k1 K H a1 xs∧Sq k2 K H a2 ys∧(xs.length≤i∨ys.length≤i)⟩
theorem a0k {P:Program} {w:World} {K:PySem.W.Frag} {elts:List Expr} {x1:Nat} {pos:Pos} {k1 k2:Bool} {a1 a2 z ti to' i1 i2:Addr} (D:Far z ti to' i1 i2) :
    Turn P w K (.Tuple elts x1 pos) (Itz K k1 k2 a1 a2) [z,ti,to',i1,i2] z (fun i h=>Nh h z ti to' i1 i2 .none∧Gz k1 h i1 a1 i∧Gz k2 h i2 a2 i) where
  mem:=by simp
  obj:=fun i h ⟨Z,t1,t2⟩ b hb=>by
    simp only [List.mem_cons,List.not_mem_nil,or_false] at hb -- here
    obtain ⟨zz,its,a,b,kp⟩:=Z
    rcases hb with rfl | rfl | rfl | rfl | rfl
    · exact ⟨_,zz,fun v q=>by cases q⟩
    · exact ⟨_,its,fun v q=>by cases q⟩
    · exact ⟨_,kp,fun v q=>by cases q⟩
    · exact t1.obj
    · exact t2.obj
  keep:=fun i h h' ⟨⟨zz,its,a,b,kp⟩,t1,t2⟩ e=>⟨⟨e z (by simp) _ zz,e ti (by simp) _ its,a,b,e to' (by simp) _ kp⟩,t1.to fun o q=>e i1 (by simp) o q,t2.to fun o q=>e i2 (by simp) o q⟩
  item:=by
    intro X hP hw hK hc i pins s σ H E I hf ⟨Z,t1,t2⟩ ⟨xs,ys,x,y,q1,q2,e1,e2⟩
    subst hP hw hK
    obtain ⟨its1,v1,r1⟩:=q1.row I
    obtain ⟨its2,v2,r2⟩:=q2.row I
    obtain ⟨u1,g1,ru1⟩:=v1.get e1
    obtain ⟨u2,g2,ru2⟩:=v2.get e2
    have f1:∀ b∈[z,ti,to',i1,i2],a1≠b:=fun b hb=>q1.far I (hf b hb)
    have f2:∀ b∈[z,ti,to',i1,i2],a2≠b:=fun b hb=>q2.far I (hf b hb)
    refine a0n D Z t1 t2 r1 r2 ⟨f2 z (by simp),f2 to' (by simp),f2 i1 (by simp),f2 i2 (by simp)⟩ (f1 z (by simp)) (by simpa using g1) (by simpa using g2) fun h' Z' t1' t2' hp kp=>?_
    refine ⟨_,rfl,wpAny_letOwnedTupleGo_zip (s:={ s with heap:=h' }) Z'.zip fun h2 z2 s2=>?_⟩
    obtain ⟨d1,d2,d3,d4,d5,d6,d7,d8,d9,d10⟩:=D.all
    have lt:∀ b∈[z,ti,to',i1,i2],s.heap.objs.size≠b:=fun b hb=>by
      have ob:∃ o,s.heap.get? b=some o:=by
        simp only [List.mem_cons,List.not_mem_nil,or_false] at hb -- here
        obtain ⟨zz,its,a,b',kp⟩:=Z
        rcases hb with rfl | rfl | rfl | rfl | rfl
        · exact ⟨_,zz⟩
        · exact ⟨_,its⟩
        · exact ⟨_,kp⟩
        · exact ⟨_,t1.obj.choose_spec.1⟩
        · exact ⟨_,t2.obj.choose_spec.1⟩
      obtain ⟨o,e⟩:=ob
      exact Nat.ne_of_gt (Heap.lt_size e)
    have pair:IsPair h2 s.heap.objs.size u1 u2:=s2.extBut _ _ (lt z (by simp)) hp
    have J:L2.Inv X pins σ (upd H s.heap.objs.size (.tup [x,y])) { s with heap:=h2,toks:=s.toks }:=Inv.Xl (ch:=[z,ti,to',i1,i2]) I hf (fun b u hb e=>by
      simp only [List.mem_cons,List.not_mem_nil,or_false,not_or] at hb
      exact s2.extBut _ _ hb.1 (kp b u hb.1 hb.2.2.1 hb.2.2.2.1 hb.2.2.2.2 e)) (Nat.le_refl _) ⟨by show 2≤sizeLine; rw [sizeLine_eq]; decide,[u1,u2],.cons ru1 (.cons ru2 .nil),⟨_,pair,rfl,rfl,0,rfl⟩⟩
    refine ⟨.ref s.heap.objs.size,_,J,rfl,⟨s.heap.objs.size,x,y,I.hok.fresh (Nat.le_refl _),rfl,rfl,fun xs' h=>by rw [h.inj I q1]; exact e1,fun ys' h=>by rw [h.inj I q2]; exact e2⟩,?_,fun b hb=>?_⟩
    · obtain ⟨_,its,a,b,kk⟩:=Z'
      exact ⟨⟨z2,s2.extBut _ _ d1 its,a,b,s2.extBut _ _ d2 kk⟩,t1'.to fun o q=>s2.extBut _ _ d3 q,t2'.to fun o q=>s2.extBut _ _ d4 q⟩
    · rw [ql (Ne.symm (lt b hb))]; exact (hf b hb).1
  done:=by
    intro X hP hw hK hc i pins s σ H E I hf ⟨Z,t1,t2⟩ ⟨xs,ys,q1,q2,e⟩
    subst hP hw hK
    obtain ⟨its1,v1,r1⟩:=q1.row I
    obtain ⟨its2,v2,r2⟩:=q2.row I
    have f1:∀ b∈[z,ti,to',i1,i2],a1≠b:=fun b hb=>q1.far I (hf b hb)
    have f2:∀ b∈[z,ti,to',i1,i2],a2≠b:=fun b hb=>q2.far I (hf b hb)
    refine a0b (I.ok.hd hc) D Z t1 t2 r1 r2 ⟨f2 z (by simp),f2 to' (by simp),f2 i1 (by simp),f2 i2 (by simp)⟩ (f1 z (by simp)) ?_ fun h' kp=>⟨rfl,Inv.Xg (t':=s.toks) (ch:=[z,ti,to',i1,i2]) I hf fun b u hb e=>?_⟩
    · have l1:=v1.length
      have l2:=v2.length
      rcases e with e | e
      · exact .inl (by simp; omega)
      · exact .inr (by simp; omega)
    · simp only [List.mem_cons,List.not_mem_nil,or_false,not_or] at hb
      exact kp b u hb.1 hb.2.2.1 hb.2.2.2.1 hb.2.2.2.2 e
  self:=fun _ _ _ _ _ ⟨Z,_⟩ h=>wpAny_pyIter_zip Z.zip h
theorem a2s (n:Nat):Far (n+4) (n+2) (n+3) n (n+1):=⟨by
  have h1:n+4≠n+2:=by omega
  have h2:n+4≠n+3:=by omega
  have h3:n+4≠n:=by omega
  have h4:n+4≠n+1:=by omega
  have h5:n+2≠n+3:=by omega
  have h6:n+2≠n:=by omega
  have h7:n+2≠n+1:=by omega
  have h8:n+3≠n:=by omega
  have h9:n+3≠n+1:=by omega
  have h10:n≠n+1:=by omega
  exact List.nodup_cons.mpr ⟨by simp only [List.mem_cons,List.not_mem_nil,or_false,not_or]; exact ⟨h1,h2,h3,h4⟩,List.nodup_cons.mpr ⟨by simp only [List.mem_cons,List.not_mem_nil,or_false,not_or]; exact ⟨h5,h6,h7⟩,List.nodup_cons.mpr ⟨by simp only [List.mem_cons,List.not_mem_nil,or_false,not_or]; exact ⟨h8,h9⟩,List.nodup_cons.mpr ⟨by simp only [List.mem_cons,List.not_mem_nil,or_false]; exact h10,List.nodup_cons.mpr ⟨by simp,.nil⟩⟩⟩⟩⟩⟩
noncomputable def iZp (K:PySem.W.Frag) (ta:TA):TI:=fun σ H R=>ta σ H fun vs H1=>∃ k1 k2 a1 a2 xs ys,vs=[.ref a1,.ref a2]∧Sq k1 K H1 a1 xs∧Sq k2 K H1 a2 ys∧R (Itz K k1 k2 a1 a2) H1
noncomputable section
variable {X:Cx} {B:Bas} {a b:Expr} {m m1 m2:M T} {pos p:Pos} {elts:List Expr} {x1:Nat} {tpos:Pos}
theorem a7k {ta:TA} (hg:Gl X "zip") (hm:X.mg "zip" = none) (ha:PA X [a,b] ta) (hs:starEach [a,b] X.env=[(false,eval a X.env),(false,eval b X.env)]:=by rfl) (hs2:starEach [b] X.env=[(false,eval b X.env)]:=by rfl) :
    PI X (.Tuple elts x1 tpos) (.Call (.Name "zip" p) [a,b] [] pos) (iZp X.K ta):=by
  intro pins s σ H R I h
  refine Call_ (Lp I hg hm boot_zip (PyProof.Rows.callWith_type1 (thn (ha pos pins s σ H _ I h) fun us s1 z0=>?_) (by rw [hs,hs2]) (by rw [hs2]; rfl)))
  obtain ⟨vs,H1,I1,r1,q1⟩:=z0
  obtain ⟨k1,k2,a1,a2,xs,ys,e,w1,w2,q⟩:=q1
  subst e
  cases r1 with
  | cons r rr =>
    cases rr with
    | cons r' rr =>
      cases rr
      cases r
      cases r'
      obtain ⟨its1,v1,r1⟩:=w1.row I1
      obtain ⟨its2,v2,r2⟩:=w2.row I1
      refine Zt r1 r2 fun h' Z t1 t2 kp=>wpAny_pyIter_zip Z.zip ?_
      have D:Far (s1.heap.objs.size+4) (s1.heap.objs.size+2) (s1.heap.objs.size+3) s1.heap.objs.size (s1.heap.objs.size+1):=a2s s1.heap.objs.size
      refine ⟨_,_,_,_,H1,rfl,I1.kept (t':=s1.toks) kp,a0k D,⟨Z,t1,t2⟩,fun b hb=>?_,q⟩
      have hle:s1.heap.objs.size≤b:=by
        simp only [List.mem_cons,List.not_mem_nil,or_false] at hb -- here
        rcases hb with rfl | rfl | rfl | rfl | rfl
        · exact Nat.le_add_right _ 4
        · exact Nat.le_add_right _ 2
        · exact Nat.le_add_right _ 3
        · exact Nat.le_refl _
        · exact Nat.le_add_right _ 1
      exact I1.a5e hle (I1.hok.fresh hle)
theorem U9 {ts:List T} {s s':Sta} (h:a5r m1 m2 s=some (ts,s')):∃ t u s1 xs ys,m1 s=some (t,s1)∧m2 s1=some (u,s')∧j8 t=some xs∧j8 u=some ys∧xs.length<lim∧ys.length<lim∧ts=a5h xs ys:=by
  unfold a5r at h
  split at h
  · rename_i t s1 e1
    split at h
    · rename_i u s2 e2
      split at h
      · rename_i xs ys e3 e4
        split at h
        · rename_i hl; cases h; exact ⟨t,u,s1,xs,ys,e1,e2,e3,e4,hl.1,hl.2,rfl⟩
        · cases h
      · cases h
    · cases h
  · cases h
theorem a5p:∀ st ts st',a5r m1 m2 st=some (ts,st')→ts.length≤sizeLine:=fun st ts st' e=>by
  obtain ⟨t,u,s1,xs,ys,_,_,_,_,l1,_,rfl⟩:=U9 e
  unfold a5h
  rw [List.length_map,List.length_zip]
  have:=vh
  omega
theorem Zx {xs ys:List T} {i:Nat} {t:T} (h:(a5h xs ys)[i]? = some t):∃ x y,xs[i]? = some x∧ys[i]? = some y∧t=.tup [x,y]:=by
  unfold a5h at h
  rw [List.getElem?_map] at h
  obtain ⟨p,e,rfl⟩:=Option.map_eq_some_iff.mp h
  obtain ⟨e1,e2⟩:=List.getElem?_zip_eq_some.mp e
  exact ⟨p.1,p.2,e1,e2,rfl⟩
theorem W5 {K:PySem.W.Frag} {S:Hp} {as:List Addr} {v:V} {t:T} {xs:List T} (r:Rep K S as v t) (e:j8 t=some xs):∃ k a vs,v=.ref a∧Sq k K S a vs∧yt K S as vs xs∧(k=true∧t=.lst xs∨k=false∧t=.tup xs):=by
  cases r with
  | @lst a vs ts g1 g2=>simp only [j8] at e; cases e; exact ⟨true,a,vs,rfl,g1,g2,.inl ⟨rfl,rfl⟩⟩
  | @tup a vs ts g1 g2=>simp only [j8] at e; cases e; exact ⟨false,a,vs,rfl,g1,g2,.inr ⟨rfl,rfl⟩⟩
  | _=>simp only [j8,reduceCtorEq] at e
theorem Sq.mono {k:Bool} {K:PySem.W.Frag} {S H:Hp} {a:Addr} {vs:List V} (e:Same S H) (h:Sq k K S a vs):Sq k K H a vs:=by
  cases k with
  | true=>exact rm e h
  | false=>exact qd e h
theorem Wu {K:PySem.W.Frag} {S:Hp} {as:List Addr} {a:Addr} {t:T} {xs:List T} {k:Bool} (r:Rep K S as (.ref a) t) (e:k=true∧t=.lst xs∨k=false∧t=.tup xs):∃ vs,Sq k K S a vs∧yt K S as vs xs:=by
  rcases e with ⟨rfl,rfl⟩ | ⟨rfl,rfl⟩
  · cases r with
    | lst g1 g2=>exact ⟨_,g1,g2⟩
  · cases r with
    | tup g1 g2=>exact ⟨_,g1,g2⟩
theorem a7q (hg:Gl X "zip") (hm:X.mg "zip" = none) (h1:PE X a (tOf X.K B m1)) (h2:PE X b (tOf X.K B m2)) (hs:starEach [a,b] X.env=[(false,eval a X.env),(false,eval b X.env)]:=by rfl) (hs2:starEach [b] X.env=[(false,eval b X.env)]:=by rfl) :
    PI X (.Tuple elts x1 tpos) (.Call (.Name "zip" p) [a,b] [] pos) (iOf X.K B (a5r m1 m2)):=by
  intro pins s σ H R I hw
  refine a7k (ta:=Qi (tOf X.K B m1) (Qi (tOf X.K B m2) a5d)) hg hm (qp h1 (qp h2 vf (by rw [hs2]; rfl)) (by rw [hs,hs2])) hs hs2 pins s σ H R I ?_
  obtain ⟨st,ps,S,as,Rl,ts,st',e,hz,q⟩:=hw
  obtain ⟨t,u,s1,xs,ys,e1,e2,e3,e4,l1,l2,rfl⟩:=U9 e
  refine ⟨st,ps,S,as,Rl,t,s1,e1,fun v H1 S1 as1 R1=>⟨s1,_,S1,as1,R1,u,st',e2,fun v2 H2 S2 as2 R2=>?_⟩⟩
  obtain ⟨k1,a1,vs1,rfl,w1,p1,c1⟩:=W5 R2.top2 e3
  obtain ⟨k2,a2,vs2,rfl,w2,p2,c2⟩:=W5 R2.top e4
  refine ⟨k1,k2,a1,a2,vs1,vs2,rfl,w1.mono R2.sub,w2.mono R2.sub,q _ H2 S2 as2 [(.ref a2,u),(.ref a1,t)] R2 fun S3 as3 H3 hp hh=>?_⟩
  obtain ⟨us1,y1,z1⟩:=Wu (hp (.ref a1,t) (by simp)) c1
  obtain ⟨us2,y2,z2⟩:=Wu (hp (.ref a2,u) (by simp)) c2
  refine ⟨fun i tt et=>?_,fun i hi=>⟨us1,us2,y1.mono hh,y2.mono hh,?_⟩⟩
  · obtain ⟨x,y,f1,f2,rfl⟩:=Zx et
    obtain ⟨vx,gx,rx⟩:=z1.get f1
    obtain ⟨vy,gy,ry⟩:=z2.get f2
    refine ⟨⟨us1,us2,vx,vy,y1.mono hh,y2.mono hh,gx,gy⟩,fun v H' z0=>?_⟩
    obtain ⟨pp,x',y',hn,hv,hH,b1,b2⟩:=z0
    have c1:=b1 _ (y1.mono hh)
    have c2:=b2 _ (y2.mono hh)
    rw [gx] at c1; rw [gy] at c2
    cases c1; cases c2
    subst hv hH
    have x:=Ext.laid hh hn (.tup [vx,vy])
    exact ⟨_,x,.tup (SqT.of kj) (.cons (rx.mono x.s nol) (.cons (ry.mono x.s nol) .nil))⟩
  · rw [z1.length,z2.length]
    unfold a5h at hi
    rw [List.length_map,List.length_zip] at hi
    omega
end
end C
end
noncomputable section
set_option linter.all false
set_option maxRecDepth 100000
set_option maxHeartbeats 4000002
set_option autoImplicit false
namespace C
open PySem PySem.Spec PyProof.Rows L2
noncomputable section
variable {X:Cx}
variable {B:Bas} {o e:Expr} {m1 m2:M T} {apos cpos:Pos}
end
end C
end
noncomputable section
set_option linter.all false
set_option maxRecDepth 100000
set_option maxHeartbeats 4000002
set_option autoImplicit false
namespace C
open PySem PySem.Spec PyProof.Rows L2
theorem Sy (n d:Nat) (o:Option Int):sIx n d o=HT.sIx n d o:=by cases o <;> rfl
inductive oOf (K:PySem.W.Frag) (B:Bas) (m:M (Option Int)) (σ:L2.St) (H:Hp) (Q:Option Int→Hp→Prop):Prop
  | mk (st:Sta) (ps:List (V × T)) (S:Hp) (as:List Addr) (R:Rel K B st σ H ps S as) (o:Option Int) (st':Sta) (e:m st=some (o,st')) (q:∀ H' S' as',Rel K B st' σ H' ps S' as'→Q o H')
noncomputable section
variable {X:Cx} {B:Bas} {a e:Expr} {m:M T} {ml mh:M (Option Int)} {lo hi:Option Expr} {pos p2:Pos}
theorem zj:PO X none (oOf X.K B wg):=fun pins s σ H Q I ⟨st,ps,S,as,R,o,st',e,q⟩=>a3g pins s σ H Q I (by cases e; exact q H S as R)
theorem w6 (h:PE X e (tOf X.K B m)):PO X (some e) (oOf X.K B (ur m)):=fun pins s σ H Q I z9=>a4b h pins s σ H Q I (by
  obtain ⟨st,ps,S,as,R,o,st',eo,q⟩:=z9
  unfold ur at eo
  split at eo
  · rename_i i s1 e1
    cases eo
    refine ⟨st,ps,S,as,R,.int i,_,e1,fun v H1 S1 as1 R1=>?_⟩
    cases R1.top
    exact ⟨i,rfl,q H1 S1 as1 R1.drop⟩
  · cases eo)
theorem Vr {s s':Sta} {v:T} (h:qb m ml mh s=some (v,s')):∃ t s1 l s2 u,m s=some (t,s1)∧ml s1=some (l,s2)∧mh s2=some (u,s')∧Wk l u t=some v:=by
  unfold qb at h
  split at h
  · rename_i t s1 e1
    split at h
    · rename_i l s2 e2
      split at h
      · rename_i u s3 e3
        split at h
        · rename_i w e4; cases h; exact ⟨t,s1,l,s2,u,e1,e2,e3,e4⟩
        · cases h
      · cases h
    · cases h
  · cases h
theorem yt.takes {K:PySem.W.Frag} {S:Hp} {as:List Addr}:∀ (n:Nat) {vs:List V} {ts:List T},yt K S as vs ts→yt K S as (vs.take n) (ts.take n)
  | 0,_,_,_=>.nil
  | _+1,_,_,.nil=>.nil
  | n+1,_,_,.cons h r=>.cons h (yt.takes n r)
theorem Tn {K:PySem.W.Frag} {S:Hp} {as:List Addr} {vs:List V} {ts:List T} (r:yt K S as vs ts) (lo hi:Option Int):yt K S as (Vw vs lo hi) (Ym ts lo hi):=by
  unfold Vw Ym
  rw [Sy,Sy,r.length]
  exact yt.takes _ (r.drop _)
theorem ux (ha:PE X a (tOf X.K B m)) (hl:PO X lo (oOf X.K B ml)) (hh:PO X hi (oOf X.K B mh)):PE X (.Subscript a (.Slice lo hi none p2) pos) (tOf X.K B (qb m ml mh)) :=
  (a03 (a2q.or a6g) ha hl hh).imp fun σ H Q z9=>by
    obtain ⟨st,ps,S,as,R,t,st',e,q⟩:=z9
    obtain ⟨t1,s1,l,s2,u,e1,e2,e3,e4⟩:=Vr e
    refine ⟨st,ps,S,as,R,t1,s1,e1,fun v H1 S1 as1 R1=>⟨s1,_,S1,as1,R1,l,s2,e2,fun H2 S2 as2 R2=>⟨s2,_,S2,as2,R2,u,st',e3,fun H3 S3 as3 R3=>?_⟩⟩⟩
    have top:=R3.top
    cases top with
    | @lst b vs ts g1 g2 =>
      simp only [Wk] at e4; cases e4
      refine .inl ⟨b,vs,rfl,rm R3.sub g1,fun p hp=>?_⟩
      have x:=Ext.laid R3.sub hp (.lst (Vw vs l u))
      exact q _ _ _ _ ((R3.drop.ext x).push (.lst (SqL.of kj) ((Tn g2 l u).mono x.s nol)))
    | @tup b vs ts g1 g2 =>
      simp only [Wk] at e4
      split at e4
      · cases e4
      · rename_i hw
        cases e4
        refine .inr ⟨b,vs,rfl,qd R3.sub g1,?_,fun p hp=>?_⟩
        · rw [Sy,Sy,← g2.length] at hw; exact hw
        · have x:=Ext.laid R3.sub hp (.tup (Vw vs l u))
          exact q _ _ _ _ ((R3.drop.ext x).push (.tup (SqT.of kj) ((Tn g2 l u).mono x.s nol)))
    | _=>simp only [Wk,reduceCtorEq] at e4
end
noncomputable section
variable {prog:Program} {w:World} {A:Around} {E:Value→Shared→Prop} {s:Shared}
theorem Oi {sl:Addr} {t:Tok} {n:Nat} {Q:Int × Int × Nat→Shared→Prop} (hs:s.heap.IsSliceOf sl .none .none (.int (-1) t)) (h:Q ((n:Int) - 1,-1,n) s):wpAny (model prog w) A (Builtin.Slice.sliceApplied (.ref sl) (pure (n:Int))) Q E s:=by
  obtain ⟨os,g1,g2,g3⟩:=id hs
  have ea:Builtin.Slice.sliceAdjust none none (-1) (n:Int)=((n:Int) - 1,-1):=by
    unfold Builtin.Slice.sliceAdjust
    simp
  have en:Builtin.Slice.slicePlaces ((n:Int) - 1) (-1) (-1)=n:=by
    unfold Builtin.Slice.slicePlaces
    have h1:¬ ((-1:Int) > 0):=by decide -- here
    rw [if_neg h1]
    split
    · first
      | (simp; done)
      | (simp; omega)
    · omega
  unfold Builtin.Slice.sliceApplied Builtin.Slice.sliceFields
  refine wpAny_bind (wpAny_bind (wpAny_field g1 g3 (x:=.none) rfl (wpAny_bind (wpAny_field g1 g3 (x:=.none) rfl (wpAny_bind (wpAny_field g1 g3 (x:=.int (-1) t) rfl (wpAny_pure ?_)))))))
  refine wpAny_bind (HT.Ds (.int (-1) t) ?_)
  refine (show wpAny _ _ (if ((-1:Int)==0)=true then _ else _) _ _ s from ?_)
  rw [if_neg (by decide)]
  refine wpAny_bind (HT.Ds .none (wpAny_bind (HT.Ds .none (wpAny_bind (wpAny_pure ?_)))))
  refine (show wpAny _ _ (match Builtin.Slice.sliceAdjust none none (-1) (n:Int) with | (lo,hi)=>pure (lo,(-1:Int),Builtin.Slice.slicePlaces lo hi (-1))) _ _ s from ?_)
  rw [ea]
  refine (show wpAny _ _ (pure ((n:Int) - 1,(-1:Int),Builtin.Slice.slicePlaces ((n:Int) - 1) (-1) (-1))) _ _ s from ?_)
  rw [en]
  exact wpAny_pure h
theorem a73 {α β:Type} {f g:α→Option β}:∀ {l:List α},(∀ a∈l,f a=g a)→l.filterMap f=l.filterMap g
  | [],_=>rfl
  | a::l,h=>by rw [List.filterMap_cons,List.filterMap_cons,h a List.mem_cons_self,a73 fun b hb=>h b (List.mem_cons_of_mem _ hb)]
theorem Xm (xs:Array Value):((List.range xs.size).filterMap fun (m:Nat)=>xs[(((xs.size:Nat):Int) - 1+(m:Int) * (-1)).toNat]?)=xs.toList.reverse:=by
  have e:∀ m∈List.range xs.size,xs[(((xs.size:Nat):Int) - 1+(m:Int) * (-1)).toNat]? = some (xs.toList.reverse.getD m .none):=fun m hm=>by
    have hm:=List.mem_range.mp hm
    have e1:(((xs.size:Nat):Int) - 1+(m:Int) * (-1)).toNat=xs.size - 1 - m:=by omega
    rw [e1,List.getD_eq_getElem?_getD,List.getElem?_reverse (by rw [Array.length_toList]; exact hm),Array.getElem?_toList,Array.length_toList,Array.getElem?_eq_getElem (by omega)]
    rfl
  rw [a73 e]
  rw [show (fun (x:Nat)=>some (xs.toList.reverse.getD x Value.none))=some ∘ fun x=>xs.toList.reverse.getD x .none from rfl,List.filterMap_eq_map]
  apply List.ext_getElem
  · simp
  · intro i h1 h2
    simp [List.getD_eq_getElem?_getD,List.getElem?_eq_getElem h2]
theorem Uv {t sl:Addr} {k:Tok} {items:Array Value} {Q:Value→Shared→Prop} (ht:IsTup s.heap t items) (hs:s.heap.IsSliceOf sl .none .none (.int (-1) k))
    (h:Q (.ref s.heap.objs.size) { s with heap:=s.heap.push { cls:=.type "tuple",data:=.seq items.toList.reverse.toArray } }) (hsz:items.size≤sizeLine):wpAny (model prog w) A (getItem (.ref t) (.ref sl)) Q E s:=by
  have hz:sizeOk (.seq items.toList.reverse.toArray):=by
    show items.toList.reverse.toArray.size≤sizeLine
    rw [List.size_toArray,List.length_reverse,Array.length_toList]; exact hsz
  obtain ⟨os,g1,g2,g3⟩:=id hs
  have ty:s.TypeIs (.ref sl) "slice" := ⟨os,g1,g2⟩
  unfold getItem
  try with_reducible refine wpAny_holding ?_
  first | refine wpAny_bind (wpAny_pure ?_) | skip
  refine wpAny_bind (wpAny_sequenceKey ht.typeIs (by decide) (wpAny_bind (wpAny_callSpecial?_slot (name:=Str.ofString "__getitem__") ht.typeIs PyProof.Rows.slot_tuple_getitem
    (wpAny_call_entry PyProof.Rows.slot_tuple_getitem ht.typeIs entry_tuple_getitem ?_ (args_tuple_getitem _ _)))))
  refine (show wpAny _ _ (Builtin.Tuple.tupleItemsOf (.ref t) >>= _) _ _ s from wpAny_bind (tupleItemsOf_ ht (wpAny_bind (wpAny_typeOf ty ?_))))
  rw [if_pos (by decide)]
  refine wpAny_bind (Oi hs ?_)
  refine (show wpAny _ _ (if ((((items.size:Nat):Int) - 1)==0&&(-1:Int)==1&&items.size==items.size)=true then _ else _) _ _ s from ?_)
  rw [if_neg (by rw [show ((-1:Int)==1)=false from rfl,Bool.and_false,Bool.false_and]; exact Bool.false_ne_true),Xm]
  first
    | exact wpAny_bind (m:=Builtin.Tuple.tupleExact _) (wpAny_newObj_type (wpAny_pure ⟨_,rfl,wpAny_pure h⟩) hz)
    | exact wpAny_bind (m:=Builtin.Tuple.tupleExact _) (wpAny_newObj_type (wpAny_bind (wpAny_pure (wpAny_pure ⟨_,rfl,wpAny_pure h⟩))) hz)
    | exact wpAny_bind (wpAny_bind (m:=Builtin.Tuple.tupleExact _) (wpAny_newObj_type (wpAny_pure (wpAny_pure ⟨_,rfl,wpAny_pure h⟩)) hz))
    | exact wpAny_bind (wpAny_bind (m:=Builtin.Tuple.tupleExact _) (wpAny_newObj_type (wpAny_pure ⟨_,rfl,wpAny_pure h⟩) hz))
end
noncomputable section
variable {X:Cx} {B:Bas} {e:Expr} {te:TE} {m m1 m2:M T} {pos p p2 p3 p4:Pos} {j:Nat}
noncomputable def a8r (K:PySem.W.Frag):V→Hp→VK→Prop:=fun x H Q=>∃ a xs,x=.ref a∧((SqL K H a xs∧∀ p,H p=none→Q (.ref p) (upd H p (.lst xs.reverse)))∨(SqT K H a xs∧∀ p,H p=none→Q (.ref p) (upd H p (.tup xs.reverse))))
theorem a4p:PE X (.UnaryOp .USub (.Constant (.int 1) j p4) p3) (tC (.int (-1))):=(a7a a1o a2c).imp fun σ H Q q=>⟨1,rfl,q⟩
theorem Yn (he:PE X e te):PE X (.Subscript e (.Slice none none (some (.UnaryOp .USub (.Constant (.int 1) j p4) p3)) p2) pos) (fun σ H Q=>te σ H fun x H1=>a8r X.K x H1 Q):=by
  intro pins s σ H Q I h
  refine Subscript_ (thn (he pins s σ H _ I h) fun v s1 z0=>?_)
  obtain ⟨x,H1,I1,r1,q1⟩:=z0
  refine wpAny_Slice ?_
  rw [evalPart_none]
  refine wpAny_pure (wpAny_pure ?_) -- here
  rw [evalPart_some]
  refine thn (a4p pins s1 σ H1 (fun v H2=>v=.int (-1)∧H2=H1) I1 ⟨rfl,rfl⟩) fun vk s2 z0=>?_
  obtain ⟨y,H2,I2,r2,ey,eH⟩:=z0
  subst ey eH
  obtain ⟨t,rfl⟩:=r2
  obtain ⟨a,xs,rfl,hx⟩:=q1
  cases r1
  have I4:L2.Inv X pins σ H2 { s2 with heap:=s2.heap.push { cls:=.type "slice",data:=.fields #[.none,.none,.int (-1) t] } }:=I2.kept (t':=s2.toks) fun b ob q=>Heap.get?_push_of_some _ q
  rcases hx with ⟨hx,q⟩ | ⟨hx,q⟩
  · obtain ⟨its,r,ht,hz⟩:=I4.list hx
    have hlen:=r.length
    refine tail_any (ops:=[.ref a,.ref s2.heap.objs.size]) (T := "list") ht.isList.typeIs slot_list_getitem.lookup ?_ (by with_unfolding_all rfl)
    refine wpAny_getItem_list_slice ht.isList (Heap.IsSliceOf.new ..) .none .none (.int (-1) t) (by decide) ?_ (by rw [List.size_toArray] <;> omega)
    rw [PySem.W.krv_pick]
    refine ⟨.ref _,_,I4.laid (t':=s2.toks) (o:=.lst xs.reverse) (fun b ob q=>Heap.get?_push_of_some _ q) (Nat.le_refl _) ?_,rfl,q _ (I4.hok.fresh (Nat.le_refl _))⟩
    exact ⟨by rw [List.length_reverse]; exact hz,_,0,by simpa using r.reverse,Heap.get?_push_size _ rfl⟩
  · obtain ⟨its,r,ht,hz⟩:=I4.tuple hx
    have hlen:=r.length
    refine tail_any (ops:=[.ref a,.ref s2.heap.objs.size]) (T := "tuple") ht.typeIs PyProof.Rows.slot_tuple_getitem.lookup ?_ (by with_unfolding_all rfl)
    refine Uv ht (Heap.IsSliceOf.new ..) ?_ (by rw [List.size_toArray] <;> omega)
    refine ⟨.ref _,_,I4.laid (t':=s2.toks) (o:=.tup xs.reverse) (fun b ob q=>Heap.get?_push_of_some _ q) (Nat.le_refl _) ?_,rfl,q _ (I4.hok.fresh (Nat.le_refl _))⟩
    exact ⟨by rw [List.length_reverse]; exact hz,its.reverse,r.reverse,Yx.new _ its.reverse.toArray⟩
theorem a3o (ha:PE X e (tOf X.K B m)):PE X (.Subscript e (.Slice none none (some (.UnaryOp .USub (.Constant (.int 1) j p4) p3)) p2) pos) (tOf X.K B (mUn Z0 m)) :=
  (Yn ha).imp fun σ H Q z9=>by
    obtain ⟨st,ps,S,as,R,t,st',e,q⟩:=z9
    obtain ⟨t1,e1,e3⟩:=Qu e
    refine ⟨st,ps,S,as,R,t1,st',e1,fun v H1 S1 as1 R1=>?_⟩
    have top:=R1.top
    cases top with
    | @lst a vs ts g1 g2 =>
      simp only [Z0] at e3; cases e3
      refine ⟨a,vs,rfl,.inl ⟨rm R1.sub g1,fun p hp=>?_⟩⟩
      have x:=Ext.laid R1.sub hp (.lst vs.reverse)
      exact q _ _ _ _ ((R1.drop.ext x).push (.lst (SqL.of kj) (g2.reverse.mono x.s nol)))
    | @tup a vs ts g1 g2 =>
      simp only [Z0] at e3; cases e3
      refine ⟨a,vs,rfl,.inr ⟨qd R1.sub g1,fun p hp=>?_⟩⟩
      have x:=Ext.laid R1.sub hp (.tup vs.reverse)
      exact q _ _ _ _ ((R1.drop.ext x).push (.tup (SqT.of kj) (g2.reverse.mono x.s nol)))
    | _=>simp only [Z0,reduceCtorEq] at e3
theorem a3t (ha:PE X e (tOf X.K B m)):PE X (.Subscript e (.Slice none none (some (.UnaryOp .USub (.Constant (.int 1) j p4) p3)) p2) pos) (fOf X.K B (mUn a6w m)) :=
  (Yn ha).imp fun σ H Q z9=>by
    obtain ⟨st,ps,S,as,R,t,st',e,q⟩:=z9
    obtain ⟨t1,e1,e3⟩:=Qu e
    refine ⟨st,ps,S,as,R,t1,st',e1,fun v H1 S1 as1 R1=>?_⟩
    have top:=R1.top
    cases top with
    | @lst a vs ts g1 g2 =>
      simp only [a6w] at e3; cases e3
      refine ⟨a,vs,rfl,.inl ⟨rm R1.sub g1,fun p hp=>?_⟩⟩
      obtain ⟨bD,sD,nD,no⟩:=R1.fresh hp
      exact q p _ S1 as1 (R1.drop.a2d bD sD nD (fun j w e1 e2=>no j w e1 e2)) ⟨⟨vs.reverse,kj,g2.reverse⟩,sD,nD,bD⟩ (fun j w e1 e2=>no j w e1 e2)
    | _=>simp only [a6w,reduceCtorEq] at e3
theorem Hi:OpT X (compareOp .IsNot) Ge:=by
  intro pins s σ H x y v u Q I rx ry z8
  obtain ⟨S,as,t,t2,w,sub,ht,hu2,hf,q⟩:=z8
  cases hu2 <;> simp only [Ge,isC,reduceCtorEq] at hf
  · cases hf
    have e:decide (x=V.non)=Nk t:=by cases ht <;> rfl
    exact a3e pins s σ H x _ v u Q I rx ry ⟨rfl,by rw [e]; exact q _ H S (Ext.refl sub) (.bl _)⟩
  · rename_i b
    cases hf
    cases ry
    have fin:∀ k:Bool,(!a98 b t)=k→EP X pins σ Q (.bool k) s:=fun k hk=>⟨.bl k,H,I,rfl,by rw [← hk]; exact q _ H S (Ext.refl sub) (.bl _)⟩
    cases ht with
    | bl k=>cases rx; exact wpAny_isNot_plain rfl (fin _ (by cases k <;> cases b <;> rfl))
    | non=>cases rx; exact wpAny_isNot_plain rfl (fin _ rfl)
    | int i=>obtain ⟨tk,rfl⟩:=rx; exact wpAny_isNot_plain rfl (fin _ rfl)
    | str z=>obtain ⟨tk,rfl⟩:=rx; exact wpAny_isNot_plain rfl (fin _ rfl)
    | tup=>cases rx; exact wpAny_isNot_plain rfl (fin _ rfl)
    | lst=>cases rx; exact wpAny_isNot_plain rfl (fin _ rfl)
    | dic=>cases rx; exact wpAny_isNot_plain rfl (fin _ rfl)
    | obj=>cases rx; exact wpAny_isNot_plain rfl (fin _ rfl)
theorem Z9 {x:Str} {i:Int} (hg:Gl X x) (h:∃ tk,X.mg x=some (.int i tk)) (hd:(x==("__debug__" : Str))=false:=by decide):PE X (.Name x pos) (tOf X.K B (aq (.int i))):=by
  obtain ⟨tk,h⟩:=h
  exact Gk (v:=.int i) (a4e hg h (show RelV (.int i) _ from ⟨tk,rfl⟩) hd) fun _ _=>.int i
theorem Ls {a:Expr} {pc:Pos} (hg:Gl X "isinstance") (hm:X.mg "isinstance" = none) (hg2:Gl X "str") (hm2:X.mg "str" = none) (ha:PE X a (tOf X.K B m)) (he:starEach [a,.Name "str" pc] X.env=(false,eval a X.env)::starEach [.Name "str" pc] X.env:=by rfl) :
    PE X (.Call (.Name "isinstance" p) [a,.Name "str" pc] [] pos) (tOf X.K B (gk isStr (aj m dz))):=by
  rw [show isStr=_ from funext Zb]
  exact Td (cn := "str") hg hm hg2 hm2 Yg (fun t ty h=>by cases t <;> cases h <;> rfl) ha (by decide) (by decide) he
end
end C
end
noncomputable section
set_option linter.all false
set_option autoImplicit false
namespace C
open PySem PySem.Spec L2
noncomputable def Held (K:PySem.W.Frag) (u:Value) (t:T):Prop:=∃ v,RelV v u∧∀ S as,Rep K S as v t
noncomputable def Py (K:PySem.W.Frag) (us:List Value) (ts:List T):Prop:=∃ vs,Vals vs us∧∀ S as,yt K S as vs ts
noncomputable section
variable {K:PySem.W.Frag}
theorem Held.int {i:Int} {tk:Tok}:Held K (.int i tk) (.int i):=⟨.int i,⟨tk,rfl⟩,fun _ _=>.int i⟩
theorem Held.str {x:Str} {tk:Tok}:Held K (.str x tk) (.str x):=⟨.str x,⟨tk,rfl⟩,fun _ _=>.str x⟩
theorem Held.bl {b:Bool}:Held K (.bool b) (.bl b):=⟨.bl b,rfl,fun _ _=>.bl b⟩
theorem Held.non:Held K .none .non:=⟨.non,rfl,fun _ _=>.non⟩
theorem Py.nil:Py K [] []:=⟨[],.nil,fun _ _=>.nil⟩
theorem Py.cons {u:Value} {t:T} {us:List Value} {ts:List T} (h:Held K u t) (hs:Py K us ts):Py K (u::us) (t::ts):=by
  obtain ⟨v,r,e⟩:=h
  obtain ⟨vs,rs,es⟩:=hs
  exact ⟨v::vs,.cons r rs,fun S as=>.cons (e S as) (es S as)⟩
theorem Held.tup {a:Addr} {us:List Value} {n:Nat} {sl:Array (Option Value)} {ts:List T} (h:K.lookup a=some ⟨.type "tuple",none,.seq us.toArray n,sl⟩) (hz:us.length≤1000) (hs:Py K us ts):Held K (.ref a) (.tup ts):=by
  obtain ⟨vs,rs,es⟩:=hs
  refine ⟨.ref a,rfl,fun S as=>.tup (.inr ⟨_,us.toArray,n,h,rfl,rfl,rfl,?_,?_⟩) (es S as)⟩
  · rw [List.size_toArray,sizeLine_eq]; omega
  · exact rs
theorem Held.lst {a:Addr} {us:List Value} {n:Nat} {sl:Array (Option Value)} {ts:List T} (h:K.lookup a=some ⟨.type "list",none,.seq us.toArray n,sl⟩) (hz:us.length≤1000) (hs:Py K us ts):Held K (.ref a) (.lst ts):=by
  obtain ⟨vs,rs,es⟩:=hs
  refine ⟨.ref a,rfl,fun S as=>.lst (.inr ⟨_,us.toArray,n,h,rfl,rfl,rfl,?_,?_⟩) (es S as)⟩
  · rw [List.size_toArray,sizeLine_eq]; omega
  · exact rs
end
noncomputable section
variable {X:Cx} {B:Bas} {pos:Pos}
end
end C
end
noncomputable section
set_option linter.all false
set_option maxRecDepth 100000
set_option autoImplicit false
namespace C
open PySem L2
variable {X:Cx} {B:Bas}
theorem a3w {i j k:Nat} {tg:Expr} (h:PG X tg (a7w X.K 2 (Vg (Hz i) (Vg (a7w X.K 2 (Vg (Hz j) (Vg (Hz k) a7u))) a7u)))):PG X tg (gOf X.K B (Yq i j k)):=fun pins s σ H x u Q I r z=>h pins s σ H x u Q I r (by
  obtain ⟨st,ps,S,as,t,R,st',e,q⟩:=z
  have top:=R.top
  unfold Yq at e
  split at e
  · cases e
    cases top with
    | @tup a vs _ g1 g2 =>
      cases g2 with
      | cons r1 g2 =>
        cases g2 with
        | cons r2 g2 =>
          cases g2
          cases r2 with
          | @tup a2 vs2 _ g3 g4 =>
            cases g4 with
            | cons r3 g4 =>
              cases g4 with
              | cons r4 g4 =>
                cases g4
                refine ⟨a,_,rfl,qd R.sub g1,rfl,_,_,rfl,_,_,rfl,⟨a2,_,rfl,qd R.sub g3,rfl,_,_,rfl,_,_,rfl,rfl,?_⟩⟩
                exact ⟨rfl,q _ H S as (((R.drop.put (i:=i) r1).put (i:=j) r3).put (i:=k) r4)⟩
  · cases e)
end C
end
noncomputable section
set_option linter.all false
set_option maxRecDepth 100000
set_option maxHeartbeats 4000002
set_option autoImplicit false
namespace C
open PySem PySem.Spec PyProof.Rows L2
noncomputable section
variable {X:Cx} {B:Bas} {a:Expr} {m:M T} {pos p:Pos} {elts:List Expr} {x1:Nat} {tpos:Pos}
theorem Yl {xs:List T} {i:Nat} {t:T} (h:(Pz xs)[i]? = some t):∃ x,xs[i]? = some x∧t=.tup [.int (i:Int),x]:=by
  unfold Pz at h
  rw [List.getElem?_map,List.getElem?_zipIdx] at h
  cases q:xs[i]? with
  | none=>rw [q] at h; cases h
  | some x=>rw [q] at h; simp at h; exact ⟨x,rfl,h.symm⟩
end
end C
end
noncomputable section
set_option linter.all false
set_option maxRecDepth 100000
set_option maxHeartbeats 4000002
set_option autoImplicit false
namespace C
open PySem PySem.Spec PyProof.Rows L2
open AutoSeq1 (wpAny_loadPart') -- here
theorem a7p {prog:Program} {w:World} {A:Around} (nh:A.handled=none) (it t:Addr) (hne:t≠it) (xs:Array Value) :
    Draws prog w A it [it,t] xs.size (fun i v=>xs[i]? = some v) (fun i h=>h.IsTupleIter it t i∧h.IsTuple t xs) where
  live:=fun i h ⟨⟨o,e,_⟩,_⟩=>⟨o,e⟩
  frame:=fun i h h' ⟨x,y⟩ k=>⟨x.at fun o e=>k it (by simp) o e,by obtain ⟨o,e,r⟩:=y; exact ⟨o,k t (by simp) o e,r⟩⟩
  item:=fun i s Q E hi ⟨x,y⟩ q=>nextT x y (Array.getElem?_eq_getElem hi) fun h' x' sm=>q _ h' s.toks (Array.getElem?_eq_getElem hi) ⟨x',by obtain ⟨o,e,r⟩:=y; exact ⟨o,(sm.2 t hne).trans e,r⟩⟩ sm
  done:=fun s Q E ⟨x,y⟩ q=>Jt nh x y (Array.getElem?_eq_none (Nat.le_refl _)) q
theorem Qj (l:Addr) (xs:Array Value) :
    Meets (Builtin.«enumerate.__new__» ⟨[.type "enumerate",.ref l],[]⟩) (fun _ R s=>s.heap.IsTuple l xs ∧
      R (.ok (.ret (.ref (s.heap.push { cls:=.type "tuple_iterator",data:=.fields #[.ref l,.int 0 0] }).objs.size)))
        { s with heap:=(s.heap.push { cls:=.type "tuple_iterator",data:=.fields #[.ref l,.int 0 0] }).push { cls:=.type "enumerate",data:=.fields #[.none,.bool false,.ref s.heap.objs.size,rawInt 0,.none,.none] } }) :=
  .of_wp fun prog w A R s h=>by
    obtain ⟨hp,g,d,tk,os⟩:=s -- here
    obtain ⟨hL,h⟩:=h
    have s1:=sub_enumerate
    have hL':Heap.IsTuple (Shared.heap ⟨hp,g,d,tk,os⟩) l xs:=hL
    obtain ⟨⟨c,dct,dt,sl⟩,hl,hc,n,hd⟩:=hL -- here
    simp only at hc hd
    subst hc hd
    wp_walk using wpAny_loadPart' hl -- here
    refine wpAny_stack_any fun st=>wpAny_pure ?_ -- here
    split
    · rename_i c _ _ _ _ _
      cases (c==Value.type "enumerate") -- here
      · wp_walk using wpAny_loadPart' hl,wpAny_pyIter_tuple hL'
        exact ⟨_,rfl,h⟩
      · wp_walk using wpAny_loadPart' hl,wpAny_pyIter_tuple hL'
        exact ⟨_,rfl,h⟩
    · wp_walk using wpAny_loadPart' hl,wpAny_pyIter_tuple hL'
      exact ⟨_,rfl,h⟩
noncomputable section
variable {prog:Program} {w:World} {A:Around} {E:Value→Shared→Prop} {s:Shared}
theorem Uz {l:Addr} {xs:Array Value} {Q:Value→Shared→Prop} (hL:s.heap.IsTuple l xs)
    (q:∀ h',IsEnum h' (s.heap.objs.size+1) s.heap.objs.size 0 .none→h'.IsTupleIter s.heap.objs.size l 0→(∀ b o,s.heap.get? b=some o→h'.get? b=some o)→Q (.ref (s.heap.objs.size+1)) { s with heap:=h' }) :
    wpAny (model prog w) A (call (.type "enumerate") [.ref l]) Q E s:=by -- here
  generalize hi:({ cls:=.type "tuple_iterator",data:=.fields #[.ref l,.int 0 0] }:Obj)=oi
  generalize hE:({ cls:=.type "enumerate",data:=.fields #[.none,.bool false,.ref s.heap.objs.size,rawInt 0,.none,.none] }:Obj)=oe
  have hz:(s.heap.push oi).objs.size=s.heap.objs.size+1:=Heap.size_push ..
  have he:((s.heap.push oi).push oe).get? (s.heap.objs.size+1)=some oe:=by
    rw [← hz]; subst hE; exact Heap.get?_push_size _ rfl
  have hI:((s.heap.push oi).push oe).get? s.heap.objs.size=some oi:=Heap.get?_push_of_some _ (by subst hi; exact Heap.get?_push_size _ rfl)
  refine callType_new F.called_enumerate (by decide) (F.typeCall_enumerate_1 _) (F.newCall_enumerate_1 _) (fun ob=>F.args_object_init_2 ob _) F.entry_enumerate_new (Qj l xs) ⟨hL,?_⟩
  change _∧_
  rw [hi,hE,hz]
  refine ⟨⟨oe,he,by subst hE; rfl⟩,q _ (by subst hE; exact he) ⟨oi,hI,by subst hi; rfl,by subst hi; rfl⟩ fun b o x=>Heap.get?_push_of_some _ (Heap.get?_push_of_some _ x)⟩
end
noncomputable def a94 (K:PySem.W.Frag) (a:Addr):It :=
  ⟨fun i H=>∃ xs x,SqT K H a xs∧xs[i]? = some x,fun i H v H'=>∃ p x,H p=none∧v=.ref p∧H'=upd H p (.tup [.int (i:Int),x])∧∀ xs,SqT K H a xs→xs[i]? = some x,fun i H=>∃ xs,SqT K H a xs∧xs.length≤i⟩
theorem Zd {P:Program} {w:World} {K:PySem.W.Frag} {elts:List Expr} {x1:Nat} {pos:Pos} {a e it:Addr} (hne:e≠it) :
    Turn P w K (.Tuple elts x1 pos) (a94 K a) [e,it] e (fun i h=>(∃ old,IsEnum h e it (i:Int) old)∧h.IsTupleIter it a i) where
  mem:=by simp
  obj:=fun i h ⟨⟨old,he⟩,t⟩ b hb=>by
    simp only [List.mem_cons,List.not_mem_nil,or_false] at hb -- here
    rcases hb with rfl | rfl
    · exact ⟨_,he,fun v q=>by cases q⟩
    · obtain ⟨o,e,c,d⟩:=t
      exact ⟨o,e,fun v z=>by rw [d] at z; cases z⟩
  keep:=fun i h h' ⟨⟨old,he⟩,t⟩ k=>⟨⟨old,k e (by simp) _ he⟩,t.at fun o q=>k it (by simp) o q⟩
  item:=by
    intro X hP hw hK hc i pins s σ H E I hf ⟨⟨old,he⟩,t⟩ ⟨xs,x,q1,e1⟩
    subst hP hw hK
    obtain ⟨its,rv,p,hz⟩:=I.tuple q1
    obtain ⟨u,g1,ru⟩:=rv.get e1
    have fa:a≠it:=Sq.far (k:=false) I q1 (hf it (by simp))
    have fe:e≠a:=Ne.symm (Sq.far (k:=false) I q1 (hf e (by simp)))
    have hlt:i<its.toArray.size:=by
      have:=(List.getElem?_eq_some_iff.mp g1).1
      simpa using this
    refine wpAny_pyNext_enum_itemD (a7p (prog:=X.prog) (w:=X.w) (A:=X.A.in1) (I.ok.hd hc) it a fa its.toArray) he ⟨t,p⟩ hlt hne (by
      simp only [List.mem_cons,List.not_mem_nil,or_false,not_or]; exact ⟨hne,fe⟩) fun v h' tk hv heo t' hp hsz kp=>?_
    have ev:v=u:=by
      have:its[i]? = some v:=by simpa using hv
      rw [g1] at this; exact (Option.some.inj this).symm
    subst ev
    refine ⟨_,rfl,wpAny_letOwnedTupleGo_enum (s:={ s with heap:=h',toks:=tk+1 }) heo fun h2 he2 s2=>?_⟩
    have lt:∀ b∈[e,it],s.heap.objs.size≠b:=fun b hb=>by
      simp only [List.mem_cons,List.not_mem_nil,or_false] at hb -- here
      rcases hb with rfl | rfl
      · exact Nat.ne_of_gt (Heap.lt_size he)
      · obtain ⟨o,e,_⟩:=t
        exact Nat.ne_of_gt (Heap.lt_size e)
    have pair:h2.get? s.heap.objs.size=some { cls:=.type "tuple",data:=.seq #[.int i tk,v] }:=s2.extBut _ _ (lt e (by simp)) hp
    have J:L2.Inv X pins σ (upd H s.heap.objs.size (.tup [.int (i:Int),x])) { s with heap:=h2,toks:=tk+1 }:=Inv.Xl (ch:=[e,it]) I hf (fun b o hb eb=>by
      simp only [List.mem_cons,List.not_mem_nil,or_false,not_or] at hb
      exact s2.extBut _ _ hb.1 (kp b o hb.1 hb.2 eb)) (Nat.le_refl _) ⟨by change 2≤sizeLine; rw [sizeLine_eq]; decide,[.int i tk,v],.cons ⟨_,rfl⟩ (.cons ru .nil),⟨_,pair,rfl,rfl,0,rfl⟩⟩
    refine ⟨.ref s.heap.objs.size,_,J,rfl,⟨s.heap.objs.size,x,I.hok.fresh (Nat.le_refl _),rfl,rfl,fun xs' h=>by rw [I.J3 h q1]; exact e1⟩,⟨⟨v,?_⟩,?_⟩,fun b hb=>?_⟩
    · have:((i+1:Nat):Int)=(i:Int)+1:=by omega
      rw [this]; exact he2
    · exact t'.1.at fun o q=>s2.extBut _ _ (Ne.symm hne) q
    · rw [ql (Ne.symm (lt b hb))]; exact (hf b hb).1
  done:=by
    intro X hP hw hK hc i pins s σ H E I hf ⟨⟨old,he⟩,t⟩ ⟨xs,q1,hx⟩
    subst hP hw hK
    obtain ⟨its,rv,p,hz⟩:=I.tuple q1
    have hl:=rv.length
    have fa:a≠it:=Sq.far (k:=false) I q1 (hf it (by simp))
    have hT:s.TypeIs (.ref e) "enumerate" := ⟨_,he,rfl⟩ -- here
    unfold pyNext
    refine wpAny_bind (wpAny_attempt (wpAny_callSpecial?_slot (name:=Str.ofString "__next__") hT F.slot_enumerate_next (wpAny_call_entry F.slot_enumerate_next hT F.entry_enumerate_next ?_ (F.args_enumerate_next_1 _))))
    refine (show wpAny _ _ (field (.ref e) 2 >>= _) _ _ _ from wpAny_bind (wpAny_field he rfl (x:=.ref it) rfl ?_))
    refine wpAny_bind (Jt (I.ok.hd hc) t p (Array.getElem?_eq_none (by simp; omega)) fun h' ex kp ⟨o,ho,hc'⟩=>?_)
    refine wpAny_bind (wpAny_isInstance (T := "StopIteration") (b:=true) ⟨o,ho,hc'⟩ isSubtype_stop ?_)
    refine wpAny_pure ⟨rfl,Inv.Xg (t':=s.toks) (ch:=[e,it]) I hf fun b u hb eb=>?_⟩
    simp only [List.mem_cons,List.not_mem_nil,or_false,not_or] at hb
    exact kp b u hb.2 eb
  self:=fun _ _ _ _ _ ⟨⟨_,he⟩,_⟩ h=>wpAny_pyIter_enum he h
noncomputable def a9j (K:PySem.W.Frag) (ta:TA):TI:=fun σ H R=>ta σ H fun vs H1=>∃ a xs,vs=[.ref a]∧SqT K H1 a xs∧R (a94 K a) H1
noncomputable section
variable {X:Cx} {B:Bas} {a:Expr} {m:M T} {pos p:Pos} {elts:List Expr} {x1:Nat} {tpos:Pos}
theorem a7o {ta:TA} (hg:Gl X "enumerate") (hm:X.mg "enumerate" = none) (ha:PA X [a] ta) (hs:starEach [a] X.env=[(false,eval a X.env)]:=by rfl) :
    PI X (.Tuple elts x1 tpos) (.Call (.Name "enumerate" p) [a] [] pos) (a9j X.K ta):=by
  intro pins s σ H R I h
  refine Call_ (Lp I hg hm boot_enumerate (PyProof.Rows.callWith_type1 (thn (ha pos pins s σ H _ I h) fun us s1 z0=>?_) (by rw [hs]; rfl) (by rfl)))
  obtain ⟨vs,H1,I1,r1,q1⟩:=z0
  obtain ⟨a,xs,e,w1,q⟩:=q1
  subst e
  cases r1 with
  | cons r rr =>
    cases rr
    cases r
    obtain ⟨its,rv,pL,hz⟩:=I1.tuple w1
    refine Uz pL fun h' he hit kp=>wpAny_pyIter_enum he ?_
    refine ⟨_,[s1.heap.objs.size+1,s1.heap.objs.size],_,_,H1,rfl,I1.kept (t':=s1.toks) kp,Zd (Nat.succ_ne_self _),⟨⟨_,he⟩,hit⟩,fun b hb=>?_,q⟩
    have hle:s1.heap.objs.size≤b:=by
      simp only [List.mem_cons,List.not_mem_nil,or_false] at hb -- here
      rcases hb with rfl | rfl
      · exact Nat.le_succ _
      · exact Nat.le_refl _
    exact I1.a5e hle (I1.hok.fresh hle)
theorem Kw {ts:List T} {s s':Sta} (h:Gv m s=some (ts,s')):∃ xs,m s=some (.tup xs,s')∧xs.length<lim∧ts=Pz xs:=by
  unfold Gv at h
  split at h
  · rename_i xs s1 e1
    split at h
    · rename_i hl; cases h; exact ⟨xs,e1,hl,rfl⟩
    · cases h
  · cases h
theorem Zw:∀ st ts st',Gv m st=some (ts,st')→ts.length≤sizeLine:=fun st ts st' e=>by
  obtain ⟨xs,_,l1,rfl⟩:=Kw e
  unfold Pz
  rw [List.length_map,List.length_zipIdx]
  exact Nat.le_trans (Nat.le_of_lt l1) vh
theorem Ze (hg:Gl X "enumerate") (hm:X.mg "enumerate" = none) (h1:PE X a (tOf X.K B m)) (hs:starEach [a] X.env=[(false,eval a X.env)]:=by rfl) :
    PI X (.Tuple elts x1 tpos) (.Call (.Name "enumerate" p) [a] [] pos) (iOf X.K B (Gv m)):=by
  intro pins s σ H R I hw
  refine a7o (ta:=Qi (tOf X.K B m) a5d) hg hm (qp h1 vf hs) hs pins s σ H R I ?_
  obtain ⟨st,ps,S,as,Rl,ts,st',e,hz,q⟩:=hw
  obtain ⟨xs,e1,l1,rfl⟩:=Kw e
  refine ⟨st,ps,S,as,Rl,_,_,e1,fun v H1 S1 as1 R1=>?_⟩
  have top:=R1.top
  cases top with
  | @tup a vs _ hs hr =>
    refine ⟨a,vs,rfl,qd R1.sub hs,q _ H1 S1 as1 [(.ref a,.tup xs)] R1 fun S2 as2 H2 hp hh=>?_⟩
    have:=hp _ List.mem_cons_self
    cases this with
    | @tup _ vs2 _ hs2 hr2 =>
      refine ⟨fun i tt et=>?_,fun i hi=>⟨vs2,qd hh hs2,?_⟩⟩
      · obtain ⟨x,f1,rfl⟩:=Yl et
        obtain ⟨vx,gx,rx⟩:=hr2.get f1
        refine ⟨⟨vs2,vx,qd hh hs2,gx⟩,fun v H' z0=>?_⟩
        obtain ⟨pp,x',hn,hv,hH,b1⟩:=z0
        have c1:=b1 _ (qd hh hs2)
        rw [gx] at c1
        cases c1
        subst hv hH
        have x:=Ext.laid hh hn (.tup [.int (i:Int),vx])
        exact ⟨_,x,.tup (SqT.of kj) (.cons (.int _) (.cons (rx.mono x.s nol) .nil))⟩
      · rw [hr2.length]
        unfold Pz at hi
        rwa [List.length_map,List.length_zipIdx] at hi
end
end C
end
noncomputable section
set_option linter.all false
set_option maxRecDepth 100000
set_option maxHeartbeats 4000002
set_option autoImplicit false
namespace C
open PySem PySem.Spec PyProof.Rows L2
noncomputable section
variable {K:PySem.W.Frag} {S:Hp} {as:List Addr}
end
noncomputable section
variable {X:Cx} {B:Bas} {a b e:Expr} {m m2:M T} {pos p1:Pos} {es:List Expr} {ms:M (List T)}
theorem Rel.base {K:PySem.W.Frag} {B:Bas} {st:Sta} {σ:L2.St} {H S:Hp} {ps:List (V × T)} {as:List Addr} (r:Rel K B st σ H ps S as):Rel K ⟨S,as,B.H⟩ st σ H ps S as :=
  ⟨r.sub,⟨Same.refl _,nol,fun p o h1 h2 h3=>by
    change S p=none at h2
    have b2:B.S p=none:=by
      cases q:B.S p with
      | none=>rfl
      | some u=>have:=r.grow.same _ _ q; rw [h2] at this; cases this
    have b3:p∉B.as:=fun q=>by obtain ⟨l,e⟩:=r.grow.more; exact h3 (by show p∈as; rw [e]; exact List.mem_append_left _ q)
    exact ⟨(r.grow.keep p o h1 b2 b3).1,h2,h3⟩⟩,fun i t f e=>by
      obtain ⟨v,h1,h2,h3⟩:=r.slots i t f e
      exact ⟨v,h1,h2,fun q=>by obtain ⟨p,ep,o⟩:=h3 q; exact ⟨p,ep,o.own,o.out,o.nas,o.new⟩⟩,r.apart,r.sto,r.pend,r.len⟩
end
end C
end
noncomputable section
set_option linter.all false
set_option maxRecDepth 100000
set_option maxHeartbeats 4000002
set_option autoImplicit false
namespace C
open PySem PySem.Spec
noncomputable section
variable {prog:Program} {w:World} {A:Around} {E:Value→Shared→Prop} {s:Shared} {it l:Addr} {xs:Array Value}
end
end C
end
noncomputable section
set_option linter.all false
set_option maxRecDepth 100000
set_option maxHeartbeats 4000002
set_option autoImplicit false
namespace C
open PySem PySem.Spec PyProof.Rows L2
noncomputable section
variable {X:Cx} {B:Bas} {a b e e1 e2:Expr} {m m1 m2:M T} {pos p1 p2 p3 p4:Pos} {lo hi:Option Expr} {ml mh:M (Option Int)}
end
end C
end
noncomputable section
set_option linter.all false
set_option maxRecDepth 100000
set_option autoImplicit false
namespace C
open PySem
theorem Ot {α:Type} {h f:α→T} {g:G} {c:M Bool} {e:M T} {nv:Nat} {cap:List Slot} {sto:List SO} (hcap:cap.map m8=cap) :
    ∀ (l:List α) (acc:List T) (pre:List Slot),pre.length=nv→acc.length+l.length≤lim →
      (∀ a∈l,∀ pre:List Slot,pre.length=nv→∃ pre',pre'.length=nv∧g (h a) ⟨pre++cap,sto⟩=some ⟨pre'++cap,sto⟩∧c ⟨pre'++cap,sto⟩=some (true,⟨pre'++cap,sto⟩)∧e ⟨pre'++cap,sto⟩=some (f a,⟨pre'++cap,sto⟩)) →
      ∃ s',Fl g c e (l.map h) ⟨pre++cap,sto⟩ acc=some (acc++l.map f,s')∧s'.sto=sto
  | [],acc,pre,hp,hl,H=>⟨⟨pre++cap,sto⟩,by simp [Fl],rfl⟩
  | a::l,acc,pre,hp,hl,H=>by
    obtain ⟨pre',p1,p2,p3,p4⟩:=H a List.mem_cons_self pre hp
    have hlen:acc.length<lim:=by simp at hl ⊢; omega
    obtain ⟨s',q1,q2⟩:=Ot hcap l (acc++[f a]) (pre'.map m8) (by simpa using p1) (by simp at hl ⊢; omega) fun b hb=>H b (List.mem_cons_of_mem _ hb)
    refine ⟨s',?_,q2⟩
    rw [List.map_cons,Fl,p2]
    dsimp only
    rw [p3]
    dsimp only
    rw [p4]
    dsimp only
    rw [if_pos hlen,uo]
    dsimp only
    rw [List.map_append,hcap,q1]
    simp
theorem Xu {α:Type} (h f:α→T) (l:List α) {g:G} {c:M Bool} {e:M T} {nv:Nat} {ci:List Nat} {it:M (List T)} {s s1:Sta} (env:List Slot) (cap:List Slot) (hit:it s=some (l.map h,s1)) (henv:bw ci s1.env=env) (hci:ci.map (fun i=>(env[i]?).getD none)=cap) (hcap:cap.map m8=cap) (hl:l.length≤lim)
    (H:∀ a∈l,∀ pre:List Slot,pre.length=nv→∃ pre',pre'.length=nv∧g (h a) ⟨pre++cap,s1.sto⟩=some ⟨pre'++cap,s1.sto⟩∧c ⟨pre'++cap,s1.sto⟩=some (true,⟨pre'++cap,s1.sto⟩)∧e ⟨pre'++cap,s1.sto⟩=some (f a,⟨pre'++cap,s1.sto⟩)) :
    uw nv ci g it c e s=some (.lst (l.map f),⟨env,s1.sto⟩):=by
  obtain ⟨s',q1,q2⟩:=Ot hcap l [] (List.replicate nv none) (by simp) (by simpa using hl) H
  unfold uw
  rw [hit]
  dsimp only
  rw [henv,hci,q1]
  dsimp only
  rw [q2]; rfl
noncomputable def okS (x:Str):Prop:=PyData.canLay0 (.str x)=true
theorem Jg {x:Str} (h:okS x):dat (.str x)=some (.str x):=by
  unfold okS at h
  simp [dat,h]
theorem Xh {a b:Str} (ha:okS a) (hb:okS b):neO (.str a) (.str b)=some (.bl (!(a==b))):=by
  simp [neO,eqT,eqD,Jg ha,Jg hb,PyData.depth,PyData.eqv]
noncomputable def Pl (n:Nat) (t:T):Prop:=∃ d,dat t=some d∧d.depth≤n
theorem a7n (n:Nat) (i:Int):Pl n (.int i):=⟨.int i,by simp [dat],by simp [PyData.depth]⟩
theorem a7g (n:Nat) {x:Str} (h:okS x):Pl n (.str x):=⟨.str x,Jg h,by simp [PyData.depth]⟩
theorem pls {n:Nat}:∀ ts:List T,(∀ t∈ts,Pl n t)→∃ ds,Kq ts=some ds∧PyData.depthAll ds≤n
  | [],_=>⟨[],by simp [Kq],by simp [PyData.depthAll]⟩
  | t::r,h=>by
    obtain ⟨d,d1,d2⟩:=h t List.mem_cons_self
    obtain ⟨ds,e1,e2⟩:=pls r fun x hx=>h x (List.mem_cons_of_mem _ hx)
    exact ⟨d::ds,by simp [Kq,d1,e1],by simp only [PyData.depthAll]; omega⟩
theorem a1p {n:Nat} {ts:List T} (h:∀ t∈ts,Pl n t):Pl (n+1) (.tup ts):=by
  obtain ⟨ds,e1,e2⟩:=pls ts h
  exact ⟨.tuple ds,by simp [dat,e1],by simp only [PyData.depth]; omega⟩
end C
namespace C
open PySem
theorem Y7 {g:G} {b:S} (P:List T→Sta→Prop) (H:∀ t r s,P (t::r) s→∃ s1 s2,g t s=some s1∧b s1=some (.next,s2)∧P r s2):∀ (ts:List T) (s:Sta),P ts s→∃ s',forL g b ts s=some (.next,s')∧P [] s'
  | [],s,h=>⟨s,by simp [forL],h⟩
  | t::r,s,h=>by
    obtain ⟨s1,s2,h1,h2,h3⟩:=H t r s h
    obtain ⟨s',e,p⟩:=Y7 P H r s2 h3
    refine ⟨s',?_,p⟩
    rw [forL]; dsimp only; rw [h1]; dsimp only; rw [h2]; dsimp only; exact e
theorem Rh {g:G} {b:S} {ts:List T} {s:Sta} {r:Option (Flow × Sta)} (hF:forL g b ts s=r) (P:List T→Sta→Prop) (hP:P ts s) (H:∀ t r s,P (t::r) s→∃ s1 s2,g t s=some s1∧b s1=some (.next,s2)∧P r s2):∃ s',r=some (.next,s')∧P [] s':=by
  obtain ⟨s',e,p⟩:=Y7 P H ts s hP
  exact ⟨s',hF.symm.trans e,p⟩
end C
namespace C
open PySem
theorem Ba {α:Type} {g:G} {c:M Bool} {e:M T} {nv:Nat} {ci:List Nat} {it:M (List T)} {s:Sta} {r:Option (T × Sta)} (hF:uw nv ci g it c e s=r) (h f:α→T) (l:List α) (s1:Sta) (env cap:List Slot) (hit:it s=some (l.map h,s1)) (henv:bw ci s1.env=env) (hci:ci.map (fun i=>(env[i]?).getD none)=cap) (hcap:cap.map m8=cap) (hl:l.length≤lim)
    (H:∀ a∈l,∀ pre:List Slot,pre.length=nv→∃ pre',pre'.length=nv∧g (h a) ⟨pre++cap,s1.sto⟩=some ⟨pre'++cap,s1.sto⟩∧c ⟨pre'++cap,s1.sto⟩=some (true,⟨pre'++cap,s1.sto⟩)∧e ⟨pre'++cap,s1.sto⟩=some (f a,⟨pre'++cap,s1.sto⟩)) :
    r=some (.lst (l.map f),⟨env,s1.sto⟩):=hF.symm.trans (Xu h f l env cap hit henv hci hcap hl H)
end C
end
noncomputable section
set_option linter.all false
set_option maxRecDepth 100000
set_option autoImplicit false
namespace C
open PySem
theorem Nx {α σ:Type} {g:G} {b:S} (h:α→T) (R:σ→Sta) (step:σ→α→σ) (P:List α→σ→Prop)
    (H:∀ a r x,P (a::r) x→(∃ s1,g (h a) (R x)=some s1∧b s1=some (.next,R (step x a)))∧P r (step x a)) :
    ∀ (l:List α) (x:σ),P l x→forL g b (l.map h) (R x)=some (.next,R (l.foldl step x))∧P [] (l.foldl step x)
  | [],x,p=>⟨by simp [forL],p⟩
  | a::l,x,p=>by
    obtain ⟨⟨s1,h1,h2⟩,h3⟩:=H a l x p
    obtain ⟨e,q⟩:=Nx h R step P H l (step x a) h3
    refine ⟨?_,q⟩
    rw [List.map_cons,forL]; dsimp only; rw [h1]; dsimp only; rw [h2]; dsimp only; exact e
theorem Uh {α σ:Type} {g:G} {b:S} {ts:List T} {s:Sta} {r:Option (Flow × Sta)} (hF:forL g b ts s=r) (h:α→T) (l:List α) (R:σ→Sta) (x0:σ) (step:σ→α→σ) (P:List α→σ→Prop) (ht:ts=l.map h) (hs:s=R x0) (hP:P l x0)
    (H:∀ a r x,P (a::r) x→(∃ s1,g (h a) (R x)=some s1∧b s1=some (.next,R (step x a)))∧P r (step x a)) :
    r=some (.next,R (l.foldl step x0))∧P [] (l.foldl step x0):=by
  subst ht hs
  obtain ⟨e,p⟩:=Nx h R step P H l x0 hP
  exact ⟨hF.symm.trans e,p⟩
theorem En {α:Type} {h f:α→T} {q:α→Bool} {g:G} {c:M Bool} {e:M T} {nv:Nat} {cap:List Slot} {sto:List SO} (hcap:cap.map m8=cap) :
    ∀ (l:List α) (acc:List T) (pre:List Slot),pre.length=nv→acc.length+l.length≤lim →
      (∀ a∈l,∀ pre:List Slot,pre.length=nv→∃ pre',pre'.length=nv∧g (h a) ⟨pre++cap,sto⟩=some ⟨pre'++cap,sto⟩∧c ⟨pre'++cap,sto⟩=some (q a,⟨pre'++cap,sto⟩)∧(q a=true→e ⟨pre'++cap,sto⟩=some (f a,⟨pre'++cap,sto⟩))) →
      ∃ s',Fl g c e (l.map h) ⟨pre++cap,sto⟩ acc=some (acc++(l.filter q).map f,s')∧s'.sto=sto
  | [],acc,pre,hp,hl,H=>⟨⟨pre++cap,sto⟩,by simp [Fl],rfl⟩
  | a::l,acc,pre,hp,hl,H=>by
    obtain ⟨pre',p1,p2,p3,p4⟩:=H a List.mem_cons_self pre hp
    have hlen:acc.length<lim:=by simp at hl ⊢; omega
    rw [List.map_cons,Fl,p2]
    dsimp only
    rw [p3]
    cases hq:q a with
    | true =>
      obtain ⟨s',q1,q2⟩:=En hcap l (acc++[f a]) (pre'.map m8) (by simpa using p1) (by simp at hl ⊢; omega) fun b hb=>H b (List.mem_cons_of_mem _ hb)
      refine ⟨s',?_,q2⟩
      dsimp only
      rw [p4 hq]
      dsimp only
      rw [if_pos hlen,uo]
      dsimp only
      rw [List.map_append,hcap,q1]
      simp [hq]
    | false =>
      obtain ⟨s',q1,q2⟩:=En hcap l acc (pre'.map m8) (by simpa using p1) (by simp at hl ⊢; omega) fun b hb=>H b (List.mem_cons_of_mem _ hb)
      refine ⟨s',?_,q2⟩
      dsimp only
      rw [uo]
      dsimp only
      rw [List.map_append,hcap,q1]
      simp [hq]
theorem Je {α:Type} {g:G} {c:M Bool} {e:M T} {nv:Nat} {ci:List Nat} {it:M (List T)} {s:Sta} {r:Option (T × Sta)} (hF:uw nv ci g it c e s=r) (h f:α→T) (q:α→Bool) (l:List α) (s1:Sta) (env cap:List Slot) (hit:it s=some (l.map h,s1)) (henv:bw ci s1.env=env) (hci:ci.map (fun i=>(env[i]?).getD none)=cap) (hcap:cap.map m8=cap) (hl:l.length≤lim)
    (H:∀ a∈l,∀ pre:List Slot,pre.length=nv→∃ pre',pre'.length=nv∧g (h a) ⟨pre++cap,s1.sto⟩=some ⟨pre'++cap,s1.sto⟩∧c ⟨pre'++cap,s1.sto⟩=some (q a,⟨pre'++cap,s1.sto⟩)∧(q a=true→e ⟨pre'++cap,s1.sto⟩=some (f a,⟨pre'++cap,s1.sto⟩))) :
    r=some (.lst ((l.filter q).map f),⟨env,s1.sto⟩):=by
  obtain ⟨s',q1,q2⟩:=En hcap l [] (List.replicate nv none) (by simp) (by simpa using hl) H
  rw [← hF]
  unfold uw
  rw [hit]
  dsimp only
  rw [henv,hci,q1]
  dsimp only
  rw [q2]; rfl
theorem qw {a b:Int}:eqO (.int a) (.int b)=some (.bl (a==b)):=by simp [eqO,eqT,eqD,dat,PyData.depth,PyData.eqv]
theorem Ac {a b:Int}:neO (.int a) (.int b)=some (.bl (!(a==b))):=by simp [neO,eqT,eqD,dat,PyData.depth,PyData.eqv]
theorem Eo {a b:Str} (ha:okS a) (hb:okS b):eqO (.str a) (.str b)=some (.bl (a==b)):=by
  simp [eqO,eqT,eqD,Jg ha,Jg hb,PyData.depth,PyData.eqv]
theorem Hg {xs:List T} {k:Nat} {t:T} (h:xs[k]? = some t):gn (.lst xs) (.int (k:Int))=some t:=by
  have hk:k<xs.length:=(List.getElem?_eq_some_iff.mp h).1
  have h1:(k:Int)<(xs.length:Int):=by omega
  simp [gn,ixI,h1,h]
theorem Rm {xs:List T} {k:Nat} {t:T} (h:xs[k]? = some t):gn (.tup xs) (.int (k:Int))=some t:=by
  have hk:k<xs.length:=(List.getElem?_eq_some_iff.mp h).1
  have h1:(k:Int)<(xs.length:Int):=by omega
  simp [gn,ixI,h1,h]
theorem uf {a:T} {r:List T}:gn (.tup (a::r)) (.int 0)=some a:=Rm (k:=0) rfl
theorem xg {a b:T} {r:List T}:gn (.tup (a::b::r)) (.int 1)=some b:=Rm (k:=1) rfl
theorem Gu {a b c:T} {r:List T}:gn (.tup (a::b::c::r)) (.int 2)=some c:=Rm (k:=2) rfl
theorem a3s {i j:Nat} {x y:T} {s:Sta}:lq [i,j] (.tup [x,y]) s=some (cg j y false (cg i x false s)):=by simp [lq]
theorem j4 {a b:S} {s s':Sta} (h:a s=some (.next,s')):j9 a b s=b s':=by unfold j9; rw [h]
theorem Fp {n:Nat} {c:M Bool} {b:S} {s s1 s2:Sta} (hc:c s=some (true,s1)) (hb:b s1=some (.next,s2)):Al (n+1) c b s=Al n c b s2:=by
  rw [Al]; dsimp only; rw [hc]; dsimp only; rw [hb]
theorem Vj {n:Nat} {c:M Bool} {b:S} {s s1:Sta} (hc:c s=some (false,s1)):Al (n+1) c b s=some (.next,s1):=by
  rw [Al]; dsimp only; rw [hc]
theorem Y4 {n:Nat} {c:M Bool} {b:S} {s s1 s2:Sta} {v:T} (hc:c s=some (true,s1)) (hb:b s1=some (.ret v,s2)):Al (n+1) c b s=some (.ret v,s2):=by
  rw [Al]; dsimp only; rw [hc]; dsimp only; rw [hb]
end C
end
noncomputable section
set_option linter.all false
namespace K
open C PySem
noncomputable def Ca:Fn:=ig 6
  (j9 (sNew 2 (aq (.dic [])))
  (j9 (kh (lq [3,4]) (jw (bh 1))
  (Fb 2 (bh 3) (mOp jf (Ep 2 (bh 3) (aq (.int 0))) (bh 4))))
  (j9 (ji 5 (uw 1 [2] (hName 0) (jw (gk Dk (aj (bh 2) dz))) (fj (mOp neO (mOp gn (bh 1) (bh 0)) (aq (.int 0)))) (gk (fun l=>some (.tup l)) (aj (bh 0) (aj (mOp gn (bh 1) (bh 0)) dz)))))
  (jl (gk (fun l=>some (.tup l)) (aj (bh 0) (aj (gk wu (aj (bh 5) dz)) dz)))))))
noncomputable def K3:Fn:=ig 2
  (jl (fu Ca (aj (mOp jf (mOp gn (bh 0) (aq (.int 0))) (mOp gn (bh 1) (aq (.int 0)))) (aj (mOp jf (mOp gn (bh 0) (aq (.int 1))) (mOp gn (bh 1) (aq (.int 1)))) dz))))
noncomputable def vg:Fn:=ig 6
  (j9 (sNew 2 (gk Ek (aj (mOp gn (bh 0) (aq (.int 0))) dz)))
  (j9 (sNew 3 (gk Ek (aj (mOp gn (bh 0) (aq (.int 1))) dz)))
  (j9 (sNew 4 (mUn a6w (gk Ek (aj (bh 1) dz))))
  (j9 (Al 1000 (fj (mOp gtT (qm 4) (aq (.int 0))))
  (j9 (a1r 4 5)
  (sIf (fj (mOp eqO (mOp gn (bh 5) (aq (.int 0))) (aq (.str "and"))))
  (dj 4 (mUn Z0 (mOp gn (bh 5) (aq (.int 1)))))
  (sIf (fj (mOp eqO (mOp gn (bh 5) (aq (.int 0))) (aq (.str "or"))))
  (cj 3 (mOp gn (bh 5) (aq (.int 1))))
  (cj 2 (bh 5))))))
  (jl (gk (fun l=>some (.tup l)) (aj (bh 2) (aj (bh 3) dz))))))))
noncomputable def jy:Fn:=ig 1
  (jl (mIf (fj (gk isTup (aj (bh 0) dz))) (gk wu (aj (bh 0) dz)) (gk (fun l=>some (.tup l)) dz)))
noncomputable def pq:Fn:=ig 3
  (jl (j5 (lg (fj (mOp eqO (gk jz (aj (bh 0) dz)) (bh 2))) (fj (j5 (lg (fj (gk isStr (aj (mOp gn (bh 0) (aq (.int 0))) dz))) (fj (mOp eqO (mOp gn (bh 0) (aq (.int 0))) (bh 1)))))))))
noncomputable def uy:Fn:=ig 1
  (jl (j5 (lg (fj (gk isInt (aj (bh 0) dz))) (fj (j5 (m7 (fj (gk El (aj (bh 0) dz)))))))))
noncomputable def yx:Fn:=ig 2
  (jl (j5 (lg (fj (mOp leT (aq (.int 0)) (bh 0))) (fj (mOp ltT (bh 0) (gk jz (aj (bh 1) dz)))))))
noncomputable def Aj:Fn:=ig 5
  (j9 (sIf (mOr (m7 (fj (fu yx (aj (bh 1) (aj (mOp gn (bh 0) (aq (.int 1))) dz))))) (m7 (fj (gk isTup (aj (bh 2) dz)))))
  (jl (aq .non))
  ju)
  (j9 (ji 3 (mOp gn (mOp gn (bh 0) (aq (.int 1))) (bh 1)))
  (j9 (ji 4 (fu jy (aj (bh 2) dz)))
  (j9 (sIf (fj (mOp neO (gk jz (aj (bh 4) dz)) (gk jz (aj (bh 3) dz))))
  (jl (aq .non))
  ju)
  (jl (uw 2 [0] (lq [0,1]) (a5r (bh 3) (bh 4)) j7 (gk (fun l=>some (.tup l)) (aj (fu vg (aj (bh 2) (aj (gk (fun l=>some (.lst l)) (aj (bh 0) dz)) dz))) (aj (bh 1) dz)))))))))
noncomputable def Ao:Fn:=ig 2
  (jl (gk (fun l=>some (.tup l)) (aj (aq (.str "most")) (aj (gk (fun l=>some (.tup l)) (aj (mUn jt (bh 1)) (aj (gk (fun l=>some (.tup l)) (aj (gk (fun l=>some (.tup l)) (aj (bh 0) (aj (aq (.int 1)) dz))) dz)) dz))) dz))))
noncomputable def zc:Fn:=ig 2
  (jl (gk (fun l=>some (.tup l)) (aj (aq (.str "most")) (aj (gk (fun l=>some (.tup l)) (aj (bh 1) (aj (gk (fun l=>some (.tup l)) (aj (gk (fun l=>some (.tup l)) (aj (bh 0) (aj (mUn jt (aq (.int 1))) dz))) dz)) dz))) dz))))
noncomputable def zy:Fn:=ig 8
  (j9 (ji 5 (uw 1 [2] (hName 0) (jw (bh 0)) (lg (fj (gk isStr (aj (bh 1) dz))) (fj (mOp eqO (bh 0) (bh 1)))) (bh 0)))
  (j9 (sIf (fj (mOp neO (gk jz (aj (bh 5) dz)) (aq (.int 1))))
  (jl (aq .non))
  ju)
  (j9 (ji 6 (fu vg (aj (bh 1) (aj (gk (fun l=>some (.lst l)) (aj (fu Ao (aj (mOp gn (bh 5) (aq (.int 0))) (aj (bh 3) dz))) dz)) dz))))
  (j9 (ji 7 (fu vg (aj (bh 1) (aj (gk (fun l=>some (.lst l)) (aj (fu zc (aj (mOp gn (bh 5) (aq (.int 0))) (aj (mOp jf (bh 3) (aq (.int 1))) dz))) dz)) dz))))
  (jl (gk (fun l=>some (.lst l)) (aj (gk (fun l=>some (.tup l)) (aj (bh 6) (aj (mOp gn (bh 4) (aq (.int 0))) dz))) (aj (gk (fun l=>some (.tup l)) (aj (bh 7) (aj (mOp gn (bh 4) (aq (.int 1))) dz))) dz))))))))
noncomputable def zf:Fn:=ig 6
  (j9 (ji 2 (aq (.int 0)))
  (j9 (sNew 3 (gk (fun l=>some (.lst l)) dz))
  (j9 (kh (hName 4) (jw (bh 1))
  (j9 (ji 5 (mOp gn (mOp gn (bh 0) (mOp gn (bh 4) (aq (.int 0)))) (aq (.int 1))))
  (j9 (ji 2 (mOp jf (bh 2) (mOp Dm (mOp gn (bh 4) (mUn jt (aq (.int 1)))) (mOp gn (bh 5) (aq (.int 0))))))
  (dj 3 (uw 2 [4] (lq [0,1]) (jw (mOp gn (bh 5) (aq (.int 1)))) j7 (gk (fun l=>some (.tup l)) (aj (bh 0) (aj (mOp Dm (mOp gn (bh 2) (mUn jt (aq (.int 1)))) (bh 1)) dz))))))))
  (jl (fu Ca (aj (bh 2) (aj (bh 3) dz)))))))
noncomputable def uq:Fn:=ig 3
  (jl (j5 (lg (fj (fu yx (aj (bh 1) (aj (bh 0) dz)))) (fj (mOp eqO (mOp gn (mOp gn (bh 0) (bh 1)) (aq (.int 0))) (bh 2))))))
noncomputable def Cd:Fn:=ig 2
  (jl (j5 (lg (fj (mOp eqO (gk jz (aj (bh 1) dz)) (aq (.int 2)))) (fj (j5 (lg (fj (fu uq (aj (bh 0) (aj (mOp gn (bh 1) (aq (.int 0))) (aj (aq (.str "most")) dz))))) (fj (mOp gtT (mOp gn (bh 1) (aq (.int 1))) (aq (.int 0))))))))))
noncomputable def G9:Fn:=ig 3
  (j9 (sIf (m7 (fj (gk Tw (aj (uw 1 [0] (hName 0) (jw (bh 1)) j7 (fu Cd (aj (bh 1) (aj (bh 0) dz)))) dz))))
  (jl (aq (.bl false)))
  ju)
  (j9 (ji 2 (fu zf (aj (bh 0) (aj (bh 1) dz))))
  (jl (j5 (lg (fj (mOp eqO (mOp gn (bh 2) (aq (.int 1))) (gk (fun l=>some (.tup l)) dz))) (fj (mOp gtT (mOp gn (bh 2) (aq (.int 0))) (aq (.int 0)))))))))
noncomputable def uc:Fn:=ig 3
  (j9 (sIf (mOr (m7 (fj (fu uq (aj (bh 0) (aj (bh 1) (aj (aq (.str "most")) dz)))))) (m7 (fj (fu uq (aj (bh 0) (aj (bh 2) (aj (aq (.str "most")) dz)))))))
  (jl (aq (.bl false)))
  ju)
  (jl (mOp eqO (fu K3 (aj (mOp gn (mOp gn (bh 0) (bh 1)) (aq (.int 1))) (aj (mOp gn (mOp gn (bh 0) (bh 2)) (aq (.int 1))) dz))) (gk (fun l=>some (.tup l)) (aj (aq (.int 0)) (aj (gk (fun l=>some (.tup l)) dz) dz))))))
noncomputable def nj:Fn:=ig 3
  (j9 (sIf (fj (mOp eqO (gk jz (aj (bh 2) dz)) (aq (.int 3))))
  (jl (j5 (lg (fj (fu uc (aj (bh 0) (aj (mOp gn (bh 2) (aq (.int 0))) (aj (mOp gn (bh 2) (aq (.int 1))) dz))))) (fj (mOp neO (mOp gn (bh 2) (aq (.int 2))) (aq (.int 0)))))))
  ju)
  (j9 (sIf (fj (mOp eqO (gk jz (aj (bh 2) dz)) (aq (.int 2))))
  (jl (j5 (lg (fj (fu uq (aj (bh 0) (aj (mOp gn (bh 2) (aq (.int 0))) (aj (aq (.str "rest")) dz))))) (fj (j5 (lg (fj (mOp neO (mOp gn (bh 2) (aq (.int 1))) (aq (.int 0)))) (fj (mOp eqO (mOp jo (mOp Dm (mOp gn (bh 2) (aq (.int 1))) (mOp gn (mOp gn (bh 0) (mOp gn (bh 2) (aq (.int 0)))) (aq (.int 2)))) (bh 1)) (aq (.int 0))))))))))
  ju)
  (jl (aq (.bl false)))))
noncomputable def Cg:Fn:=ig 4
  (j9 (sIf (mOr (fj (mOp ltT (bh 1) (aq (.int 2)))) (m7 (fj (gk Tw (aj (uw 1 [0,1] (hName 0) (jw (bh 2)) j7 (fu nj (aj (bh 1) (aj (bh 2) (aj (bh 0) dz))))) dz)))))
  (jl (aq (.bl false)))
  ju)
  (j9 (ji 3 (fu zf (aj (bh 0) (aj (bh 2) dz))))
  (jl (j5 (lg (fj (mOp neO (mOp jo (mOp gn (bh 3) (aq (.int 0))) (bh 1)) (aq (.int 0)))) (fj (gk Tw (aj (uw 2 [1] (lq [0,1]) (jw (mOp gn (bh 3) (aq (.int 1)))) j7 (mOp eqO (mOp jo (bh 1) (bh 2)) (aq (.int 0)))) dz))))))))
noncomputable def yg:Fn:=ig 2
  (j9 (ji 1 (fu jy (aj (bh 0) dz)))
  (jl (mIf (fj (gk Tw (aj (uw 1 [] (hName 0) (jw (bh 1)) j7 (fu uy (aj (bh 0) dz))) dz))) (gk wu (aj (uw 1 [] (hName 0) (jw (bh 1)) j7 (gk Jl (aj (bh 0) dz))) dz)) (gk (fun l=>some (.tup l)) dz))))
noncomputable def su:Fn:=ig 1
  (jl (uw 1 [] (hName 0) (jw (fu jy (aj (bh 0) dz))) j7 (fu yg (aj (bh 0) dz))))
noncomputable def nu:Fn:=ig 4
  (j9 (ji 3 (fu jy (aj (bh 2) dz)))
  (j9 (sIf (lg (fj (fu pq (aj (bh 3) (aj (aq (.str "or")) (aj (aq (.int 3)) dz))))) (fj (fu uy (aj (mOp gn (bh 3) (aq (.int 1))) dz))))
  (jl (fu Aj (aj (bh 1) (aj (gk Jl (aj (mOp gn (bh 3) (aq (.int 1))) dz)) (aj (mOp gn (bh 3) (aq (.int 2))) dz)))))
  ju)
  (j9 (sIf (lg (fj (fu pq (aj (bh 3) (aj (aq (.str "cut")) (aj (aq (.int 5)) dz))))) (fj (fu uy (aj (mOp gn (bh 3) (aq (.int 2))) dz))))
  (jl (fu zy (aj (bh 0) (aj (bh 1) (aj (mOp gn (bh 3) (aq (.int 1))) (aj (gk Jl (aj (mOp gn (bh 3) (aq (.int 2))) dz)) (aj (qb (bh 3) (ur (aq (.int 3))) wg) dz)))))))
  ju)
  (j9 (sIf (lg (fj (fu pq (aj (bh 3) (aj (aq (.str "sum")) (aj (aq (.int 2)) dz))))) (fj (fu G9 (aj (mOp gn (bh 1) (aq (.int 0))) (aj (fu su (aj (mOp gn (bh 3) (aq (.int 1))) dz)) dz)))))
  (jl (gk (fun l=>some (.lst l)) dz))
  ju)
  (j9 (sIf (lg (fj (fu pq (aj (bh 3) (aj (aq (.str "rest")) (aj (aq (.int 3)) dz))))) (lg (fj (fu uy (aj (mOp gn (bh 3) (aq (.int 1))) dz))) (fj (fu Cg (aj (mOp gn (bh 1) (aq (.int 0))) (aj (gk Jl (aj (mOp gn (bh 3) (aq (.int 1))) dz)) (aj (fu su (aj (mOp gn (bh 3) (aq (.int 2))) dz)) dz)))))))
  (jl (gk (fun l=>some (.lst l)) dz))
  ju)
  (jl (aq .non)))))))
noncomputable def yj:Fn:=ig 5
  (j9 (sNew 1 (gk (fun l=>some (.lst l)) dz))
  (j9 (kh (lq [2,3,4]) (jw (bh 0))
  (j9 (cj 1 (fu zc (aj (bh 2) (aj (bh 3) dz))))
  (cj 1 (fu Ao (aj (bh 2) (aj (bh 4) dz))))))
  (jl (gk (fun l=>some (.tup l)) (aj (bh 1) (aj (gk (fun l=>some (.lst l)) dz) dz))))))
noncomputable def oh:Fn:=ig 7
  (j9 (ji 3 (uw 3 [] (lq [0,1,2]) (jw (bh 0)) j7 (bh 0)))
  (j9 (sNew 4 (gk (fun l=>some (.lst l)) (aj (gk (fun l=>some (.tup l)) (aj (fu vg (aj (fu yj (aj (bh 0) dz)) (aj (bh 1) dz))) (aj (bh 2) (aj (aq (.int 1)) dz)))) dz)))
  (j9 (Al 1000 (fj (mOp gtT (qm 4) (aq (.int 0))))
  (j9 (a1r 4 5)
  (j9 (ji 6 (aq .non))
  (j9 (sIf (fj (mOp leT (mOp gn (bh 5) (aq (.int 2))) (aq (.int 90))))
  (ji 6 (fu nu (aj (bh 3) (aj (mOp gn (bh 5) (aq (.int 0))) (aj (mOp gn (bh 5) (aq (.int 1))) dz)))))
  ju)
  (j9 (sIf (fj (mOp a0r (bh 6) (aq .non)))
  (jl (aq (.bl false)))
  ju)
  (dj 4 (uw 2 [5] (lq [0,1]) (jw (bh 6)) j7 (gk (fun l=>some (.tup l)) (aj (bh 0) (aj (bh 1) (aj (mOp jf (mOp gn (bh 2) (aq (.int 2))) (aq (.int 1))) dz)))))))))))
  (jl (aq (.bl true))))))
noncomputable def j6:Fn:=ig 2
  (j9 (sIf (fj (mOp ltT (bh 1) (gk jz (aj (bh 0) dz))))
  (jl (mOp gn (bh 0) (bh 1)))
  ju)
  (jl (aq (.int 0))))
noncomputable def qu:Fn:=ig 2
  (j9 (sIf (fj (mOp ltT (bh 0) (aq (.int 0))))
  (jl (mUn jt (mOp jo (mUn jt (bh 0)) (bh 1))))
  ju)
  (jl (mOp jo (bh 0) (bh 1))))
noncomputable def jm:Fn:=ig 7
  (j9 (sNew 3 (gk Jd (aj (mOp gn (bh 0) (aq (.int 1))) dz)))
  (j9 (kh (lq [4,5]) (jw (mOp gn (bh 1) (aq (.int 1))))
  (Fb 3 (bh 4) (mOp jf (Ep 3 (bh 4) (aq (.int 0))) (mOp Dm (bh 5) (bh 2)))))
  (j9 (ji 6 (uw 1 [3] (hName 0) (jw (gk Dk (aj (bh 3) dz))) (fj (mOp neO (mOp gn (bh 1) (bh 0)) (aq (.int 0)))) (gk (fun l=>some (.tup l)) (aj (bh 0) (aj (mOp gn (bh 1) (bh 0)) dz)))))
  (jl (gk (fun l=>some (.tup l)) (aj (mOp jf (mOp gn (bh 0) (aq (.int 0))) (mOp Dm (mOp gn (bh 1) (aq (.int 0))) (bh 2))) (aj (gk wu (aj (bh 6) dz)) dz)))))))
noncomputable def Bk:Fn:=ig 5
  (j9 (sNew 1 (gk (fun l=>some (.lst l)) dz))
  (j9 (kh (hName 2) (gj (mOp jf (aq (.int 1)) (mOp jo (fu j6 (aj (bh 0) (aj (aq (.int 0)) dz))) (aq (.int 3)))))
  (j9 (ji 3 (fu j6 (aj (bh 0) (aj (mOp jf (aq (.int 1)) (bh 2)) dz))))
  (j9 (ji 4 (fu qu (aj (bh 3) (aj (mOp Pn (aq (.int 10)) (aq (.int 20))) dz))))
  (cj 1 (gk (fun l=>some (.tup l)) (aj (mOp gn (gk (fun l=>some (.lst l)) (aj (aq (.str "x")) (aj (aq (.str "@q")) (aj (aq (.str "z")) dz)))) (bh 2)) (aj (bh 4) (aj (mOp jf (bh 4) (mOp jo (mOp iw (gk mj (aj (bh 3) dz)) (aq (.int 3))) (mOp Pn (aq (.int 10)) (aq (.int 20))))) dz))))))))
  (jl (bh 1))))
noncomputable def Ak:Fn:=ig 5
  (j9 (ji 2 (gk (fun l=>some (.tup l)) (aj (fu qu (aj (mOp iw (bh 0) (aq (.int 7))) (aj (mOp Pn (aq (.int 10)) (aq (.int 6))) dz))) (aj (gk (fun l=>some (.tup l)) dz) dz))))
  (j9 (kh (hName 3) (gj (gk jz (aj (bh 1) dz)))
  (j9 (ji 4 (mOp gn (gk (fun l=>some (.lst l)) (aj (mOp lu (mOp jo (mOp iw (bh 0) (mOp jf (aq (.int 3)) (mOp Dm (aq (.int 5)) (bh 3)))) (aq (.int 7))) (aq (.int 3))) (aj (fu qu (aj (mOp iw (bh 0) (mOp jf (aq (.int 11)) (bh 3))) (aj (mOp Pn (aq (.int 10)) (aq (.int 6))) dz))) dz))) (mOp jo (mOp iw (bh 0) (aq (.int 2))) (aq (.int 2)))))
  (ji 2 (fu jm (aj (bh 2) (aj (gk (fun l=>some (.tup l)) (aj (aq (.int 0)) (aj (gk (fun l=>some (.tup l)) (aj (gk (fun l=>some (.tup l)) (aj (mOp gn (mOp gn (bh 1) (bh 3)) (aq (.int 0))) (aj (aq (.int 1)) dz))) dz)) dz))) (aj (bh 4) dz)))))))
  (jl (bh 2))))
noncomputable def u6:Fn:=ig 4
  (j9 (sIf (fj (mOp eqO (gk jz (aj (bh 2) dz)) (aq (.int 2))))
  (j9 (sIf (mOr (fj (gk El (aj (mOp gn (bh 2) (aq (.int 0))) dz))) (mOr (fj (mOp ltT (mOp gn (bh 2) (aq (.int 0))) (aq (.int 0)))) (mOr (fj (mOp geT (mOp gn (bh 2) (aq (.int 0))) (gk jz (aj (bh 0) dz)))) (fj (mOp neO (mOp gn (mOp gn (bh 0) (mOp gn (bh 2) (aq (.int 0)))) (aq (.int 0))) (aq (.str "rest")))))))
  (jl (aq .non))
  ju)
  (j9 (sIf (fj (mOp neO (mOp jo (mOp Dm (mOp gn (bh 2) (aq (.int 1))) (mOp gn (mOp gn (bh 0) (mOp gn (bh 2) (aq (.int 0)))) (aq (.int 2)))) (bh 1)) (aq (.int 0))))
  (jl (aq .non))
  ju)
  (jl (fu jm (aj (gk (fun l=>some (.tup l)) (aj (aq (.int 0)) (aj (gk (fun l=>some (.tup l)) dz) dz))) (aj (mOp gn (mOp gn (bh 0) (mOp gn (bh 2) (aq (.int 0)))) (aq (.int 1))) (aj (mOp gn (bh 2) (aq (.int 1))) dz)))))))
  ju)
  (j9 (kh (hName 3) (jw (qb (bh 2) wg (ur (aq (.int 2)))))
  (sIf (mOr (fj (gk El (aj (bh 3) dz))) (mOr (fj (mOp ltT (bh 3) (aq (.int 0)))) (mOr (fj (mOp geT (bh 3) (gk jz (aj (bh 0) dz)))) (fj (mOp neO (mOp gn (mOp gn (bh 0) (bh 3)) (aq (.int 0))) (aq (.str "most")))))))
  (jl (aq .non))
  ju))
  (j9 (sIf (fj (mOp neO (fu jm (aj (mOp gn (mOp gn (bh 0) (mOp gn (bh 2) (aq (.int 0)))) (aq (.int 1))) (aj (mOp gn (mOp gn (bh 0) (mOp gn (bh 2) (aq (.int 1)))) (aq (.int 1))) (aj (aq (.int 1)) dz)))) (gk (fun l=>some (.tup l)) (aj (aq (.int 0)) (aj (gk (fun l=>some (.tup l)) dz) dz)))))
  (jl (aq .non))
  ju)
  (jl (fu jm (aj (gk (fun l=>some (.tup l)) (aj (aq (.int 0)) (aj (gk (fun l=>some (.tup l)) dz) dz))) (aj (mOp gn (mOp gn (bh 0) (mOp gn (bh 2) (aq (.int 0)))) (aq (.int 1))) (aj (mOp gn (bh 2) (aq (.int 2))) dz))))))))
noncomputable def za:Fn:=ig 6
  (j9 (sIf (mOr (fj (gk El (aj (bh 1) dz))) (fj (mOp ltT (bh 1) (aq (.int 2)))))
  (jl (aq (.bl false)))
  ju)
  (j9 (ji 3 (gk (fun l=>some (.tup l)) (aj (aq (.int 0)) (aj (gk (fun l=>some (.tup l)) dz) dz))))
  (j9 (kh (hName 4) (jw (bh 2))
  (j9 (ji 5 (aq .non))
  (j9 (sIf (lg (fj (mOp inT (gk jz (aj (bh 4) dz)) (gk (fun l=>some (.tup l)) (aj (aq (.int 2)) (aj (aq (.int 3)) dz))))) (lg (m7 (fj (gk El (aj (mOp gn (bh 4) (mUn jt (aq (.int 1)))) dz)))) (fj (mOp neO (mOp gn (bh 4) (mUn jt (aq (.int 1)))) (aq (.int 0))))))
  (ji 5 (fu u6 (aj (bh 0) (aj (bh 1) (aj (bh 4) dz)))))
  ju)
  (j9 (sIf (fj (mOp a0r (bh 5) (aq .non)))
  (jl (aq (.bl false)))
  ju)
  (ji 3 (fu jm (aj (bh 3) (aj (bh 5) (aj (aq (.int 1)) dz)))))))))
  (jl (j5 (lg (fj (mOp neO (mOp jo (mOp gn (bh 3) (aq (.int 0))) (bh 1)) (aq (.int 0)))) (fj (mOp eqO (gk jz (aj (uw 2 [1] (lq [0,1]) (jw (mOp gn (bh 3) (aq (.int 1)))) (fj (mOp neO (mOp jo (bh 1) (bh 2)) (aq (.int 0)))) (aq (.int 1))) dz)) (aq (.int 0))))))))))
noncomputable def ou:Fn:=ig 6
  (j9 (ji 5 (fu oh (aj (bh 0) (aj (bh 1) (aj (gk (fun l=>some (.tup l)) (aj (aq (.str "rest")) (aj (bh 3) (aj (gk wu (aj (bh 4) dz)) dz)))) dz)))))
  (jl (j5 (lg (fj (gk El (aj (bh 5) dz))) (fj (mOp eqO (bh 5) (fu za (aj (mOp jf (bh 2) (bh 1)) (aj (bh 3) (aj (bh 4) dz))))))))))
noncomputable def Bv:Fn:=ig 16
  (j9 (sNew 4 (gk (fun l=>some (.lst l)) dz))
  (j9 (sNew 5 (gk (fun l=>some (.lst l)) dz))
  (j9 (ji 6 (gk (fun l=>some (.tup l)) (aj (aq (.int 0)) (aj (gk (fun l=>some (.tup l)) dz) dz))))
  (j9 (kh (hName 7) (gj (mOp jo (mOp iw (fu j6 (aj (bh 0) (aj (aq (.int 0)) dz))) (aq (.int 3))) (aq (.int 4))))
  (j9 (ji 8 (fu j6 (aj (bh 0) (aj (mOp jf (aq (.int 5)) (bh 7)) dz))))
  (j9 (ji 9 (fu Ak (aj (bh 8) (aj (bh 1) dz))))
  (j9 (ji 10 (mOp jf (aq (.int 2)) (mOp jo (bh 8) (aq (.int 11)))))
  (j9 (ji 11 (mOp Dm (bh 2) (mOp jf (aq (.int 1)) (mOp jo (bh 8) (aq (.int 3))))))
  (j9 (sIf (fj (mOp eqO (mOp jo (bh 2) (bh 10)) (aq (.int 0))))
  (ji 11 (mOp Dm (mOp iw (bh 2) (bh 10)) (mOp lu (mOp jo (mOp iw (bh 8) (aq (.int 3))) (aq (.int 5))) (aq (.int 2)))))
  ju)
  (j9 (sIf (fj (mOp eqO (bh 11) (aq (.int 0))))
  (ji 11 (mUn jt (bh 2)))
  ju)
  (j9 (sIf (fj (mOp eqO (mOp jo (mOp iw (bh 8) (aq (.int 77))) (aq (.int 4))) (aq (.int 1))))
  (ji 11 (mOp jf (mOp jf (bh 11) (aq (.int 1))) (gk Jl (aj (mOp eqO (bh 11) (mUn jt (aq (.int 1)))) dz))))
  ju)
  (j9 (cj 4 (gk (fun l=>some (.tup l)) (aj (aq (.str "rest")) (aj (bh 9) (aj (bh 10) dz)))))
  (j9 (cj 5 (gk (fun l=>some (.tup l)) (aj (mOp lu (mOp jf (bh 3) (qm 4)) (aq (.int 1))) (aj (bh 11) dz))))
  (ji 6 (fu jm (aj (bh 6) (aj (bh 9) (aj (bh 11) dz)))))))))))))))
  (j9 (kh (hName 7) (gj (mOp jo (mOp iw (fu j6 (aj (bh 0) (aj (aq (.int 0)) dz))) (aq (.int 12))) (aq (.int 3))))
  (j9 (ji 8 (fu j6 (aj (bh 0) (aj (mOp jf (aq (.int 9)) (bh 7)) dz))))
  (j9 (ji 9 (fu Ak (aj (bh 8) (aj (bh 1) dz))))
  (j9 (cj 4 (gk (fun l=>some (.tup l)) (aj (aq (.str "most")) (aj (bh 9) dz))))
  (j9 (cj 4 (gk (fun l=>some (.tup l)) (aj (aq (.str "most")) (aj (fu jm (aj (gk (fun l=>some (.tup l)) (aj (aq (.int 0)) (aj (gk (fun l=>some (.tup l)) dz) dz))) (aj (bh 9) (aj (mUn jt (aq (.int 1))) dz)))) dz))))
  (j9 (cj 5 (gk (fun l=>some (.tup l)) (aj (mOp lu (mOp jf (bh 3) (qm 4)) (aq (.int 2))) (aj (mOp lu (mOp jf (bh 3) (qm 4)) (aq (.int 1))) (aj (mOp jf (aq (.int 1)) (mOp jo (bh 8) (aq (.int 5)))) dz)))))
  (ji 6 (fu jm (aj (bh 6) (aj (bh 9) (aj (mOp jf (aq (.int 1)) (mOp jo (bh 8) (aq (.int 5)))) dz)))))))))))
  (j9 (ji 12 (mOp jo (fu j6 (aj (bh 0) (aj (aq (.int 4)) dz))) (mOp gn (gk (fun l=>some (.lst l)) (aj (bh 2) (aj (aq (.int 1)) dz))) (mOp jo (mOp iw (fu j6 (aj (bh 0) (aj (aq (.int 0)) dz))) (aq (.int 36))) (aq (.int 2))))))
  (j9 (ji 13 (gk Jl (aj (mOp eqO (mOp jo (mOp iw (fu j6 (aj (bh 0) (aj (aq (.int 0)) dz))) (aq (.int 144))) (aq (.int 3))) (aq (.int 1))) dz)))
  (j9 (ji 14 (uw 3 [13,2] (Yq 0 1 2) (Gv (mOp gn (bh 6) (aq (.int 1)))) j7 (gk (fun l=>some (.tup l)) (aj (bh 1) (aj (mOp jf (mOp lu (mOp Dm (bh 4) (mOp jf (aq (.int 1)) (mOp jo (bh 0) (aq (.int 2))))) (bh 2)) (mOp Dm (bh 3) (gk Jl (aj (mOp eqO (bh 0) (aq (.int 0))) dz)))) dz)))))
  (j9 (ji 15 (gk (fun l=>some (.tup l)) (aj (mOp lu (bh 12) (mOp gn (bh 6) (aq (.int 0)))) (aj (gk wu (aj (bh 14) dz)) dz))))
  (j9 (ji 15 (fu jm (aj (gk (fun l=>some (.tup l)) (aj (aq (.int 0)) (aj (gk (fun l=>some (.tup l)) dz) dz))) (aj (bh 15) (aj (aq (.int 1)) dz)))))
  (j9 (cj 4 (gk (fun l=>some (.tup l)) (aj (aq (.str "most")) (aj (bh 15) dz))))
  (j9 (cj 4 (gk (fun l=>some (.tup l)) (aj (aq (.str "most")) (aj (fu jm (aj (gk (fun l=>some (.tup l)) (aj (aq (.int 0)) (aj (gk (fun l=>some (.tup l)) dz) dz))) (aj (bh 15) (aj (mUn jt (aq (.int 1))) dz)))) dz))))
  (j9 (cj 5 (gk (fun l=>some (.tup l)) (aj (mOp lu (mOp jf (bh 3) (qm 4)) (aq (.int 2))) (aj (mOp lu (mOp jf (bh 3) (qm 4)) (aq (.int 1))) (aj (aq (.int 1)) dz)))))
  (j9 (cj 4 (gk (fun l=>some (.tup l)) (aj (aq (.str "rest")) (aj (fu jm (aj (gk (fun l=>some (.tup l)) (aj (aq (.int 0)) (aj (gk (fun l=>some (.tup l)) dz) dz))) (aj (bh 15) (aj (mUn jt (aq (.int 1))) dz)))) (aj (aq (.int 2)) dz)))))
  (jl (gk (fun l=>some (.tup l)) (aj (bh 4) (aj (bh 5) dz))))))))))))))))))
noncomputable def wk:Fn:=ig 4
  (j9 (ji 3 (gk (fun l=>some (.lst l)) (aj (mOp jf (qb (bh 0) wg (ur (mUn jt (aq (.int 1))))) (gk (fun l=>some (.tup l)) (aj (mOp jf (mOp gn (bh 0) (mUn jt (aq (.int 1)))) (aq (.int 1))) dz))) (aj (mOp jf (qb (bh 0) wg (ur (mUn jt (aq (.int 1))))) (gk (fun l=>some (.tup l)) (aj (mUn jt (mOp gn (bh 0) (mUn jt (aq (.int 1))))) dz))) (aj (mOp jf (qb (bh 0) wg (ur (mUn jt (aq (.int 1))))) (gk (fun l=>some (.tup l)) (aj (aq (.int 0)) dz))) (aj (mOp jf (qb (bh 0) wg (ur (mUn jt (aq (.int 1))))) (gk (fun l=>some (.tup l)) (aj (aq (.bl true)) dz))) (aj (mOp jf (bh 0) (gk (fun l=>some (.tup l)) (aj (aq (.int 1)) dz))) dz)))))))
  (j9 (ji 3 (mOp jf (bh 3) (gk (fun l=>some (.lst l)) (aj (mOp jf (gk (fun l=>some (.tup l)) (aj (mOp jf (mOp gn (bh 0) (aq (.int 0))) (aq (.int 1))) dz)) (qb (bh 0) (ur (aq (.int 1))) wg)) (aj (mOp jf (gk (fun l=>some (.tup l)) (aj (mUn jt (aq (.int 1))) dz)) (qb (bh 0) (ur (aq (.int 1))) wg)) (aj (mOp jf (gk (fun l=>some (.tup l)) (aj (bh 2) dz)) (qb (bh 0) (ur (aq (.int 1))) wg)) (aj (qb (bh 0) wg (ur (aq (.int 1)))) (aj (gk (fun l=>some (.tup l)) (aj (mOp gn (bh 0) (aq (.int 0))) (aj (mOp gn (bh 0) (aq (.int 0))) (aj (aq (.int 1)) dz)))) dz))))))))
  (j9 (ji 3 (mOp jf (bh 3) (gk (fun l=>some (.lst l)) (aj (gk (fun l=>some (.tup l)) (aj (mOp gn (bh 0) (aq (.int 0))) (aj (mOp jf (mOp gn (bh 0) (aq (.int 0))) (aq (.int 1))) (aj (mOp gn (bh 0) (mUn jt (aq (.int 1)))) dz)))) (aj (gk (fun l=>some (.tup l)) (aj (mOp jf (mOp gn (bh 0) (aq (.int 0))) (aq (.int 1))) (aj (mOp gn (bh 0) (aq (.int 0))) (aj (mOp gn (bh 0) (mUn jt (aq (.int 1)))) dz)))) (aj (gk (fun l=>some (.tup l)) (aj (aq (.int 0)) (aj (aq (.int 1)) (aj (aq (.int 1)) dz)))) dz))))))
  (jl (mOp gn (mOp jf (bh 3) (gk (fun l=>some (.lst l)) (aj (mOp jf (gk (fun l=>some (.tup l)) (aj (mOp lu (mOp gn (bh 0) (aq (.int 0))) (bh 2)) dz)) (qb (bh 0) (ur (aq (.int 1))) wg)) (aj (mOp jf (mOp jf (qb (bh 0) wg (ur (aq (.int 1)))) (gk (fun l=>some (.tup l)) (aj (mOp lu (mOp gn (bh 0) (aq (.int 1))) (bh 2)) dz))) (qb (bh 0) (ur (aq (.int 2))) wg)) dz)))) (mOp jo (bh 1) (aq (.int 15))))))))
noncomputable def Ad:Fn:=ig 12
  (j9 (sGo (lq [4,5,6]) (mOp gn (bh 3) (mUn jt (aq (.int 1)))))
  (j9 (sNew 7 (gk (fun l=>some (.lst l)) (aj (gk (fun l=>some (.tup l)) (aj (aq (.str "rest")) (aj (bh 2) (aj (gk Ek (aj (bh 3) dz)) dz)))) (aj (gk (fun l=>some (.tup l)) (aj (aq (.str "rest")) (aj (bh 2) (aj (gk wu (aj (bh 3) dz)) (aj (gk (fun l=>some (.tup l)) dz) dz))))) dz))))
  (j9 (cj 7 (gk (fun l=>some (.tup l)) (aj (aq (.str "rest")) (aj (bh 2) (aj (gk wu (aj (mOp jf (qb (bh 3) wg (ur (mUn jt (aq (.int 1))))) (gk (fun l=>some (.lst l)) (aj (gk (fun l=>some (.lst l)) (aj (bh 4) (aj (bh 5) (aj (bh 6) dz)))) dz))) dz)) dz)))))
  (j9 (kh (hName 8) (jw (gk (fun l=>some (.lst l)) (aj (gk (fun l=>some (.tup l)) (aj (bh 4) (aj (mOp jf (bh 5) (aq (.int 1))) (aj (bh 6) dz)))) (aj (gk (fun l=>some (.tup l)) (aj (mOp jf (bh 5) (aq (.int 1))) (aj (bh 4) (aj (mUn jt (bh 6)) dz)))) (aj (gk (fun l=>some (.tup l)) (aj (bh 4) (aj (bh 5) (aj (aq (.int 0)) dz)))) dz)))))
  (cj 7 (gk (fun l=>some (.tup l)) (aj (aq (.str "rest")) (aj (bh 2) (aj (gk wu (aj (mOp jf (qb (bh 3) wg (ur (mUn jt (aq (.int 1))))) (gk (fun l=>some (.lst l)) (aj (bh 8) dz))) dz)) dz))))))
  (j9 (kh (hName 9) (jw (bh 7))
  (sIf (fj (mOp Ge (fu oh (aj (bh 0) (aj (bh 1) (aj (bh 9) dz)))) (aq (.bl false))))
  (jl (aq (.bl false)))
  ju))
  (j9 (ji 10 (gk (fun l=>some (.lst l)) (aj (gk (fun l=>some (.tup l)) (aj (aq (.str "x")) (aj (mOp gn (mOp gn (bh 0) (aq (.int 0))) (aq (.int 1))) (aj (mOp gn (mOp gn (bh 0) (aq (.int 0))) (aq (.int 1))) dz)))) dz)))
  (j9 (ji 11 (gk (fun l=>some (.lst l)) (aj (gk (fun l=>some (.tup l)) (aj (aq (.str "rest")) (aj (gk (fun l=>some (.tup l)) (aj (aq (.int 1)) (aj (gk (fun l=>some (.tup l)) dz) dz))) (aj (aq (.int 2)) dz)))) dz)))
  (j9 (sIf (fj (mOp Ge (fu oh (aj (bh 10) (aj (bh 11) (aj (gk (fun l=>some (.tup l)) (aj (aq (.str "rest")) (aj (aq (.int 2)) (aj (gk (fun l=>some (.tup l)) (aj (gk (fun l=>some (.tup l)) (aj (aq (.int 2)) (aj (aq (.int 1)) dz))) (aj (gk (fun l=>some (.tup l)) (aj (aq (.int 0)) (aj (aq (.int 1)) (aj (aq (.int 2)) dz)))) dz))) dz)))) dz)))) (aq (.bl true))))
  (jl (aq (.bl false)))
  ju)
  (j9 (kh (hName 8) (jw (gk (fun l=>some (.lst l)) (aj (gk (fun l=>some (.tup l)) (aj (aq (.bl false)) (aj (aq (.int 1)) (aj (aq (.int 2)) dz)))) (aj (gk (fun l=>some (.tup l)) (aj (aq (.int 0)) (aj (aq (.bl true)) (aj (aq (.int 2)) dz)))) dz))))
  (sIf (fj (mOp Ge (fu oh (aj (bh 10) (aj (bh 11) (aj (gk (fun l=>some (.tup l)) (aj (aq (.str "rest")) (aj (aq (.int 2)) (aj (gk (fun l=>some (.tup l)) (aj (gk (fun l=>some (.tup l)) (aj (aq (.int 2)) (aj (aq (.int 1)) dz))) (aj (bh 8) dz))) dz)))) dz)))) (aq (.bl false))))
  (jl (aq (.bl false)))
  ju))
  (jl (aq (.bl true))))))))))))
noncomputable def Vt:Fn:=ig 15
  (j9 (ji 1 (fu j6 (aj (bh 0) (aj (aq (.int 0)) dz))))
  (j9 (ji 2 (fu Bk (aj (bh 0) dz)))
  (j9 (ji 3 (mOp jf (aq (.int 2)) (mOp jo (mOp iw (fu j6 (aj (bh 0) (aj (aq (.int 4)) dz))) (aq (.int 7))) (mOp gn (gk (fun l=>some (.lst l)) (aj (aq (.int 11)) (aj (mOp Pn (aq (.int 10)) (aq (.int 6))) dz))) (mOp jo (mOp iw (bh 1) (aq (.int 72))) (aq (.int 2)))))))
  (j9 (sNew 4 (gk (fun l=>some (.lst l)) dz))
  (j9 (kh (lq [5,6,7]) (jw (bh 2))
  (j9 (cj 4 (gk (fun l=>some (.tup l)) (aj (aq (.str "most")) (aj (gk (fun l=>some (.tup l)) (aj (bh 6) (aj (gk (fun l=>some (.tup l)) (aj (gk (fun l=>some (.tup l)) (aj (bh 5) (aj (mUn jt (aq (.int 1))) dz))) dz)) dz))) dz))))
  (cj 4 (gk (fun l=>some (.tup l)) (aj (aq (.str "most")) (aj (gk (fun l=>some (.tup l)) (aj (mUn jt (bh 7)) (aj (gk (fun l=>some (.tup l)) (aj (gk (fun l=>some (.tup l)) (aj (bh 5) (aj (aq (.int 1)) dz))) dz)) dz))) dz))))))
  (j9 (sGo (lq [8,9]) (fu Bv (aj (bh 0) (aj (bh 2) (aj (bh 3) (aj (qm 4) dz))))))
  (j9 (sIf (m7 (fj (fu ou (aj (bh 2) (aj (bh 8) (aj (bh 4) (aj (bh 3) (aj (bh 9) dz))))))))
  (jl (aq (.bl false)))
  ju)
  (j9 (kh (hName 10) (jw (gk (fun l=>some (.lst l)) (aj (mOp jf (bh 3) (aq (.int 1))) (aj (aq (.int 1)) (aj (aq (.int 0)) (aj (mUn jt (bh 3)) (aj (aq (.bl true)) (aj (mOp Dm (aq (.int 2)) (bh 3)) (aj (aq (.int 2)) dz)))))))))
  (sIf (m7 (fj (fu ou (aj (bh 2) (aj (bh 8) (aj (bh 4) (aj (bh 10) (aj (bh 9) dz))))))))
  (jl (aq (.bl false)))
  ju))
  (j9 (kh (hName 11) (jw (qb (bh 0) (ur (aq (.int 12))) (ur (aq (.int 50)))))
  (j9 (ji 12 (mOp jo (mOp iw (bh 11) (aq (.int 15))) (gk jz (aj (bh 9) dz))))
  (j9 (ji 13 (mOp jf (mOp jf (qb (bh 9) wg (ur (bh 12))) (gk (fun l=>some (.lst l)) (aj (fu wk (aj (mOp gn (bh 9) (bh 12)) (aj (bh 11) (aj (mOp jf (qm 4) (gk jz (aj (bh 8) dz))) dz)))) dz))) (qb (bh 9) (ur (mOp jf (bh 12) (aq (.int 1)))) wg)))
  (sIf (m7 (fj (fu ou (aj (bh 2) (aj (bh 8) (aj (bh 4) (aj (bh 3) (aj (bh 13) dz))))))))
  (jl (aq (.bl false)))
  ju))))
  (j9 (sIf (m7 (fj (fu Ad (aj (bh 2) (aj (bh 8) (aj (bh 3) (aj (bh 9) dz)))))))
  (jl (aq (.bl false)))
  ju)
  (j9 (ji 14 (mOp jf (qb (mOp gn (bh 9) (mUn jt (aq (.int 1)))) wg (ur (mUn jt (aq (.int 1))))) (gk (fun l=>some (.tup l)) (aj (aq (.int 0)) dz))))
  (jl (j5 (lg (fj (fu ou (aj (bh 2) (aj (bh 8) (aj (bh 4) (aj (bh 3) (aj (mOp jf (bh 9) (gk (fun l=>some (.lst l)) (aj (bh 14) dz))) dz))))))) (fj (fu ou (aj (bh 2) (aj (bh 8) (aj (bh 4) (aj (bh 3) (aj (gk (fun l=>some (.lst l)) dz) dz)))))))))))))))))))))
end K
end
noncomputable section
set_option linter.all false
set_option maxRecDepth 100000
set_option autoImplicit false
namespace K
open C PySem
noncomputable abbrev Pr:=Str × Int
noncomputable def pT (p:Pr):T:=.tup [.str p.1,.int p.2]
noncomputable abbrev Sm:=Int × List Pr
noncomputable def smT (s:Sm):T:=.tup [.int s.1,.tup (s.2.map pT)]
noncomputable def dd (d:List Pr):List (C.Key × T):=d.map fun p=>(.inr p.1,.int p.2)
noncomputable def gt:List Pr→Str→Int
  | [],_=>0
  | (k,v)::r,b=>if k=b then v else gt r b
noncomputable def ks (d:List Pr):List Str:=d.map (·.1)
noncomputable def pt (d:List Pr) (b:Str) (v:Int):List Pr:=if b∈ks d then d.map fun p=>if p.1=b then (p.1,v) else p else d++[(b,v)]
theorem Q5 (b:Str):∀ d:List Pr,(Pk (.inr b) (dd d)).getD (.int 0)=.int (gt d b)
  | []=>rfl
  | (k,v)::r=>by
    have ih:=Q5 b r
    unfold dd at ih ⊢
    simp only [List.map_cons,Pk,gt]
    by_cases h:k=b
    · simp [h]
    · rw [if_neg (by simpa using h),if_neg h,ih]
theorem Mr {b:Str}:∀ {d:List Pr},b∈ks d→Pk (.inr b) (dd d)=some (.int (gt d b))
  | [],h=>by simp [ks] at h
  | (k,v)::r,h=>by
    unfold dd
    simp only [List.map_cons,Pk,gt]
    by_cases e:k=b
    · simp [e]
    · rw [if_neg (by simpa using e),if_neg e]
      simp only [ks,List.map_cons,List.mem_cons] at h
      rcases h with h | h
      · exact absurd h.symm e
      · exact Mr (d:=r) h
theorem Ph {b:Str}:∀ {d:List Pr},b∉ks d→gt d b=0
  | [],_=>rfl
  | (k,v)::r,h=>by
    simp only [ks,List.map_cons,List.mem_cons,not_or] at h
    rw [gt,if_neg (fun e=>h.1 e.symm)]
    exact Ph (d:=r) h.2
theorem Xy (b:Str) (v:Int) (d:List Pr):Tq (.inr b) (.int v) (dd d)=dd (pt d b v):=by
  have any:((dd d).any fun p=>decide (p.1=Sum.inr b))=decide (b∈ks d):=by
    rw [Bool.eq_iff_iff]
    simp only [List.any_eq_true,decide_eq_true_eq,dd,ks,List.mem_map]
    constructor
    · rintro ⟨x,⟨p,hp,rfl⟩,h⟩
      simp only [Sum.inr.injEq] at h
      exact ⟨p,hp,h⟩
    · rintro ⟨p,hp,h⟩
      exact ⟨_,⟨p,hp,rfl⟩,by simp [h]⟩
  unfold Tq pt
  rw [any]
  by_cases h:b∈ks d
  · rw [if_pos (by simpa using h),if_pos h] -- here
    unfold dd
    rw [List.map_map,List.map_map] -- here
    apply List.map_congr_left
    intro p _
    simp only [Function.comp,Sum.inr.injEq]
    split <;> rfl
  · rw [if_neg (by simpa using h),if_neg h] -- here
    unfold dd
    rw [List.map_append]; rfl
theorem a6d (d:List Pr) (b:Str) (v:Int):ks (pt d b v)=if b∈ks d then ks d else ks d++[b]:=by
  unfold pt
  split
  · unfold ks
    rw [List.map_map]
    apply List.map_congr_left
    intro p _
    simp only [Function.comp]
    split <;> rfl
  · unfold ks; rw [List.map_append]; rfl
theorem N7 {b k:Str} {v:Int} {r:List Pr}:b∈ks ((k,v)::r)↔b=k∨b∈ks r:=by simp [ks]
theorem a1z {b:Str} {e:List Pr}:∀ {d:List Pr},gt (d++e) b=if b∈ks d then gt d b else gt e b
  | []=>by simp [ks]
  | (k,v)::r=>by
    simp only [List.cons_append,gt]
    by_cases h:k=b
    · rw [if_pos h,if_pos h,if_pos (N7.mpr (.inl h.symm))]
    · rw [if_neg h,if_neg h,a1z (d:=r)]
      have hiff:(b∈ks ((k,v)::r))↔b∈ks r:=N7.trans ⟨fun z=>z.resolve_left fun z=>h z.symm,.inr⟩
      by_cases hr:b∈ks r
      · rw [if_pos hr,if_pos (hiff.mpr hr)]
      · rw [if_neg hr,if_neg (fun z=>hr (hiff.mp z))]
theorem a1u {b c:Str} {v:Int}:∀ {d:List Pr},gt (d.map fun p=>if p.1=b then (p.1,v) else p) c=if c=b∧c∈ks d then v else gt d c
  | []=>by simp [ks,gt]
  | (k,w)::r=>by
    have ih:=a1u (b:=b) (c:=c) (v:=v) (d:=r)
    rw [List.map_cons]
    by_cases h:k=b
    · rw [if_pos h]
      simp only [gt]
      by_cases hc:k=c
      · rw [if_pos hc,if_pos ⟨by rw [← hc,h],N7.mpr (.inl hc.symm)⟩]
      · rw [if_neg hc,if_neg hc,ih]
        have hb:¬ c=b:=fun z=>hc (by rw [h,z])
        rw [if_neg (fun z=>hb z.1),if_neg (fun z=>hb z.1)]
    · rw [if_neg h]
      simp only [gt]
      by_cases hc:k=c
      · rw [if_pos hc,if_pos hc]
        have hb:¬ c=b:=fun z=>h (by rw [hc,z])
        rw [if_neg (fun z=>hb z.1)]
      · rw [if_neg hc,if_neg hc,ih]
        have hiff:(c∈ks ((k,w)::r))↔c∈ks r:=N7.trans ⟨fun z=>z.resolve_left fun z=>hc z.symm,.inr⟩
        by_cases hr:c=b∧c∈ks r
        · rw [if_pos hr,if_pos ⟨hr.1,hiff.mpr hr.2⟩]
        · rw [if_neg hr,if_neg (fun z=>hr ⟨z.1,hiff.mp z.2⟩)]
theorem a8n {d:List Pr} {b c:Str} {v:Int}:gt (pt d b v) c=if c=b then v else gt d c:=by
  unfold pt
  split
  · rename_i h
    rw [a1u]
    by_cases e:c=b
    · rw [if_pos ⟨e,by rw [e]; exact h⟩,if_pos e]
    · rw [if_neg (fun z=>e z.1),if_neg e]
  · rename_i h
    rw [a1z]
    by_cases e:c=b
    · subst e
      rw [if_neg h,if_pos rfl]; simp [gt]
    · rw [if_neg e]
      split
      · rfl
      · rename_i h2
        have:¬ b=c:=fun z=>e z.symm
        rw [Ph h2]
        simp [gt,this]
noncomputable def tot:List Pr→Str→Int
  | [],_=>0
  | (k,v)::r,b=>(if k=b then v else 0)+tot r b
noncomputable def Rz (l:List Pr) (d:List Pr):List Pr:=l.foldl (fun d p=>pt d p.1 (gt d p.1+p.2)) d
theorem Sg (b:Str):∀ (l d:List Pr),gt (Rz l d) b=gt d b+tot l b
  | [],d=>by simp [Rz,tot]
  | (k,v)::r,d=>by
    have ih:=Sg b r (pt d k (gt d k+v))
    unfold Rz at ih ⊢
    rw [List.foldl_cons,ih,a8n,tot]
    by_cases h:b=k
    · subst h; simp; omega
    · have h2:¬ k=b:=fun z=>h z.symm
      rw [if_neg h,if_neg h2]; omega
theorem Rq:∀ (l d:List Pr),(ks d).Nodup→(ks (Rz l d)).Nodup∧(∀ b,b∈ks (Rz l d)↔b∈ks d∨b∈ks l)
  | [],d,h=>⟨h,fun b=>by simp [Rz,ks]⟩
  | (k,v)::r,d,h=>by
    have h1:(ks (pt d k (gt d k+v))).Nodup:=by
      rw [a6d]
      split
      · exact h
      · rename_i hn
        rw [List.nodup_append]
        exact ⟨h,by simp,fun a ha b hb=>by simp at hb; subst hb; exact fun z=>hn (by rw [← z]; exact ha)⟩
    obtain ⟨a1,a2⟩:=Rq r (pt d k (gt d k+v)) h1
    unfold Rz at a1 a2 ⊢
    rw [List.foldl_cons]
    refine ⟨a1,fun b=>?_⟩
    rw [a2 b,a6d,N7]
    by_cases hk:k∈ks d
    · rw [if_pos hk]
      constructor
      · rintro (z | z)
        · exact .inl z
        · exact .inr (.inr z)
      · rintro (z | z | z)
        · exact .inl z
        · subst z; exact .inl hk
        · exact .inr z
    · rw [if_neg hk]
      constructor
      · rintro (z | z)
        · rcases List.mem_append.mp z with z | z
          · exact .inl z
          · simp at z; exact .inr (.inl z)
        · exact .inr (.inr z)
      · rintro (z | z | z)
        · exact .inl (List.mem_append_left _ z)
        · subst z; exact .inl (List.mem_append_right _ (by simp))
        · exact .inr z
structure Uni (U:List Str):Prop where
  len:U.length≤8
  ok:∀ x∈U,okS x
  ins:∀ x∈U,∀ P:Str→Bool,P x=false→Vy x (U.filter P)=U.filter fun b=>P b||b==x
noncomputable def canon (U:List Str) (f:Str→Int):List Pr:=(U.filter fun b=>f b != 0).map fun b=>(b,f b)
theorem O5 {U:List Str} (u:Uni U):∀ (l:List Str) (P:Str→Bool),l.Nodup→(∀ b∈l,b∈U∧P b=false)→l.foldl (fun acc x=>Vy x acc) (U.filter P)=U.filter fun b=>P b||l.contains b
  | [],P,_,_=>by simp
  | x::l,P,hn,h=>by
    obtain ⟨h1,h2⟩:=List.nodup_cons.mp hn
    rw [List.foldl_cons,u.ins x (h x List.mem_cons_self).1 P (h x List.mem_cons_self).2,O5 u l _ h2 fun b hb=>⟨(h b (List.mem_cons_of_mem _ hb)).1,by
      rw [(h b (List.mem_cons_of_mem _ hb)).2,Bool.false_or]
      exact beq_eq_false_iff_ne.mpr fun z=>h1 (by rw [← z]; exact hb)⟩]
    congr 1
    funext b
    rw [List.contains_cons,Bool.or_assoc]
theorem Fg {U l:List Str} (u:Uni U) (hn:l.Nodup) (h:∀ b∈l,b∈U):Dd l=U.filter fun b=>l.contains b:=by
  have:=O5 u l (fun _=>false) hn fun b hb=>⟨h b hb,rfl⟩
  unfold Dd
  rw [show U.filter (fun _=>false)=[] by simp] at this
  rw [this]
  apply List.filter_congr
  intro b _
  simp
theorem J8 {U:List Str} {d:List Pr} (u:Uni U) (hn:(ks d).Nodup) (h:∀ b∈ks d,b∈U):((Dd (ks d)).filter fun b=>gt d b != 0)=U.filter fun b=>gt d b != 0:=by
  rw [Fg u hn h,List.filter_filter]
  apply List.filter_congr
  intro b hb
  by_cases e:b∈ks d
  · simp [e]
  · simp [Ph e]
theorem Ma {U:List Str} {d:List Pr} (u:Uni U) (hn:(ks d).Nodup) (h:∀ b∈ks d,b∈U):d.length≤U.length:=by
  have h1:=List.Nodup.length_le_of_subset hn h
  simpa [ks] using h1
end K
end
noncomputable section
set_option linter.all false
set_option maxRecDepth 100000
set_option autoImplicit false
namespace K
open C PySem
noncomputable def U4:List Str:=["@q","x","z"]
theorem Yz:Uni U4 where
  len:=by decide
  ok:=by unfold okS; decide +kernel
  ins:=by
    intro x hx P hP
    simp only [U4,List.mem_cons,List.not_mem_nil,or_false] at hx
    unfold U4
    rcases hx with rfl | rfl | rfl
    · cases h1:P "x" <;> cases h2:P "z" <;> simp only [List.filter_cons,List.filter_nil,hP,h1,h2] <;> decide +kernel
    · cases h1:P "@q" <;> cases h2:P "z" <;> simp only [List.filter_cons,List.filter_nil,hP,h1,h2] <;> decide +kernel
    · cases h1:P "@q" <;> cases h2:P "x" <;> simp only [List.filter_cons,List.filter_nil,hP,h1,h2] <;> decide +kernel
noncomputable section
variable {U:List Str} {sto:List SO}
theorem keys_str:∀ d:List Pr,Ih ((dd d).map fun p=>Vo p.1)=some (ks d)
  | []=>rfl
  | (k,v)::r=>by
    have ih:=keys_str r
    show (Ih ((dd r).map fun p=>Vo p.1)).map (k :: ·)=_
    rw [ih]; rfl
theorem Nu {d:List Pr} (h:d.length<64):Dk [.dic (dd d)]=some (.lst ((Dd (ks d)).map T.str)):=by
  have h2:(dd d).length<64:=by simpa [dd] using h
  simp only [Dk,if_pos h2,keys_str,Option.map_some]
noncomputable def prs (l:List Pr) (s:T):Prop:=s=.lst (l.map pT)∨s=.tup (l.map pT)
theorem a3l {l:List Pr} {s:T} (h:prs l s) (hl:l.length<1000000) {m:M T} {st st':Sta} (e:m st=some (s,st')):jw m st=some (l.map pT,st'):=by
  have h1:l.length<lim:=hl
  rcases h with rfl | rfl <;> simp [jw,e,h1]
theorem a2a {b:Str} {v:Int} {d:List Pr}:Tq (.inr b) (.int v) (dd d)=dd (pt d b v):=Xy b v d
theorem X7 {v:Int}:neO (.int v) (.int 0)=some (.bl (v != 0)):=by
  rw [Ac]; rfl
theorem a1w {n:Int} {l:List Pr} {s:T} (u:Uni U) (hs:prs l s) (hl:l.length<1000) (hU:∀ b∈ks l,b∈U):Ca [.int n,s] sto=some (smT (n,canon U (tot l)),sto):=by
  have e1:bh 1 ⟨[some (.int n,false),some (s,false),some (.dic (dd []),true),none,none,none],sto⟩=some (s,⟨[some (.int n,false),some (s,false),some (.dic (dd []),true),none,none,none],sto⟩):=rfl
  have is:=a3l hs (by omega) e1
  obtain ⟨hn,hk⟩:=Rq l [] (by simp [ks])
  have hkU:∀ b∈ks (Rz l []),b∈U:=fun b hb=>by
    rcases (hk b).mp hb with z | z
    · simp [ks] at z
    · exact hU b z
  have hlen:=Ma u hn hkU
  have ul:=u.len
  unfold Ca ig
  rw [show ([T.int n,s].map (fun t=>some (t,false))++List.replicate (6 - [T.int n,s].length) none:List Slot)=[some (.int n,false),some (s,false),none,none,none,none] from rfl]
  rw [j4 (s':=⟨[some (.int n,false),some (s,false),some (.dic (dd []),true),none,none,none],sto⟩) rfl]
  have loop:(kh (lq [3,4]) (jw (bh 1)) (Fb 2 (bh 3) (mOp jf (Ep 2 (bh 3) (aq (.int 0))) (bh 4)))) ⟨[some (.int n,false),some (s,false),some (.dic (dd []),true),none,none,none],sto⟩
      = some (.next,⟨[some (.int n,false),some (s,false),some (.dic (dd (Rz l [])),true),(l.foldl (fun (x:List Pr × Slot × Slot) p=>(pt x.1 p.1 (gt x.1 p.1+p.2),some (.str p.1,false),some (.int p.2,false))) ([],none,none)).2.1,(l.foldl (fun (x:List Pr × Slot × Slot) p=>(pt x.1 p.1 (gt x.1 p.1+p.2),some (.str p.1,false),some (.int p.2,false))) ([],none,none)).2.2,none],sto⟩):=by
    unfold kh
    rw [is]
    dsimp only
    generalize hF:forL _ _ _ _=r
    obtain ⟨rfl,_⟩:=Uh hF pT l (fun (x:List Pr × Slot × Slot)=>(⟨[some (.int n,false),some (s,false),some (.dic (dd x.1),true),x.2.1,x.2.2,none],sto⟩:Sta)) ([],none,none)
      (fun x p=>(pt x.1 p.1 (gt x.1 p.1+p.2),some (.str p.1,false),some (.int p.2,false))) (fun r x=>x.1.length+r.length≤l.length) rfl rfl (by simp) (by
        rintro p r x h1
        simp only [List.length_cons] at h1
        have hlt:(dd x.1).length<lim:=by simp only [dd,List.length_map]; show _<1000000; omega
        refine ⟨⟨_,by unfold pT; exact a3s,?_⟩,?_⟩
        · simp [ig,j9,sIf,ji,sNew,jl,ju,sNx,dw,sGo,dg,kh,cj,dj,jc,fj,m7,lg,mOr,j5,mIf,mOp,mUn,bh,gk,aj,dz,aq,jd,fu,cg,hName,lq,gj,jw,ltT,leT,jz,jf,lu,jo,iw,jt,mj,j8,j7,bw,m8,Fb,Ep,Nr,keyOf,Q5,hlt,a2a]
        · have:(pt x.1 p.1 (gt x.1 p.1+p.2)).length≤x.1.length+1:=by
            unfold pt
            split
            · rw [List.length_map]; omega
            · rw [List.length_append,List.length_singleton]; exact Nat.le_refl _
          dsimp only
          omega)
    have fst:∀ (l:List Pr) (x:List Pr × Slot × Slot),(l.foldl (fun (x:List Pr × Slot × Slot) p=>(pt x.1 p.1 (gt x.1 p.1+p.2),some (T.str p.1,false),some (T.int p.2,false))) x).1=Rz l x.1:=fun l=>by
      induction l with
      | nil=>intro x; rfl
      | cons p l ih=>intro x; rw [List.foldl_cons,ih]; rfl
    rw [fst]
  rw [j4 loop]
  generalize (l.foldl (fun (x:List Pr × Slot × Slot) p=>(pt x.1 p.1 (gt x.1 p.1+p.2),some (T.str p.1,false),some (T.int p.2,false))) ([],none,none)).2.1=o3
  generalize (l.foldl (fun (x:List Pr × Slot × Slot) p=>(pt x.1 p.1 (gt x.1 p.1+p.2),some (T.str p.1,false),some (T.int p.2,false))) ([],none,none)).2.2=o4
  generalize hd:Rz l []=d at *
  have hso:=Nu (d:=d) (by omega)
  have il:(Dd (ks d)).length<lim:=by
    rw [Fg u hn hkU]
    exact Nat.lt_of_le_of_lt (List.length_filter_le _ _) (by show _<1000000; omega)
  simp [ig,j9,sIf,ji,sNew,jl,ju,sNx,dw,sGo,dg,kh,cj,dj,jc,fj,m7,lg,mOr,j5,mIf,mOp,mUn,bh,gk,aj,dz,aq,jd,fu,cg,hName,lq,gj,jw,ltT,leT,jz,jf,lu,jo,iw,jt,mj,j8,j7,bw,m8]
  generalize hF:uw 1 _ _ _ _ _ _=r
  have e:=Je hF T.str (fun b=>pT (b,gt d b)) (fun b=>gt d b != 0) (Dd (ks d)) ⟨[some (.int n,false),some (s,false),some (.dic (dd d),false),o3,o4,none],sto⟩ [some (.int n,false),some (s,false),some (.dic (dd d),false),o3,o4,none] [some (.dic (dd d),false)] (by first | exact rfl | simp [ig,j9,sIf,ji,sNew,jl,ju,sNx,dw,sGo,dg,kh,cj,dj,jc,fj,m7,lg,mOr,j5,mIf,mOp,mUn,bh,gk,aj,dz,aq,jd,fu,cg,hName,lq,gj,jw,ltT,leT,jz,jf,lu,jo,iw,jt,mj,j8,j7,bw,m8,hso,il]) rfl rfl rfl (Nat.le_of_lt il) (fun b hb pre hp=>by
    have hb2:b∈ks d:=by
      rw [Fg u hn hkU] at hb
      have:=(List.mem_filter.mp hb).2
      simpa using this
    have hg:=Mr hb2
    match pre,hp with
    | [p0],_=>exact ⟨[some (.str b,false)],rfl,by first | exact rfl | simp [ig,j9,sIf,ji,sNew,jl,ju,sNx,dw,sGo,dg,kh,cj,dj,jc,fj,m7,lg,mOr,j5,mIf,mOp,mUn,bh,gk,aj,dz,aq,jd,fu,cg,hName,lq,gj,jw,ltT,leT,jz,jf,lu,jo,iw,jt,mj,j8,j7,bw,m8],by first | exact rfl | simp [ig,j9,sIf,ji,sNew,jl,ju,sNx,dw,sGo,dg,kh,cj,dj,jc,fj,m7,lg,mOr,j5,mIf,mOp,mUn,bh,gk,aj,dz,aq,jd,fu,cg,hName,lq,gj,jw,ltT,leT,jz,jf,lu,jo,iw,jt,mj,j8,j7,bw,m8,gn,keyOf,hg,X7],fun _=>by first | exact rfl | simp [ig,j9,sIf,ji,sNew,jl,ju,sNx,dw,sGo,dg,kh,cj,dj,jc,fj,m7,lg,mOr,j5,mIf,mOp,mUn,bh,gk,aj,dz,aq,jd,fu,cg,hName,lq,gj,jw,ltT,leT,jz,jf,lu,jo,iw,jt,mj,j8,j7,bw,m8,gn,keyOf,hg,pT]⟩)
  subst e
  rw [J8 u hn hkU]
  have hg:∀ b,gt d b=tot l b:=fun b=>by rw [← hd,Sg]; simp [gt]
  simp [ig,j9,sIf,ji,sNew,jl,ju,sNx,dw,sGo,dg,kh,cj,dj,jc,fj,m7,lg,mOr,j5,mIf,mOp,mUn,bh,gk,aj,dz,aq,jd,fu,cg,hName,lq,gj,jw,ltT,leT,jz,jf,lu,jo,iw,jt,mj,j8,j7,bw,m8,wu,smT,canon]
  simp only [hg]
  rfl
end
end K
end
noncomputable section
set_option linter.all false
set_option maxRecDepth 100000
set_option autoImplicit false
namespace K
open C PySem
noncomputable section
variable {U:List Str} {sto:List SO}
theorem Ui:∀ l:List Pr,Eh (l.map pT)=some (dd l)
  | []=>rfl
  | (k,v)::r=>by
    have ih:=Ui r
    simp only [List.map_cons,pT,Eh,keyOf,ih]; rfl
theorem Yh:∀ (l d:List Pr),(dd l).foldl (fun d p=>Tq p.1 p.2 d) (dd d)=dd (l.foldl (fun d p=>pt d p.1 p.2) d)
  | [],d=>rfl
  | (k,v)::r,d=>by
    have ih:=Yh r (pt d k v)
    show (dd r).foldl _ (Tq (.inr k) (.int v) (dd d))=_
    rw [Xy,ih]; rfl
theorem Tv:∀ (l d:List Pr),(ks d++ks l).Nodup→l.foldl (fun d p=>pt d p.1 p.2) d=d++l
  | [],d,_=>by simp
  | (k,v)::r,d,h=>by
    have hk:k∉ks d:=fun z=>by
      rw [List.nodup_append] at h
      exact h.2.2 k z k (by simp [ks]) rfl
    have e:pt d k v=d++[(k,v)]:=by unfold pt; rw [if_neg hk]
    rw [List.foldl_cons]
    show r.foldl _ (pt d k v)=_
    rw [e,Tv r (d++[(k,v)]) (by
      have:ks (d++[(k,v)])++ks r=ks d++ks ((k,v)::r):=by simp [ks]
      rw [this]; exact h)]
    simp
theorem a4w {l:List Pr} (hn:(ks l).Nodup) (hl:l.length<1000000):Jd [.tup (l.map pT)]=some (.dic (dd l)):=by
  have h1:(l.map pT).length<lim:=by rw [List.length_map]; exact hl
  have:=Yh l []
  rw [Tv l [] (by simpa [ks] using hn)] at this
  simp only [Jd,if_pos h1,Ui,Option.map_some]
  rw [show ([]:List (C.Key × T))=dd [] from rfl,this]
  simp
structure Ig (U:List Str) (s:Sm):Prop where
  nd:(ks s.2).Nodup
  sub:∀ b∈ks s.2,b∈U
theorem Tp {f:Str→Int}:ks (canon U f)=U.filter fun b=>f b != 0:=by
  unfold ks canon
  rw [List.map_map]
  exact List.map_id' _
theorem Sw {f:Str→Int} (hU:U.Nodup) {b:Str} (hb:b∈U):gt (canon U f) b=f b:=by
  unfold canon
  induction U with
  | nil=>cases hb
  | cons c U ih =>
    obtain ⟨h1,h2⟩:=List.nodup_cons.mp hU
    rw [List.filter_cons]
    rcases List.mem_cons.mp hb with rfl | hb'
    · by_cases h0:f b=0
      · rw [if_neg (by simp [h0])]
        rw [Ph,h0]
        intro z
        simp only [ks,List.map_map,List.mem_map,List.mem_filter] at z
        obtain ⟨a,⟨ha,_⟩,e⟩:=z
        exact h1 (by rw [← e]; exact ha)
      · rw [if_pos (by simp [h0])]
        simp [gt]
    · have hne:c≠b:=fun z=>h1 (by rw [z]; exact hb')
      split
      · rw [List.map_cons,gt,if_neg hne]; exact ih h2 hb'
      · exact ih h2 hb'
theorem Ae {f:Str→Int} {n:Int} (hU:U.Nodup):Ig U (n,canon U f):=⟨by
  show (ks (canon U f)).Nodup
  rw [Tp]; exact hU.filter _,fun b hb=>by
  have hb:b∈ks (canon U f):=hb
  rw [Tp] at hb; exact (List.mem_filter.mp hb).1⟩
theorem Oe {b:Str}:∀ {l:List Pr},(ks l).Nodup→tot l b=gt l b
  | [],_=>rfl
  | (k,v)::r,h=>by
    obtain ⟨h1,h2⟩:=List.nodup_cons.mp (show (k::ks r).Nodup from h)
    rw [tot,gt,Oe h2]
    by_cases e:k=b
    · subst e; rw [if_pos rfl,if_pos rfl,Ph h1]; omega
    · rw [if_neg e,if_neg e]; omega
noncomputable def Xx (t:Int) (l:List Pr):List Pr:=l.map fun p=>(p.1,p.2 * t)
theorem a2x {t:Int} {l:List Pr}:ks (Xx t l)=ks l:=by unfold ks Xx; rw [List.map_map]; rfl
theorem Ue {t:Int} {b:Str}:∀ {l:List Pr},tot (Xx t l) b=tot l b * t
  | []=>by simp [Xx,tot]
  | (k,v)::r=>by
    have ih:=Ue (t:=t) (b:=b) (l:=r)
    simp only [Xx,List.map_cons,tot] at ih ⊢
    rw [ih,Int.add_mul]
    by_cases e:k=b
    · simp [e]
    · simp [e]
theorem Gw {s:Sm} (u:Uni U) (h:Ig U s):s.2.length≤8:=Nat.le_trans (Ma u h.nd h.sub) u.len
theorem Fv {s1 s2:Sm} {t:Int} (u:Uni U) (h1:Ig U s1) (h2:Ig U s2) (hb:Ah t=true):jm [smT s1,smT s2,.int t] sto=some (smT (s1.1+s2.1 * t,canon U (fun b=>gt s1.2 b+gt s2.2 b * t)),sto):=by
  obtain ⟨n1,l1⟩:=s1
  obtain ⟨n2,l2⟩:=s2
  have le1:=Gw u h1
  have le2:=Gw u h2
  dsimp only at le1 le2
  have hdi:=a4w h1.nd (l:=l1) (by omega)
  have il:l2.length<lim:=by show _<1000000; omega
  obtain ⟨hn,hk⟩:=Rq (Xx t l2) l1 h1.nd
  have hkU:∀ b∈ks (Rz (Xx t l2) l1),b∈U:=fun b hb=>by
    rcases (hk b).mp hb with z | z
    · exact h1.sub b z
    · rw [a2x] at z; exact h2.sub b z
  have hlen:=Ma u hn hkU
  have ul:=u.len
  unfold jm
  simp [ig,j9,sIf,ji,sNew,jl,ju,sNx,dw,sGo,dg,kh,cj,dj,jc,fj,m7,lg,mOr,j5,mIf,mOp,mUn,bh,gk,aj,dz,aq,jd,fu,cg,hName,lq,gj,jw,ltT,leT,jz,jf,lu,jo,iw,jt,mj,j8,j7,bw,m8,smT,uf,xg,hdi,il]
  generalize hF:forL _ _ _ _=r
  obtain ⟨rfl,p1⟩:=Uh hF pT l2 (fun (x:List Pr × Slot × Slot)=>(⟨[some (smT (n1,l1),false),some (smT (n2,l2),false),some (.int t,false),some (.dic (dd x.1),true),x.2.1,x.2.2,none],sto⟩:Sta)) (l1,none,none)
    (fun x p=>(pt x.1 p.1 (gt x.1 p.1+p.2 * t),some (.str p.1,false),some (.int p.2,false))) (fun r x=>x.1.length+r.length≤l1.length+l2.length) rfl rfl (by simp) (by
      rintro p r x h1
      simp only [List.length_cons] at h1
      have hlt:(dd x.1).length<lim:=by simp only [dd,List.length_map]; show _<1000000; omega
      refine ⟨⟨_,by unfold pT; exact a3s,?_⟩,?_⟩
      · simp [ig,j9,sIf,ji,sNew,jl,ju,sNx,dw,sGo,dg,kh,cj,dj,jc,fj,m7,lg,mOr,j5,mIf,mOp,mUn,bh,gk,aj,dz,aq,jd,fu,cg,hName,lq,gj,jw,ltT,leT,jz,jf,lu,jo,iw,jt,mj,j8,j7,bw,m8,Fb,Ep,Nr,keyOf,Q5,hlt,a2a,Dm,hb]
      · have:(pt x.1 p.1 (gt x.1 p.1+p.2 * t)).length≤x.1.length+1:=by
          unfold pt
          split
          · rw [List.length_map]; omega
          · rw [List.length_append,List.length_singleton]; exact Nat.le_refl _
        dsimp only
        omega)
  have fst:∀ (l:List Pr) (x:List Pr × Slot × Slot),(l.foldl (fun (x:List Pr × Slot × Slot) p=>(pt x.1 p.1 (gt x.1 p.1+p.2 * t),some (T.str p.1,false),some (T.int p.2,false))) x).1=Rz (Xx t l) x.1:=fun l=>by
    induction l with
    | nil=>intro x; rfl
    | cons p l ih=>intro x; rw [List.foldl_cons,ih]; rfl
  generalize hX:List.foldl _ _ _=X1 at p1
  have ex:X1.1=Rz (Xx t l2) l1:=by rw [← hX,fst]
  obtain ⟨d,o4,o5⟩:=X1
  dsimp only at ex
  generalize hd:Rz (Xx t l2) l1=d' at *
  subst ex
  have hso:=Nu (d:=d) (by omega)
  have il2:(Dd (ks d)).length<lim:=by
    rw [Fg u hn hkU]
    exact Nat.lt_of_le_of_lt (List.length_filter_le _ _) (by show _<1000000; omega)
  simp [ig,j9,sIf,ji,sNew,jl,ju,sNx,dw,sGo,dg,kh,cj,dj,jc,fj,m7,lg,mOr,j5,mIf,mOp,mUn,bh,gk,aj,dz,aq,jd,fu,cg,hName,lq,gj,jw,ltT,leT,jz,jf,lu,jo,iw,jt,mj,j8,j7,bw,m8]
  generalize hF:uw 1 _ _ _ _ _ _=r
  have e:=Je hF T.str (fun b=>pT (b,gt d b)) (fun b=>gt d b != 0) (Dd (ks d)) ⟨[some (smT (n1,l1),false),some (smT (n2,l2),false),some (.int t,false),some (.dic (dd d),false),o4,o5,none],sto⟩ [some (smT (n1,l1),false),some (smT (n2,l2),false),some (.int t,false),some (.dic (dd d),false),o4,o5,none] [some (.dic (dd d),false)] (by first | exact rfl | simp [ig,j9,sIf,ji,sNew,jl,ju,sNx,dw,sGo,dg,kh,cj,dj,jc,fj,m7,lg,mOr,j5,mIf,mOp,mUn,bh,gk,aj,dz,aq,jd,fu,cg,hName,lq,gj,jw,ltT,leT,jz,jf,lu,jo,iw,jt,mj,j8,j7,bw,m8,hso,il2]) rfl rfl rfl (Nat.le_of_lt il2) (fun b hb pre hp=>by
    have hb2:b∈ks d:=by
      rw [Fg u hn hkU] at hb
      have:=(List.mem_filter.mp hb).2
      simpa using this
    have hg:=Mr hb2
    match pre,hp with
    | [p0],_=>exact ⟨[some (.str b,false)],rfl,by first | exact rfl | simp [ig,j9,sIf,ji,sNew,jl,ju,sNx,dw,sGo,dg,kh,cj,dj,jc,fj,m7,lg,mOr,j5,mIf,mOp,mUn,bh,gk,aj,dz,aq,jd,fu,cg,hName,lq,gj,jw,ltT,leT,jz,jf,lu,jo,iw,jt,mj,j8,j7,bw,m8],by first | exact rfl | simp [ig,j9,sIf,ji,sNew,jl,ju,sNx,dw,sGo,dg,kh,cj,dj,jc,fj,m7,lg,mOr,j5,mIf,mOp,mUn,bh,gk,aj,dz,aq,jd,fu,cg,hName,lq,gj,jw,ltT,leT,jz,jf,lu,jo,iw,jt,mj,j8,j7,bw,m8,gn,keyOf,hg,X7],fun _=>by first | exact rfl | simp [ig,j9,sIf,ji,sNew,jl,ju,sNx,dw,sGo,dg,kh,cj,dj,jc,fj,m7,lg,mOr,j5,mIf,mOp,mUn,bh,gk,aj,dz,aq,jd,fu,cg,hName,lq,gj,jw,ltT,leT,jz,jf,lu,jo,iw,jt,mj,j8,j7,bw,m8,gn,keyOf,hg,pT]⟩)
  subst e
  rw [J8 u hn hkU]
  have hg:∀ b,gt d b=gt l1 b+gt l2 b * t:=fun b=>by rw [← hd,Sg,Ue,Oe h2.nd]
  simp [ig,j9,sIf,ji,sNew,jl,ju,sNx,dw,sGo,dg,kh,cj,dj,jc,fj,m7,lg,mOr,j5,mIf,mOp,mUn,bh,gk,aj,dz,aq,jd,fu,cg,hName,lq,gj,jw,ltT,leT,jz,jf,lu,jo,iw,jt,mj,j8,j7,bw,m8,wu,smT,canon,uf,Dm,hb]
  simp only [hg]
  rfl
end
end K
end
noncomputable section
set_option linter.all false
set_option maxRecDepth 100000
set_option autoImplicit false
namespace K
open C PySem
inductive Fm where
  | atom (k:Str) (r:List T) | all (l:List Fm) | any (ms:List T)
mutual
noncomputable def fmT:Fm→T
  | .atom k r=>.tup (.str k::r)
  | .all l=>.tup [.str "and",.tup (a7x l)]
  | .any ms=>.tup [.str "or",.tup ms]
noncomputable def a7x:List Fm→List T
  | []=>[]
  | f::l=>fmT f::a7x l
end
mutual
noncomputable def fsz:Fm→Nat
  | .atom _ _=>1
  | .all l=>1+Mg l
  | .any _=>1
noncomputable def Mg:List Fm→Nat
  | []=>0
  | f::l=>fsz f+Mg l
end
mutual
noncomputable def flA:Fm→List T
  | .atom k r=>[.tup (.str k::r)]
  | .all l=>Oj l
  | .any _=>[]
noncomputable def Oj:List Fm→List T
  | []=>[]
  | f::l=>flA f++Oj l
end
mutual
noncomputable def flO:Fm→List T
  | .atom _ _=>[]
  | .all l=>Ft l
  | .any ms=>[.tup ms]
noncomputable def Ft:List Fm→List T
  | []=>[]
  | f::l=>flO f++Ft l
end
noncomputable def okA (k:Str):Prop:=okS k∧(k==("and" : Str))=false∧(k==("or" : Str))=false
mutual
noncomputable def okF:Fm→Prop
  | .atom k _=>okA k
  | .all l=>Yy l
  | .any _=>True
noncomputable def Yy:List Fm→Prop
  | []=>True
  | f::l=>okF f∧Yy l
end
theorem Ua:∀ l:List Fm,a7x l=l.map fmT
  | []=>rfl
  | f::l=>by rw [a7x,Ua l]; rfl
theorem Il:∀ l r:List Fm,Mg (l++r)=Mg l+Mg r
  | [],r=>by simp [Mg]
  | f::l,r=>by rw [List.cons_append,Mg,Mg,Il l r]; omega
theorem Uc:∀ l r:List Fm,Oj (l++r)=Oj l++Oj r
  | [],r=>by simp [Oj]
  | f::l,r=>by rw [List.cons_append,Oj,Oj,Uc l r,List.append_assoc]
theorem Tz:∀ l r:List Fm,Ft (l++r)=Ft l++Ft r
  | [],r=>by simp [Ft]
  | f::l,r=>by rw [List.cons_append,Ft,Ft,Tz l r,List.append_assoc]
theorem Ug:∀ l r:List Fm,Yy l→Yy r→Yy (l++r)
  | [],r,_,h=>h
  | f::l,r,h1,h2=>by rw [List.cons_append,Yy]; exact ⟨h1.1,Ug l r h1.2 h2⟩
theorem Q7:∀ l:List Fm,l.length≤Mg l
  | []=>by simp [Mg]
  | f::l=>by
    have:=Q7 l
    have:1≤fsz f:=by cases f <;> simp [fsz] <;> omega
    rw [Mg,List.length_cons]; omega
theorem Z7 {f:Fm} {r:List Fm}:((f::r).reverse.map fmT)[((f::r).reverse.map fmT).length - 1]? = some (fmT f):=by
  rw [List.reverse_cons,List.map_append,List.length_append]
  simp
theorem a1c {f:Fm} {r:List Fm}:((f::r).reverse.map fmT).dropLast=r.reverse.map fmT:=by
  rw [List.reverse_cons,List.map_append]
  simp
theorem T3:okS "and" := by unfold okS; decide +kernel
theorem Yo:okS "or" := by unfold okS; decide +kernel
theorem a6f:(("or" : Str)==("and" : Str))=false:=by decide +kernel
noncomputable section
variable {sto:List SO} {L F:T}
noncomputable abbrev a5v:M Bool:=fj (mOp gtT (qm 4) (aq (.int 0)))
noncomputable abbrev a8w:S:=(j9 (a1r 4 5)
  (sIf (fj (mOp eqO (mOp gn (bh 5) (aq (.int 0))) (aq (.str "and"))))
  (dj 4 (mUn Z0 (mOp gn (bh 5) (aq (.int 1)))))
  (sIf (fj (mOp eqO (mOp gn (bh 5) (aq (.int 0))) (aq (.str "or"))))
  (cj 3 (mOp gn (bh 5) (aq (.int 1))))
  (cj 2 (bh 5)))))
theorem Gh:∀ (n:Nat) (l:List Fm) (A O:List T) (o5:Slot),Mg l<n→Yy l→A.length+Mg l<900000→O.length+Mg l<900000→∃ o5',Al n a5v a8w ⟨[some (L,false),some (F,false),some (.lst A,true),some (.lst O,true),some (.lst (l.reverse.map fmT),true),o5],sto⟩=some (.next,⟨[some (L,false),some (F,false),some (.lst (A++Oj l),true),some (.lst (O++Ft l),true),some (.lst [],true),o5'],sto⟩)
  | 0,l,A,O,o5,h,_,_,_=>by omega
  | n+1,[],A,O,o5,h,ok,h1,h2=>⟨o5,by
    rw [Al]
    simp [ig,j9,sIf,ji,sNew,jl,ju,sNx,dw,sGo,dg,kh,cj,dj,jc,fj,m7,lg,mOr,j5,mIf,mOp,mUn,bh,gk,aj,dz,aq,jd,fu,cg,hName,lq,gj,jw,ltT,leT,jz,jf,lu,jo,iw,jt,mj,j8,j7,bw,m8,qm,gtT,Oj,Ft]⟩
  | n+1,f::r,A,O,o5,h,ok,h1,h2=>by
    have f1:1≤fsz f:=by cases f <;> simp [fsz] <;> omega
    rw [Mg] at h h1 h2
    have c1:a5v ⟨[some (L,false),some (F,false),some (.lst A,true),some (.lst O,true),some (.lst ((f::r).reverse.map fmT),true),o5],sto⟩=some (true,⟨[some (L,false),some (F,false),some (.lst A,true),some (.lst O,true),some (.lst ((f::r).reverse.map fmT),true),o5],sto⟩):=by
      simp [ig,j9,sIf,ji,sNew,jl,ju,sNx,dw,sGo,dg,kh,cj,dj,jc,fj,m7,lg,mOr,j5,mIf,mOp,mUn,bh,gk,aj,dz,aq,jd,fu,cg,hName,lq,gj,jw,ltT,leT,jz,jf,lu,jo,iw,jt,mj,j8,j7,bw,m8,qm,gtT]
    have pop:a1r 4 5 ⟨[some (L,false),some (F,false),some (.lst A,true),some (.lst O,true),some (.lst ((f::r).reverse.map fmT),true),o5],sto⟩=some (.next,⟨[some (L,false),some (F,false),some (.lst A,true),some (.lst O,true),some (.lst (r.reverse.map fmT),true),some (fmT f,false)],sto⟩):=by
      unfold a1r
      dsimp only [List.getElem?_cons_succ,List.getElem?_cons_zero]
      rw [Z7]
      dsimp only
      rw [a1c]; rfl
    have la:A.length<lim:=by show _<1000000; omega
    have lo:O.length<lim:=by show _<1000000; omega
    have hr:=Q7 r
    cases f with
    | atom k xs =>
      obtain ⟨a1,a2,a3⟩:=ok.1
      obtain ⟨o5',ih⟩:=Gh n r (A++[.tup (.str k::xs)]) O (some (.tup (.str k::xs),false)) (by omega) ok.2 (by rw [List.length_append,List.length_singleton]; omega) (by omega)
      refine ⟨o5',?_⟩
      have e1:=Eo a1 T3
      have e2:=Eo a1 Yo
      rw [a2] at e1
      rw [a3] at e2
      have body:(sIf (fj (mOp eqO (mOp gn (bh 5) (aq (.int 0))) (aq (.str "and")))) (dj 4 (mUn Z0 (mOp gn (bh 5) (aq (.int 1))))) (sIf (fj (mOp eqO (mOp gn (bh 5) (aq (.int 0))) (aq (.str "or")))) (cj 3 (mOp gn (bh 5) (aq (.int 1)))) (cj 2 (bh 5)))) ⟨[some (L,false),some (F,false),some (.lst A,true),some (.lst O,true),some (.lst (r.reverse.map fmT),true),some (fmT (.atom k xs),false)],sto⟩=some (.next,⟨[some (L,false),some (F,false),some (.lst (A++[.tup (.str k::xs)]),true),some (.lst O,true),some (.lst (r.reverse.map fmT),true),some (.tup (.str k::xs),false)],sto⟩):=by
        simp [ig,j9,sIf,ji,sNew,jl,ju,sNx,dw,sGo,dg,kh,cj,dj,jc,fj,m7,lg,mOr,j5,mIf,mOp,mUn,bh,gk,aj,dz,aq,jd,fu,cg,hName,lq,gj,jw,ltT,leT,jz,jf,lu,jo,iw,jt,mj,j8,j7,bw,m8,fmT,uf,e1,e2,la]
      rw [Fp c1 ((j4 pop).trans body),ih,Oj,Ft,flA,flO]
      simp
    | any ms =>
      obtain ⟨o5',ih⟩:=Gh n r A (O++[.tup ms]) (some (.tup [.str "or",.tup ms],false)) (by omega) ok.2 (by omega) (by rw [List.length_append,List.length_singleton]; omega)
      refine ⟨o5',?_⟩
      have e1:=Eo Yo T3
      have e2:=Eo Yo Yo
      rw [a6f] at e1
      rw [beq_self_eq_true] at e2
      have body:(sIf (fj (mOp eqO (mOp gn (bh 5) (aq (.int 0))) (aq (.str "and")))) (dj 4 (mUn Z0 (mOp gn (bh 5) (aq (.int 1))))) (sIf (fj (mOp eqO (mOp gn (bh 5) (aq (.int 0))) (aq (.str "or")))) (cj 3 (mOp gn (bh 5) (aq (.int 1)))) (cj 2 (bh 5)))) ⟨[some (L,false),some (F,false),some (.lst A,true),some (.lst O,true),some (.lst (r.reverse.map fmT),true),some (fmT (.any ms),false)],sto⟩=some (.next,⟨[some (L,false),some (F,false),some (.lst A,true),some (.lst (O++[.tup ms]),true),some (.lst (r.reverse.map fmT),true),some (.tup [.str "or",.tup ms],false)],sto⟩):=by
        simp [ig,j9,sIf,ji,sNew,jl,ju,sNx,dw,sGo,dg,kh,cj,dj,jc,fj,m7,lg,mOr,j5,mIf,mOp,mUn,bh,gk,aj,dz,aq,jd,fu,cg,hName,lq,gj,jw,ltT,leT,jz,jf,lu,jo,iw,jt,mj,j8,j7,bw,m8,fmT,uf,xg,e1,e2,lo]
      rw [Fp c1 ((j4 pop).trans body),ih,Oj,Ft,flA,flO]
      simp
    | all ms =>
      rw [fsz] at h h1 h2
      have hm:=Q7 ms
      obtain ⟨o5',ih⟩:=Gh n (ms++r) A O (some (.tup [.str "and",.tup (ms.map fmT)],false)) (by rw [Il]; omega) (Ug ms r ok.1 ok.2) (by rw [Il]; omega) (by rw [Il]; omega)
      refine ⟨o5',?_⟩
      have e1:=Eo T3 T3
      rw [beq_self_eq_true] at e1
      have lw:r.length+ms.length<lim:=by show _<1000000; omega
      have body:(sIf (fj (mOp eqO (mOp gn (bh 5) (aq (.int 0))) (aq (.str "and")))) (dj 4 (mUn Z0 (mOp gn (bh 5) (aq (.int 1))))) (sIf (fj (mOp eqO (mOp gn (bh 5) (aq (.int 0))) (aq (.str "or")))) (cj 3 (mOp gn (bh 5) (aq (.int 1)))) (cj 2 (bh 5)))) ⟨[some (L,false),some (F,false),some (.lst A,true),some (.lst O,true),some (.lst (r.reverse.map fmT),true),some (fmT (.all ms),false)],sto⟩=some (.next,⟨[some (L,false),some (F,false),some (.lst A,true),some (.lst O,true),some (.lst ((ms++r).reverse.map fmT),true),some (.tup [.str "and",.tup (ms.map fmT)],false)],sto⟩):=by
        simp [ig,j9,sIf,ji,sNew,jl,ju,sNx,dw,sGo,dg,kh,cj,dj,jc,fj,m7,lg,mOr,j5,mIf,mOp,mUn,bh,gk,aj,dz,aq,jd,fu,cg,hName,lq,gj,jw,ltT,leT,jz,jf,lu,jo,iw,jt,mj,j8,j7,bw,m8,fmT,Ua,uf,xg,e1,Z0,lw]
      rw [Fp c1 ((j4 pop).trans body),ih,Uc,Tz,Oj,Ft,flA,flO]
theorem a4m {A O:List T} {l:List Fm} (hs:Mg l<1000) (ok:Yy l) (ha:A.length<800000) (ho:O.length<800000) :
    vg [.tup [.lst A,.lst O],.lst (l.map fmT)] sto=some (.tup [.lst (A++Oj l),.lst (O++Ft l)],sto):=by
  obtain ⟨o5',e⟩:=Gh (sto:=sto) (L:=.tup [.lst A,.lst O]) (F:=.lst (l.map fmT)) 1000 l A O none hs ok (by omega) (by omega)
  unfold vg ig
  rw [show ([T.tup [.lst A,.lst O],T.lst (l.map fmT)].map (fun t=>some (t,false))++List.replicate (6 - [T.tup [.lst A,.lst O],T.lst (l.map fmT)].length) none:List Slot)=[some (.tup [.lst A,.lst O],false),some (.lst (l.map fmT),false),none,none,none,none] from rfl]
  rw [j4 (s':=⟨[some (.tup [.lst A,.lst O],false),some (.lst (l.map fmT),false),some (.lst A,true),none,none,none],sto⟩) (by first | exact rfl | simp [ig,j9,sIf,ji,sNew,jl,ju,sNx,dw,sGo,dg,kh,cj,dj,jc,fj,m7,lg,mOr,j5,mIf,mOp,mUn,bh,gk,aj,dz,aq,jd,fu,cg,hName,lq,gj,jw,ltT,leT,jz,jf,lu,jo,iw,jt,mj,j8,j7,bw,m8,uf,Ek])]
  rw [j4 (s':=⟨[some (.tup [.lst A,.lst O],false),some (.lst (l.map fmT),false),some (.lst A,true),some (.lst O,true),none,none],sto⟩) (by first | exact rfl | simp [ig,j9,sIf,ji,sNew,jl,ju,sNx,dw,sGo,dg,kh,cj,dj,jc,fj,m7,lg,mOr,j5,mIf,mOp,mUn,bh,gk,aj,dz,aq,jd,fu,cg,hName,lq,gj,jw,ltT,leT,jz,jf,lu,jo,iw,jt,mj,j8,j7,bw,m8,xg,Ek])]
  rw [j4 (s':=⟨[some (.tup [.lst A,.lst O],false),some (.lst (l.map fmT),false),some (.lst A,true),some (.lst O,true),some (.lst (l.reverse.map fmT),true),none],sto⟩) (by first | exact rfl | simp [ig,j9,sIf,ji,sNew,jl,ju,sNx,dw,sGo,dg,kh,cj,dj,jc,fj,m7,lg,mOr,j5,mIf,mOp,mUn,bh,gk,aj,dz,aq,jd,fu,cg,hName,lq,gj,jw,ltT,leT,jz,jf,lu,jo,iw,jt,mj,j8,j7,bw,m8,Ek,a6w])]
  rw [j4 e]
  simp [ig,j9,sIf,ji,sNew,jl,ju,sNx,dw,sGo,dg,kh,cj,dj,jc,fj,m7,lg,mOr,j5,mIf,mOp,mUn,bh,gk,aj,dz,aq,jd,fu,cg,hName,lq,gj,jw,ltT,leT,jz,jf,lu,jo,iw,jt,mj,j8,j7,bw,m8]
end
end K
end
noncomputable section
set_option linter.all false
set_option maxRecDepth 100000
set_option autoImplicit false
namespace K
open C PySem
inductive Cl where
  | i (n:Int) | b (k:Bool)
noncomputable def clT:Cl→T
  | .i n=>.int n
  | .b k=>.bl k
noncomputable def isI:Cl→Bool
  | .i _=>true
  | .b _=>false
noncomputable def vI:Cl→Int
  | .i n=>n
  | .b _=>0
noncomputable abbrev Rw:=List Cl
noncomputable def rwT (r:Rw):T:=.tup (r.map clT)
noncomputable def pr (r:Rw):List Int:=if r.all isI then r.map vI else []
noncomputable def okC:Cl→Prop
  | .i n=>Ah n=true
  | .b _=>True
noncomputable def ilT (l:List Int):T:=.tup (l.map .int)
structure At where
  k:Str
  s:Sm
  more:List T
noncomputable def atT (a:At):T:=.tup (.str a.k::smT a.s::a.more)
noncomputable def fac (a:At):Int:=match a.more with
  | [.int f]=>f
  | _=>0
noncomputable def O1 (U:List Str) (a:At):Prop:=okS a.k∧Ig U a.s∧((a.k==("rest" : Str))=true→∃ f,a.more=[.int f])
noncomputable def cN (gs:List (Sm × Int)):Int:=(gs.map fun g=>g.2 * g.1.1).sum
noncomputable def cF (gs:List (Sm × Int)) (b:Str):Int:=(gs.map fun g=>g.2 * gt g.1.2 b).sum
noncomputable def zr (U:List Str) (s1 s2:Sm):Bool:=(s1.1+s2.1==0)&&(canon U fun b=>gt s1.2 b+gt s2.2 b).isEmpty
noncomputable def isA (A:List At) (n:Int) (w:Str):Bool:=decide (0≤n)&&(match A[n.toNat]? with | some a=>a.k==w | none=>false)
noncomputable def sA (A:List At) (n:Int):At:=A.getD n.toNat ⟨"",(0,[]),[]⟩
noncomputable def v8 (U:List Str) (m:Int) (A:List At):List Int→Bool
  | [n,t]=>isA A n "rest" && ((t != 0)&&(t * fac (sA A n)%m==0))
  | [n,o,t]=>isA A n "most" && (isA A o "most" && (zr U (sA A n).s (sA A o).s&&(t != 0)))
  | _=>false
noncomputable def gv (A:List At) (l:List Int):Sm × Int:=((sA A (l.headD 0)).s,l.getLastD 0)
noncomputable def a2f (m:Int) (s:Sm):Bool:=(s.1%m != 0)&&s.2.all fun p=>p.2%m==0
noncomputable def Bg (U:List Str) (A:List At) (m:Int) (rows:List (List Int)):Bool:=decide (2≤m)&&(rows.all (v8 U m A)&&a2f m (cN (rows.map (gv A)),canon U (cF (rows.map (gv A)))))
theorem G6:okS "most" := by unfold okS; decide +kernel
theorem G8:okS "rest" := by unfold okS; decide +kernel
noncomputable section
variable {U:List Str} {sto:List SO} {A:List At}
theorem T9 {c:Cl}:uy [clT c] sto=some (.bl (isI c),sto):=by
  cases c <;> simp [ig,j9,sIf,ji,sNew,jl,ju,sNx,dw,sGo,dg,kh,cj,dj,jc,fj,m7,lg,mOr,j5,mIf,mOp,mUn,bh,gk,aj,dz,aq,jd,fu,cg,hName,lq,gj,jw,ltT,leT,jz,jf,lu,jo,iw,jt,mj,j8,j7,bw,m8,uy,clT,isInt,El,isI]
theorem Ax {l:List T}:jy [.tup l] sto=some (.tup l,sto):=by first | exact rfl | simp [ig,j9,sIf,ji,sNew,jl,ju,sNx,dw,sGo,dg,kh,cj,dj,jc,fj,m7,lg,mOr,j5,mIf,mOp,mUn,bh,gk,aj,dz,aq,jd,fu,cg,hName,lq,gj,jw,ltT,leT,jz,jf,lu,jo,iw,jt,mj,j8,j7,bw,m8,jy,isTup,wu]
theorem Nf {α:Type} (f:α→Bool):∀ l:List α,Jr (l.map fun a=>T.bl (f a))=some (l.map f)
  | []=>rfl
  | a::l=>by simp [Jr,Nf f l]
theorem all_map {α:Type} (f:α→Bool) (l:List α):Tw [.lst (l.map fun a=>T.bl (f a))]=some (.bl (l.all f)):=by
  simp [Tw,Nf,List.all_map]
theorem Od {r:Rw} (hl:r.length<1000):yg [rwT r] sto=some (ilT (pr r),sto):=by
  have l1:r.length<lim:=by show _<1000000; omega
  unfold yg
  simp [ig,j9,sIf,ji,sNew,jl,ju,sNx,dw,sGo,dg,kh,cj,dj,jc,fj,m7,lg,mOr,j5,mIf,mOp,mUn,bh,gk,aj,dz,aq,jd,fu,cg,hName,lq,gj,jw,ltT,leT,jz,jf,lu,jo,iw,jt,mj,j8,j7,bw,m8,rwT,Ax]
  generalize hF:uw 1 _ _ _ _ (fu uy _) _=q
  have e:=Ba hF clT (fun c=>T.bl (isI c)) r ⟨[some (rwT r,false),some (rwT r,false)],sto⟩ [some (rwT r,false),some (rwT r,false)] [] (by first | exact rfl | simp [ig,j9,sIf,ji,sNew,jl,ju,sNx,dw,sGo,dg,kh,cj,dj,jc,fj,m7,lg,mOr,j5,mIf,mOp,mUn,bh,gk,aj,dz,aq,jd,fu,cg,hName,lq,gj,jw,ltT,leT,jz,jf,lu,jo,iw,jt,mj,j8,j7,bw,m8,rwT,l1]) rfl rfl rfl (Nat.le_of_lt l1) (fun c hc pre hp=>by
    match pre,hp with
    | [p0],_=>exact ⟨[some (clT c,false)],rfl,by first | exact rfl | simp [ig,j9,sIf,ji,sNew,jl,ju,sNx,dw,sGo,dg,kh,cj,dj,jc,fj,m7,lg,mOr,j5,mIf,mOp,mUn,bh,gk,aj,dz,aq,jd,fu,cg,hName,lq,gj,jw,ltT,leT,jz,jf,lu,jo,iw,jt,mj,j8,j7,bw,m8],rfl,by first | exact rfl | simp [ig,j9,sIf,ji,sNew,jl,ju,sNx,dw,sGo,dg,kh,cj,dj,jc,fj,m7,lg,mOr,j5,mIf,mOp,mUn,bh,gk,aj,dz,aq,jd,fu,cg,hName,lq,gj,jw,ltT,leT,jz,jf,lu,jo,iw,jt,mj,j8,j7,bw,m8,T9]⟩)
  subst e
  by_cases h:r.all isI=true
  · have ha:=all_map isI r
    rw [h] at ha
    simp [ig,j9,sIf,ji,sNew,jl,ju,sNx,dw,sGo,dg,kh,cj,dj,jc,fj,m7,lg,mOr,j5,mIf,mOp,mUn,bh,gk,aj,dz,aq,jd,fu,cg,hName,lq,gj,jw,ltT,leT,jz,jf,lu,jo,iw,jt,mj,j8,j7,bw,m8,ha]
    generalize hG:uw 1 _ _ _ _ _ _=q
    have e:=Ba hG clT (fun c=>T.int (vI c)) r ⟨[some (rwT r,false),some (rwT r,false)],sto⟩ [some (rwT r,false),some (rwT r,false)] [] (by first | exact rfl | simp [ig,j9,sIf,ji,sNew,jl,ju,sNx,dw,sGo,dg,kh,cj,dj,jc,fj,m7,lg,mOr,j5,mIf,mOp,mUn,bh,gk,aj,dz,aq,jd,fu,cg,hName,lq,gj,jw,ltT,leT,jz,jf,lu,jo,iw,jt,mj,j8,j7,bw,m8,rwT,l1]) rfl rfl rfl (Nat.le_of_lt l1) (fun c hc pre hp=>by
      have hi:=List.all_eq_true.mp h c hc
      match pre,hp with
      | [p0],_=>exact ⟨[some (clT c,false)],rfl,by first | exact rfl | simp [ig,j9,sIf,ji,sNew,jl,ju,sNx,dw,sGo,dg,kh,cj,dj,jc,fj,m7,lg,mOr,j5,mIf,mOp,mUn,bh,gk,aj,dz,aq,jd,fu,cg,hName,lq,gj,jw,ltT,leT,jz,jf,lu,jo,iw,jt,mj,j8,j7,bw,m8],rfl,by
          cases c with
          | i n=>simp [ig,j9,sIf,ji,sNew,jl,ju,sNx,dw,sGo,dg,kh,cj,dj,jc,fj,m7,lg,mOr,j5,mIf,mOp,mUn,bh,gk,aj,dz,aq,jd,fu,cg,hName,lq,gj,jw,ltT,leT,jz,jf,lu,jo,iw,jt,mj,j8,j7,bw,m8,clT,Jl,vI]
          | b k=>cases hi⟩)
    subst e
    simp [ig,j9,sIf,ji,sNew,jl,ju,sNx,dw,sGo,dg,kh,cj,dj,jc,fj,m7,lg,mOr,j5,mIf,mOp,mUn,bh,gk,aj,dz,aq,jd,fu,cg,hName,lq,gj,jw,ltT,leT,jz,jf,lu,jo,iw,jt,mj,j8,j7,bw,m8,wu,ilT,pr,h]
  · have hf:r.all isI=false:=by simpa using h
    have ha:=all_map isI r
    rw [hf] at ha
    simp [ig,j9,sIf,ji,sNew,jl,ju,sNx,dw,sGo,dg,kh,cj,dj,jc,fj,m7,lg,mOr,j5,mIf,mOp,mUn,bh,gk,aj,dz,aq,jd,fu,cg,hName,lq,gj,jw,ltT,leT,jz,jf,lu,jo,iw,jt,mj,j8,j7,bw,m8,ha,ilT,pr,hf]
theorem a5l {rs:List Rw} (hr:rs.length<1000) (hl:∀ r∈rs,r.length<1000):su [.tup (rs.map rwT)] sto=some (.lst ((rs.map pr).map ilT),sto):=by
  have l1:rs.length<lim:=by show _<1000000; omega
  unfold su
  simp [ig,j9,sIf,ji,sNew,jl,ju,sNx,dw,sGo,dg,kh,cj,dj,jc,fj,m7,lg,mOr,j5,mIf,mOp,mUn,bh,gk,aj,dz,aq,jd,fu,cg,hName,lq,gj,jw,ltT,leT,jz,jf,lu,jo,iw,jt,mj,j8,j7,bw,m8]
  generalize hF:uw 1 _ _ _ _ _ _=q
  have e:=Ba hF rwT (fun r=>ilT (pr r)) rs ⟨[some (.tup (rs.map rwT),false)],sto⟩ [some (.tup (rs.map rwT),false)] [] (by first | exact rfl | simp [ig,j9,sIf,ji,sNew,jl,ju,sNx,dw,sGo,dg,kh,cj,dj,jc,fj,m7,lg,mOr,j5,mIf,mOp,mUn,bh,gk,aj,dz,aq,jd,fu,cg,hName,lq,gj,jw,ltT,leT,jz,jf,lu,jo,iw,jt,mj,j8,j7,bw,m8,Ax,l1]) rfl rfl rfl (Nat.le_of_lt l1) (fun r hr' pre hp=>by
    have:=Od (sto:=sto) (hl r hr')
    match pre,hp with
    | [p0],_=>exact ⟨[some (rwT r,false)],rfl,by first | exact rfl | simp [ig,j9,sIf,ji,sNew,jl,ju,sNx,dw,sGo,dg,kh,cj,dj,jc,fj,m7,lg,mOr,j5,mIf,mOp,mUn,bh,gk,aj,dz,aq,jd,fu,cg,hName,lq,gj,jw,ltT,leT,jz,jf,lu,jo,iw,jt,mj,j8,j7,bw,m8],rfl,by first | exact rfl | simp [ig,j9,sIf,ji,sNew,jl,ju,sNx,dw,sGo,dg,kh,cj,dj,jc,fj,m7,lg,mOr,j5,mIf,mOp,mUn,bh,gk,aj,dz,aq,jd,fu,cg,hName,lq,gj,jw,ltT,leT,jz,jf,lu,jo,iw,jt,mj,j8,j7,bw,m8,this]⟩)
  subst e
  simp
theorem M6 {α:Type} {f:α→T} {n:Int} {l:List α}:yx [.int n,.lst (l.map f)] sto=some (.bl (decide (0≤n)&&decide (n<l.length)),sto):=by
  by_cases h:0≤n <;> simp [ig,j9,sIf,ji,sNew,jl,ju,sNx,dw,sGo,dg,kh,cj,dj,jc,fj,m7,lg,mOr,j5,mIf,mOp,mUn,bh,gk,aj,dz,aq,jd,fu,cg,hName,lq,gj,jw,ltT,leT,jz,jf,lu,jo,iw,jt,mj,j8,j7,bw,m8,yx,h]
theorem Qd {n:Int} {w:Str} (hw:okS w) (ok:∀ a∈A,O1 U a):uq [.lst (A.map atT),.int n,.str w] sto=some (.bl (isA A n w),sto):=by
  unfold isA
  by_cases h:0≤n
  · by_cases h2:n<A.length
    · have hn:n.toNat<A.length:=by omega
      have hi:gn (.lst (A.map atT)) (.int n)=some (atT A[n.toNat]):=by
        have:=Hg (xs:=A.map atT) (k:=n.toNat) (t:=atT A[n.toNat]) (by rw [List.getElem?_map,List.getElem?_eq_getElem hn]; rfl)
        rw [Int.toNat_of_nonneg h] at this
        exact this
      have he:=Eo (ok _ (List.getElem_mem hn)).1 hw
      simp [ig,j9,sIf,ji,sNew,jl,ju,sNx,dw,sGo,dg,kh,cj,dj,jc,fj,m7,lg,mOr,j5,mIf,mOp,mUn,bh,gk,aj,dz,aq,jd,fu,cg,hName,lq,gj,jw,ltT,leT,jz,jf,lu,jo,iw,jt,mj,j8,j7,bw,m8,uq,M6,h,h2,hi,atT,uf,he,List.getElem?_eq_getElem hn]
    · have hn:A[n.toNat]? = none:=List.getElem?_eq_none_iff.mpr (by omega)
      simp [ig,j9,sIf,ji,sNew,jl,ju,sNx,dw,sGo,dg,kh,cj,dj,jc,fj,m7,lg,mOr,j5,mIf,mOp,mUn,bh,gk,aj,dz,aq,jd,fu,cg,hName,lq,gj,jw,ltT,leT,jz,jf,lu,jo,iw,jt,mj,j8,j7,bw,m8,uq,M6,h,h2,hn]
  · simp [ig,j9,sIf,ji,sNew,jl,ju,sNx,dw,sGo,dg,kh,cj,dj,jc,fj,m7,lg,mOr,j5,mIf,mOp,mUn,bh,gk,aj,dz,aq,jd,fu,cg,hName,lq,gj,jw,ltT,leT,jz,jf,lu,jo,iw,jt,mj,j8,j7,bw,m8,uq,M6,h]
theorem item_at {n:Int} {a:At} (h0:0≤n) (h:A[n.toNat]? = some a):gn (.lst (A.map atT)) (.int n)=some (atT a):=by
  have:=Hg (xs:=A.map atT) (k:=n.toNat) (t:=atT a) (by rw [List.getElem?_map,h]; rfl)
  rw [Int.toNat_of_nonneg h0] at this
  exact this
theorem Dw {n:Int} {w:Str} (h:isA A n w=true):0≤n∧A[n.toNat]? = some (sA A n)∧((sA A n).k==w)=true:=by
  unfold isA at h
  simp only [Bool.and_eq_true,decide_eq_true_eq] at h
  obtain ⟨h0,h1⟩:=h
  cases e:A[n.toNat]? with
  | none=>rw [e] at h1; cases h1
  | some a =>
    rw [e] at h1
    have:sA A n=a:=by unfold sA; rw [List.getD_eq_getElem?_getD,e]; rfl
    rw [this]
    exact ⟨h0,rfl,h1⟩
noncomputable def Eu (gs:List (Sm × Int)):List Pr:=gs.flatMap fun g=>g.1.2.map fun p=>(p.1,g.2 * p.2)
theorem Qe {b:Str}:∀ l r:List Pr,tot (l++r) b=tot l b+tot r b
  | [],r=>by simp [tot]
  | (k,v)::l,r=>by rw [List.cons_append,tot,tot,Qe l r]; omega
theorem Ur {t:Int} {b:Str}:∀ l:List Pr,tot (l.map fun p=>(p.1,t * p.2)) b=t * tot l b
  | []=>by simp [tot]
  | (k,v)::r=>by
    rw [List.map_cons,tot,tot,Ur r,Int.mul_add]
    by_cases e:k=b <;> simp [e]
theorem Xp {b:Str}:∀ {gs:List (Sm × Int)},(∀ g∈gs,Ig U g.1)→tot (Eu gs) b=cF gs b
  | [],_=>rfl
  | g::gs,h=>by
    have ih:=Xp (b:=b) (gs:=gs) fun x hx=>h x (List.mem_cons_of_mem _ hx)
    unfold Eu cF at ih ⊢
    rw [List.flatMap_cons,Qe,ih,Ur,Oe (h g List.mem_cons_self).nd,List.map_cons,List.sum_cons]
theorem Qs (u:Uni U):∀ {gs:List (Sm × Int)},(∀ g∈gs,Ig U g.1)→(Eu gs).length≤8 * gs.length
  | [],_=>by simp [Eu]
  | g::gs,h=>by
    have ih:=Qs u (gs:=gs) fun x hx=>h x (List.mem_cons_of_mem _ hx)
    have:=Gw u (h g List.mem_cons_self)
    unfold Eu at ih ⊢
    rw [List.flatMap_cons,List.length_append,List.length_map,List.length_cons]
    omega
theorem a1y {U:List Str} {l:List Pr} (u:Uni U) (h:∀ b∈ks l,b∈U):Pl 2 (.tup (l.map pT)):=a1p (n:=1) fun t ht=>by
  obtain ⟨p,hp,rfl⟩:=List.mem_map.mp ht
  refine a1p (n:=0) fun t ht=>?_
  simp only [List.mem_cons,List.not_mem_nil,or_false] at ht
  rcases ht with rfl | rfl
  · exact a7g 0 (u.ok _ (h _ (List.mem_map.mpr ⟨p,hp,rfl⟩)))
  · exact a7n 0 _
theorem eq_nil {l:List Pr} (u:Uni U) (h:∀ b∈ks l,b∈U):eqO (.tup (l.map pT)) (.tup [])=some (.bl l.isEmpty):=by
  obtain ⟨d,e1,e2⟩:=a1y u h
  have e0:dat (.tup [])=some (.tuple []):=by simp [dat,Kq]
  have h40:d.depth≤40:=by omega
  cases l with
  | nil=>simp [eqO,eqT,eqD,e0,PyData.depth,PyData.depthAll,PyData.eqv,PyData.eqvAll]
  | cons p l =>
    simp only [dat,List.map_cons,Option.map_eq_some_iff] at e1
    obtain ⟨ds,e3,rfl⟩:=e1
    cases ds with
    | nil =>
      simp only [Kq] at e3
      split at e3
      · obtain ⟨_,_,z⟩:=Option.map_eq_some_iff.mp e3; cases z
      · cases e3
    | cons x ds =>
      have e1:dat (.tup (pT p::l.map pT))=some (.tuple (x::ds)):=by simp only [dat,e3]; rfl
      simp [eqO,eqT,eqD,e1,e0,h40,PyData.eqv,PyData.eqvAll]
theorem K8 {a b:S} {s s':Sta} {v:T} (h:a s=some (.ret v,s')):j9 a b s=some (.ret v,s'):=by unfold j9; rw [h]
theorem G7 {f g:Str→Int} (h:∀ b∈U,f b=g b):canon U f=canon U g:=by
  unfold canon
  rw [List.filter_congr (q:=fun b=>g b != 0) fun b hb=>by rw [h b hb]]
  exact List.map_congr_left fun b hb=>by rw [h b (List.mem_filter.mp hb).1]
theorem X3 {s:Sm} (u:Uni U) (h:∀ b∈ks s.2,b∈U):eqO (smT s) (.tup [.int 0,.tup []])=some (.bl ((s.1==0)&&s.2.isEmpty)):=by
  obtain ⟨n,l⟩:=s
  obtain ⟨d,e1,e2⟩:=a1y u h
  have e0:dat (.tup [.int 0,.tup []])=some (.tuple [.int 0,.tuple []]):=by simp [dat,Kq]
  simp only [dat,Option.map_eq_some_iff] at e1
  obtain ⟨ds,e3,rfl⟩:=e1
  have e4:dat (smT (n,l))=some (.tuple [.int n,.tuple ds]):=by simp only [smT,dat,Kq,e3]; rfl
  have h40:(PyData.tuple [.int n,.tuple ds]).depth≤40:=by
    simp only [PyData.depth,PyData.depthAll] at e2 ⊢
    omega
  have eE:PyData.eqvAll ds []=l.isEmpty:=by
    cases l with
    | nil=>simp only [List.map_nil,Kq] at e3; cases e3; rfl
    | cons p l =>
      cases ds with
      | nil =>
        simp only [List.map_cons,Kq] at e3
        split at e3
        · obtain ⟨_,_,z⟩:=Option.map_eq_some_iff.mp e3; cases z
        · cases e3
      | cons x ds=>simp [PyData.eqvAll]
  have nd:∀ b,smT (n,l)≠.dic b:=fun b z=>by cases z
  unfold eqO eqT
  simp only [smT] at e4 ⊢
  simp [eqD,e4,e0,h40,PyData.eqv,PyData.eqvAll,eE]
theorem ne_zero {s:Sm} (u:Uni U) (h:∀ b∈ks s.2,b∈U):neO (smT s) (.tup [.int 0,.tup []])=some (.bl (!((s.1==0)&&s.2.isEmpty))):=by
  have:=X3 (s:=s) u h
  unfold eqO at this
  unfold neO
  cases e:eqT (smT s) (.tup [.int 0,.tup []]) with
  | none=>rw [e] at this; cases this
  | some b=>rw [e] at this; simp only [Option.some.injEq,T.bl.injEq] at this; rw [this]
theorem a3z {s1 s2:Sm} (u:Uni U) (h1:Ig U s1) (h2:Ig U s2):K3 [smT s1,smT s2] sto=some (smT (s1.1+s2.1,canon U fun b=>gt s1.2 b+gt s2.2 b),sto):=by
  have l1:=Gw u h1
  have l2:=Gw u h2
  have lm:s1.2.length+s2.2.length<lim:=by show _<1000000; omega
  have so:=a1w (sto:=sto) (n:=s1.1+s2.1) (l:=s1.2++s2.2) (s:=.tup ((s1.2++s2.2).map pT)) u (.inr rfl) (by rw [List.length_append]; omega) (fun b hb=>by
    unfold ks at hb
    rw [List.map_append] at hb
    rcases List.mem_append.mp hb with z | z
    · exact h1.sub b z
    · exact h2.sub b z)
  rw [G7 (g:=fun b=>gt s1.2 b+gt s2.2 b) (fun b _=>by rw [Qe,Oe h1.nd,Oe h2.nd]),List.map_append] at so
  unfold K3
  rw [show smT s1=.tup [.int s1.1,.tup (s1.2.map pT)] from rfl,show smT s2=.tup [.int s2.1,.tup (s2.2.map pT)] from rfl]
  simp [ig,j9,sIf,ji,sNew,jl,ju,sNx,dw,sGo,dg,kh,cj,dj,jc,fj,m7,lg,mOr,j5,mIf,mOp,mUn,bh,gk,aj,dz,aq,jd,fu,cg,hName,lq,gj,jw,ltT,leT,jz,jf,lu,jo,iw,jt,mj,j8,j7,bw,m8,uf,xg,lm,so]
theorem O4 {n o:Int} (u:Uni U) (hU:U.Nodup) (ok:∀ a∈A,O1 U a):uc [.lst (A.map atT),.int n,.int o] sto=some (.bl (isA A n "most" && (isA A o "most" && zr U (sA A n).s (sA A o).s)),sto):=by
  have a1:=Qd (sto:=sto) (n:=n) G6 ok
  have a2:=Qd (sto:=sto) (n:=o) G6 ok
  cases e1:isA A n "most" with
  | false=>rw [e1] at a1; unfold uc; simp [ig,j9,sIf,ji,sNew,jl,ju,sNx,dw,sGo,dg,kh,cj,dj,jc,fj,m7,lg,mOr,j5,mIf,mOp,mUn,bh,gk,aj,dz,aq,jd,fu,cg,hName,lq,gj,jw,ltT,leT,jz,jf,lu,jo,iw,jt,mj,j8,j7,bw,m8,a1]
  | true =>
    rw [e1] at a1
    cases e2:isA A o "most" with
    | false=>rw [e2] at a2; unfold uc; simp [ig,j9,sIf,ji,sNew,jl,ju,sNx,dw,sGo,dg,kh,cj,dj,jc,fj,m7,lg,mOr,j5,mIf,mOp,mUn,bh,gk,aj,dz,aq,jd,fu,cg,hName,lq,gj,jw,ltT,leT,jz,jf,lu,jo,iw,jt,mj,j8,j7,bw,m8,a1,a2]
    | true =>
      rw [e2] at a2
      obtain ⟨n0,n1,n2⟩:=Dw e1
      obtain ⟨o0,o1,o2⟩:=Dw e2
      have pl:=a3z (sto:=sto) u (ok _ (List.mem_of_getElem? n1)).2.1 (ok _ (List.mem_of_getElem? o1)).2.1
      have ez:=X3 (s:=((sA A n).s.1+(sA A o).s.1,canon U fun b=>gt (sA A n).s.2 b+gt (sA A o).s.2 b)) u (Ae (n:=0) hU).sub
      unfold uc
      simp [ig,j9,sIf,ji,sNew,jl,ju,sNx,dw,sGo,dg,kh,cj,dj,jc,fj,m7,lg,mOr,j5,mIf,mOp,mUn,bh,gk,aj,dz,aq,jd,fu,cg,hName,lq,gj,jw,ltT,leT,jz,jf,lu,jo,iw,jt,mj,j8,j7,bw,m8,a1,a2,item_at n0 n1,item_at o0 o1,atT,xg,pl,ez,zr]
theorem Rj {m:Int} {l:List Int} (hm:2≤m) (u:Uni U) (hU:U.Nodup) (ok:∀ a∈A,O1 U a) (hb:∀ n∈l,Ah n=true):nj [.lst (A.map atT),.int m,ilT l] sto=some (.bl (v8 U m A l),sto):=by
  have hm0:0<m:=by omega
  match l,hb with
  | [n,t],hb =>
    have a1:=Qd (sto:=sto) (n:=n) G8 ok
    have ht:Ah t=true:=hb t (by simp)
    cases e1:isA A n "rest" with
    | false=>rw [e1] at a1; unfold nj; simp [ig,j9,sIf,ji,sNew,jl,ju,sNx,dw,sGo,dg,kh,cj,dj,jc,fj,m7,lg,mOr,j5,mIf,mOp,mUn,bh,gk,aj,dz,aq,jd,fu,cg,hName,lq,gj,jw,ltT,leT,jz,jf,lu,jo,iw,jt,mj,j8,j7,bw,m8,ilT,qw,uf,xg,a1,v8,e1]
    | true =>
      rw [e1] at a1
      obtain ⟨n0,n1,n2⟩:=Dw e1
      obtain ⟨f,hf⟩:=(ok _ (List.mem_of_getElem? n1)).2.2 n2
      have ii:=item_at n0 n1
      have i2:gn (atT (sA A n)) (.int 2)=some (.int f):=by unfold atT; rw [hf]; exact Gu
      have ef:fac (sA A n)=f:=by unfold fac; rw [hf]
      by_cases h0:t=0
      · subst h0
        unfold nj
        simp [ig,j9,sIf,ji,sNew,jl,ju,sNx,dw,sGo,dg,kh,cj,dj,jc,fj,m7,lg,mOr,j5,mIf,mOp,mUn,bh,gk,aj,dz,aq,jd,fu,cg,hName,lq,gj,jw,ltT,leT,jz,jf,lu,jo,iw,jt,mj,j8,j7,bw,m8,ilT,qw,Ac,uf,xg,a1,v8,e1]
      · have hz:(t==0)=false:=by simpa using h0
        unfold nj
        simp [ig,j9,sIf,ji,sNew,jl,ju,sNx,dw,sGo,dg,kh,cj,dj,jc,fj,m7,lg,mOr,j5,mIf,mOp,mUn,bh,gk,aj,dz,aq,jd,fu,cg,hName,lq,gj,jw,ltT,leT,jz,jf,lu,jo,iw,jt,mj,j8,j7,bw,m8,ilT,qw,Ac,uf,xg,a1,v8,e1,hz,h0,ii,i2,Dm,ht,hm0,ef]
  | [n,o,t],hb =>
    have zp:=O4 (sto:=sto) (n:=n) (o:=o) u hU ok
    cases e1:(isA A n "most" && (isA A o "most" && zr U (sA A n).s (sA A o).s)) with
    | false =>
      rw [e1] at zp
      have:v8 U m A [n,o,t]=false:=by
        show (isA A n "most" && (isA A o "most" && (zr U (sA A n).s (sA A o).s&&(t != 0))))=_
        rw [show (isA A n "most" && (isA A o "most" && (zr U (sA A n).s (sA A o).s&&(t != 0))))=((isA A n "most" && (isA A o "most" && zr U (sA A n).s (sA A o).s))&&(t != 0)) by simp only [Bool.and_assoc],e1]; rfl
      rw [this]
      unfold nj
      simp [ig,j9,sIf,ji,sNew,jl,ju,sNx,dw,sGo,dg,kh,cj,dj,jc,fj,m7,lg,mOr,j5,mIf,mOp,mUn,bh,gk,aj,dz,aq,jd,fu,cg,hName,lq,gj,jw,ltT,leT,jz,jf,lu,jo,iw,jt,mj,j8,j7,bw,m8,ilT,qw,uf,xg,zp]
    | true =>
      rw [e1] at zp
      have:v8 U m A [n,o,t]=(t != 0):=by
        show (isA A n "most" && (isA A o "most" && (zr U (sA A n).s (sA A o).s&&(t != 0))))=_
        rw [show (isA A n "most" && (isA A o "most" && (zr U (sA A n).s (sA A o).s&&(t != 0))))=((isA A n "most" && (isA A o "most" && zr U (sA A n).s (sA A o).s))&&(t != 0)) by simp only [Bool.and_assoc],e1]; rfl
      rw [this]
      unfold nj
      simp [ig,j9,sIf,ji,sNew,jl,ju,sNx,dw,sGo,dg,kh,cj,dj,jc,fj,m7,lg,mOr,j5,mIf,mOp,mUn,bh,gk,aj,dz,aq,jd,fu,cg,hName,lq,gj,jw,ltT,leT,jz,jf,lu,jo,iw,jt,mj,j8,j7,bw,m8,ilT,qw,Ac,uf,xg,Gu,zp,bne]
  | [],_=>unfold nj; simp [ig,j9,sIf,ji,sNew,jl,ju,sNx,dw,sGo,dg,kh,cj,dj,jc,fj,m7,lg,mOr,j5,mIf,mOp,mUn,bh,gk,aj,dz,aq,jd,fu,cg,hName,lq,gj,jw,ltT,leT,jz,jf,lu,jo,iw,jt,mj,j8,j7,bw,m8,ilT,qw,v8]
  | [n],_=>unfold nj; simp [ig,j9,sIf,ji,sNew,jl,ju,sNx,dw,sGo,dg,kh,cj,dj,jc,fj,m7,lg,mOr,j5,mIf,mOp,mUn,bh,gk,aj,dz,aq,jd,fu,cg,hName,lq,gj,jw,ltT,leT,jz,jf,lu,jo,iw,jt,mj,j8,j7,bw,m8,ilT,qw,v8]
  | a::b::c::d::r,_ =>
    have h3:(((r.length:Int)+1+1+1+1)==3)=false:=beq_eq_false_iff_ne.mpr (by omega)
    have h2:(((r.length:Int)+1+1+1+1)==2)=false:=beq_eq_false_iff_ne.mpr (by omega)
    unfold nj
    simp [ig,j9,sIf,ji,sNew,jl,ju,sNx,dw,sGo,dg,kh,cj,dj,jc,fj,m7,lg,mOr,j5,mIf,mOp,mUn,bh,gk,aj,dz,aq,jd,fu,cg,hName,lq,gj,jw,ltT,leT,jz,jf,lu,jo,iw,jt,mj,j8,j7,bw,m8,ilT,qw,v8,h3,h2]
end
end K
end
noncomputable section
set_option linter.all false
set_option maxRecDepth 100000
set_option autoImplicit false
namespace K
open C PySem
noncomputable section
variable {U:List Str} {sto:List SO} {A:List At} {m:Int}
structure Dp (A:List At) (l:List Int) (n t:Int):Prop where
  fst:gn (ilT l) (.int 0)=some (.int n)
  lst:gn (ilT l) (.int (-1))=some (.int t)
  pos:0≤n
  at':A[n.toNat]? = some (sA A n)
  gv:gv A l=((sA A n).s,t)
  mem:t∈l
  nz:t≠0
theorem Ng {l:List Int} (h:v8 U m A l=true):∃ n t,Dp A l n t:=by
  match l,h with
  | [n,t],h =>
    simp only [v8,Bool.and_eq_true] at h
    obtain ⟨a,b,_⟩:=Dw h.1
    exact ⟨n,t,rfl,rfl,a,b,rfl,by simp,by simpa using h.2.1⟩
  | [n,o,t],h =>
    simp only [v8,Bool.and_eq_true] at h
    obtain ⟨a,b,_⟩:=Dw h.1
    exact ⟨n,t,rfl,rfl,a,b,rfl,by simp,by simpa using h.2.2.2⟩
theorem a0j {rows:List (List Int)} (u:Uni U) (ok:∀ a∈A,O1 U a) (hr:∀ l∈rows,v8 U m A l=true) (hB:∀ l∈rows,∀ n∈l,Ah n=true) (hl:rows.length≤100) :
    zf [.lst (A.map atT),.lst (rows.map ilT)] sto=some (smT (cN (rows.map (gv A)),canon U (cF (rows.map (gv A)))),sto):=by
  have l1:rows.length<lim:=by show _<1000000; omega
  have allg:∀ {rs:List (List Int)},(∀ l∈rs,l∈rows)→∀ g∈rs.map (gv A),Ig U g.1:=fun {rs} hs g hg=>by
    obtain ⟨l,hl,rfl⟩:=List.mem_map.mp hg
    obtain ⟨n,t,R⟩:=Ng (hr l (hs l hl))
    rw [R.gv]
    exact (ok _ (List.mem_of_getElem? R.at')).2.1
  unfold zf
  simp [ig,j9,sIf,ji,sNew,jl,ju,sNx,dw,sGo,dg,kh,cj,dj,jc,fj,m7,lg,mOr,j5,mIf,mOp,mUn,bh,gk,aj,dz,aq,jd,fu,cg,hName,lq,gj,jw,ltT,leT,jz,jf,lu,jo,iw,jt,mj,j8,j7,bw,m8,l1]
  generalize hF:forL _ _ _ _=r
  obtain ⟨s',rfl,P⟩:=Rh hF (fun ts s=>∃ (l done:List (List Int)) (o4 o5:Slot),ts=l.map ilT∧rows=done++l∧s=⟨[some (.lst (A.map atT),false),some (.lst (rows.map ilT),false),some (.int (cN (done.map (gv A))),false),some (.lst ((Eu (done.map (gv A))).map pT),true),o4,o5],sto⟩)
    ⟨rows,[],none,none,rfl,rfl,rfl⟩ (by
      rintro t r s ⟨l,done,o4,o5,e1,e2,rfl⟩
      cases l with
      | nil=>cases e1
      | cons x l =>
        cases e1
        have hx:x∈rows:=by rw [e2]; simp
        obtain ⟨n,t,R⟩:=Ng (hr x hx)
        have hb:Ah t=true:=hB x hx t R.mem
        have sa:=(ok _ (List.mem_of_getElem? R.at')).2.1
        have la:=Gw u sa
        have ii:=item_at R.pos R.at'
        have hg:=R.gv
        have e0:=R.fst
        have e9:=R.lst
        clear R
        generalize sA A n=a at *
        have hd:∀ l∈done,l∈rows:=fun y hy=>by rw [e2]; exact List.mem_append_left _ hy
        have lp:=Qs u (allg hd)
        have ld:(done.map (gv A)).length=done.length:=List.length_map _
        have lr:done.length≤rows.length:=by rw [e2,List.length_append]; omega
        have ls:a.s.2.length<lim:=by show _<1000000; omega
        have lt:(Eu (done.map (gv A))).length+a.s.2.length<lim:=by show _<1000000; omega
        have ef:(done++[x]).map (gv A)=done.map (gv A)++[(a.s,t)]:=by rw [List.map_append,List.map_cons,List.map_nil,hg]
        refine ⟨⟨[some (.lst (A.map atT),false),some (.lst (rows.map ilT),false),some (.int (cN (done.map (gv A))),false),some (.lst ((Eu (done.map (gv A))).map pT),true),some (ilT x,false),o5],sto⟩,⟨[some (.lst (A.map atT),false),some (.lst (rows.map ilT),false),some (.int (cN ((done++[x]).map (gv A))),false),some (.lst ((Eu ((done++[x]).map (gv A))).map pT),true),some (ilT x,false),some (smT a.s,false)],sto⟩,rfl,?_,l,done++[x],_,_,rfl,by rw [e2]; simp,rfl⟩
        have en:cN ((done++[x]).map (gv A))=cN (done.map (gv A))+t * a.s.1:=by
          rw [ef]; unfold cN; rw [List.map_append,List.sum_append]; simp
        have ep:Eu ((done++[x]).map (gv A))=Eu (done.map (gv A))++a.s.2.map fun p=>(p.1,t * p.2):=by
          rw [ef]; unfold Eu; rw [List.flatMap_append]; simp
        rw [en,ep]
        generalize ilT x=X at *
        simp [ig,j9,sIf,ji,sNew,jl,ju,sNx,dw,sGo,dg,kh,cj,dj,jc,fj,m7,lg,mOr,j5,mIf,mOp,mUn,bh,gk,aj,dz,aq,jd,fu,cg,hName,lq,gj,jw,ltT,leT,jz,jf,lu,jo,iw,jt,mj,j8,j7,bw,m8,e0,ii,atT,xg,e9,smT,uf,Dm,hb]
        generalize hG:uw 2 _ _ _ _ _ _=q
        have e:=Ba hG pT (fun p=>pT (p.1,t * p.2)) a.s.2 ⟨[some (.lst (A.map atT),false),some (.lst (rows.map ilT),false),some (.int (cN (done.map (gv A))+t * a.s.1),false),some (.lst ((Eu (done.map (gv A))).map pT),true),some (X,false),some (smT a.s,false)],sto⟩ [some (.lst (A.map atT),false),some (.lst (rows.map ilT),false),some (.int (cN (done.map (gv A))+t * a.s.1),false),some (.lst ((Eu (done.map (gv A))).map pT),true),some (X,false),some (smT a.s,false)] [some (X,false)] (by first | exact rfl | simp [ig,j9,sIf,ji,sNew,jl,ju,sNx,dw,sGo,dg,kh,cj,dj,jc,fj,m7,lg,mOr,j5,mIf,mOp,mUn,bh,gk,aj,dz,aq,jd,fu,cg,hName,lq,gj,jw,ltT,leT,jz,jf,lu,jo,iw,jt,mj,j8,j7,bw,m8,smT,xg,ls]) rfl rfl rfl (Nat.le_of_lt ls) (fun p hp pre hl=>by
          match pre,hl with
          | [p0,p1],_=>exact ⟨[some (.str p.1,false),some (.int p.2,false)],rfl,by first | exact rfl | simp [ig,j9,sIf,ji,sNew,jl,ju,sNx,dw,sGo,dg,kh,cj,dj,jc,fj,m7,lg,mOr,j5,mIf,mOp,mUn,bh,gk,aj,dz,aq,jd,fu,cg,hName,lq,gj,jw,ltT,leT,jz,jf,lu,jo,iw,jt,mj,j8,j7,bw,m8,pT],rfl,by first | exact rfl | simp [ig,j9,sIf,ji,sNew,jl,ju,sNx,dw,sGo,dg,kh,cj,dj,jc,fj,m7,lg,mOr,j5,mIf,mOp,mUn,bh,gk,aj,dz,aq,jd,fu,cg,hName,lq,gj,jw,ltT,leT,jz,jf,lu,jo,iw,jt,mj,j8,j7,bw,m8,e9,Dm,hb,pT]⟩)
        subst e
        simp [ig,j9,sIf,ji,sNew,jl,ju,sNx,dw,sGo,dg,kh,cj,dj,jc,fj,m7,lg,mOr,j5,mIf,mOp,mUn,bh,gk,aj,dz,aq,jd,fu,cg,hName,lq,gj,jw,ltT,leT,jz,jf,lu,jo,iw,jt,mj,j8,j7,bw,m8,lt]
        rfl)
  obtain ⟨l,done,o4,o5,e1,e2,rfl⟩:=P
  cases l with
  | cons _ _=>cases e1
  | nil =>
    rw [List.append_nil] at e2
    subst e2
    have ag:=allg (rs:=rows) fun _ h=>h
    have lp:=Qs u ag
    have ld:(rows.map (gv A)).length=rows.length:=List.length_map _
    have so:=a1w (sto:=sto) (n:=cN (rows.map (gv A))) (l:=Eu (rows.map (gv A))) u (.inl rfl) (by omega) (fun b hb=>by
      unfold ks Eu at hb
      rw [List.map_flatMap] at hb
      obtain ⟨g,hg,h⟩:=List.mem_flatMap.mp hb
      refine (ag g hg).sub b ?_
      unfold ks
      simpa using h)
    simp [ig,j9,sIf,ji,sNew,jl,ju,sNx,dw,sGo,dg,kh,cj,dj,jc,fj,m7,lg,mOr,j5,mIf,mOp,mUn,bh,gk,aj,dz,aq,jd,fu,cg,hName,lq,gj,jw,ltT,leT,jz,jf,lu,jo,iw,jt,mj,j8,j7,bw,m8,so]
    rw [show tot (Eu (rows.map (gv A)))=cF (rows.map (gv A)) from funext fun b=>Xp ag]
theorem a00 {m:Int} {s:Sm} {o0 o1 o2:Slot} (hm:0<m) (hl:s.2.length≤100):gk Tw (aj (uw 2 [1] (lq [0,1]) (jw (mOp gn (bh 3) (aq (.int 1)))) j7 (mOp eqO (mOp jo (bh 1) (bh 2)) (aq (.int 0)))) dz) ⟨[o0,some (.int m,false),o2,some (smT s,false)],sto⟩
    = some (.bl (s.2.all fun p=>p.2%m==0),⟨[o0,some (.int m,false),o2,some (smT s,false)],sto⟩):=by
  have l1:s.2.length<lim:=by show _<1000000; omega
  have co:uw 2 [1] (lq [0,1]) (jw (mOp gn (bh 3) (aq (.int 1)))) j7 (mOp eqO (mOp jo (bh 1) (bh 2)) (aq (.int 0))) ⟨[o0,some (.int m,false),o2,some (smT s,false)],sto⟩=some (.lst (s.2.map fun p=>T.bl (p.2%m==0)),⟨[o0,some (.int m,false),o2,some (smT s,false)],sto⟩):=by
    generalize hF:uw 2 _ _ _ _ _ _=q
    exact Ba hF pT (fun p=>T.bl (p.2%m==0)) s.2 ⟨[o0,some (.int m,false),o2,some (smT s,false)],sto⟩ [o0,some (.int m,false),o2,some (smT s,false)] [some (.int m,false)] (by unfold smT; simp [ig,j9,sIf,ji,sNew,jl,ju,sNx,dw,sGo,dg,kh,cj,dj,jc,fj,m7,lg,mOr,j5,mIf,mOp,mUn,bh,gk,aj,dz,aq,jd,fu,cg,hName,lq,gj,jw,ltT,leT,jz,jf,lu,jo,iw,jt,mj,j8,j7,bw,m8,xg,l1]) rfl rfl rfl (Nat.le_of_lt l1) (fun p hp pre hq=>by
      match pre,hq with
      | [p0,p1],_=>exact ⟨[some (.str p.1,false),some (.int p.2,false)],rfl,by first | exact rfl | simp [ig,j9,sIf,ji,sNew,jl,ju,sNx,dw,sGo,dg,kh,cj,dj,jc,fj,m7,lg,mOr,j5,mIf,mOp,mUn,bh,gk,aj,dz,aq,jd,fu,cg,hName,lq,gj,jw,ltT,leT,jz,jf,lu,jo,iw,jt,mj,j8,j7,bw,m8,pT],rfl,by simp [ig,j9,sIf,ji,sNew,jl,ju,sNx,dw,sGo,dg,kh,cj,dj,jc,fj,m7,lg,mOr,j5,mIf,mOp,mUn,bh,gk,aj,dz,aq,jd,fu,cg,hName,lq,gj,jw,ltT,leT,jz,jf,lu,jo,iw,jt,mj,j8,j7,bw,m8,hm,qw]⟩)
  have ha:=all_map (fun p:Pr=>p.2%m==0) s.2
  simp [ig,j9,sIf,ji,sNew,jl,ju,sNx,dw,sGo,dg,kh,cj,dj,jc,fj,m7,lg,mOr,j5,mIf,mOp,mUn,bh,gk,aj,dz,aq,jd,fu,cg,hName,lq,gj,jw,ltT,leT,jz,jf,lu,jo,iw,jt,mj,j8,j7,bw,m8,co,ha]
theorem a3r {rows:List (List Int)} (u:Uni U) (hU:U.Nodup) (ok:∀ a∈A,O1 U a) (hb:∀ l∈rows,∀ n∈l,Ah n=true) (hl:rows.length≤100) :
    Cg [.lst (A.map atT),.int m,.lst (rows.map ilT)] sto=some (.bl (Bg U A m rows),sto):=by
  have l1:rows.length<lim:=by show _<1000000; omega
  by_cases hm:m<2
  · have:decide (2≤m)=false:=by simp; omega
    unfold Cg
    simp [ig,j9,sIf,ji,sNew,jl,ju,sNx,dw,sGo,dg,kh,cj,dj,jc,fj,m7,lg,mOr,j5,mIf,mOp,mUn,bh,gk,aj,dz,aq,jd,fu,cg,hName,lq,gj,jw,ltT,leT,jz,jf,lu,jo,iw,jt,mj,j8,j7,bw,m8,hm,Bg,this]
  · have hd:decide (2≤m)=true:=by simp; omega
    have hm2:2≤m:=by omega
    have hm0:0<m:=by omega
    have co:uw 1 [0,1] (hName 0) (jw (bh 2)) j7 (fu nj (aj (bh 1) (aj (bh 2) (aj (bh 0) dz)))) ⟨[some (.lst (A.map atT),false),some (.int m,false),some (.lst (rows.map ilT),false),none],sto⟩=some (.lst (rows.map fun l=>T.bl (v8 U m A l)),⟨[some (.lst (A.map atT),false),some (.int m,false),some (.lst (rows.map ilT),false),none],sto⟩):=by
      generalize hF:uw 1 _ _ _ _ _ _=q
      exact Ba hF ilT (fun l=>T.bl (v8 U m A l)) rows ⟨[some (.lst (A.map atT),false),some (.int m,false),some (.lst (rows.map ilT),false),none],sto⟩ [some (.lst (A.map atT),false),some (.int m,false),some (.lst (rows.map ilT),false),none] [some (.lst (A.map atT),false),some (.int m,false)] (by first | exact rfl | simp [ig,j9,sIf,ji,sNew,jl,ju,sNx,dw,sGo,dg,kh,cj,dj,jc,fj,m7,lg,mOr,j5,mIf,mOp,mUn,bh,gk,aj,dz,aq,jd,fu,cg,hName,lq,gj,jw,ltT,leT,jz,jf,lu,jo,iw,jt,mj,j8,j7,bw,m8,l1]) rfl rfl rfl (Nat.le_of_lt l1) (fun l hl' pre hp=>by
        have:=Rj (sto:=sto) (l:=l) hm2 u hU ok (hb l hl')
        match pre,hp with
        | [p0],_=>exact ⟨[some (ilT l,false)],rfl,by first | exact rfl | simp [ig,j9,sIf,ji,sNew,jl,ju,sNx,dw,sGo,dg,kh,cj,dj,jc,fj,m7,lg,mOr,j5,mIf,mOp,mUn,bh,gk,aj,dz,aq,jd,fu,cg,hName,lq,gj,jw,ltT,leT,jz,jf,lu,jo,iw,jt,mj,j8,j7,bw,m8],rfl,by first | exact rfl | simp [ig,j9,sIf,ji,sNew,jl,ju,sNx,dw,sGo,dg,kh,cj,dj,jc,fj,m7,lg,mOr,j5,mIf,mOp,mUn,bh,gk,aj,dz,aq,jd,fu,cg,hName,lq,gj,jw,ltT,leT,jz,jf,lu,jo,iw,jt,mj,j8,j7,bw,m8,this]⟩)
    have ha:=all_map (fun l=>v8 U m A l) rows
    unfold Cg ig
    rw [show ([T.lst (A.map atT),T.int m,T.lst (rows.map ilT)].map (fun t=>some (t,false))++List.replicate (4 - [T.lst (A.map atT),T.int m,T.lst (rows.map ilT)].length) none:List Slot)=[some (.lst (A.map atT),false),some (.int m,false),some (.lst (rows.map ilT),false),none] from rfl]
    by_cases h:(rows.all fun l=>v8 U m A l)=true
    · rw [h] at ha
      have ad:=a0j (sto:=sto) u ok (List.all_eq_true.mp h) hb hl
      have h':rows.all (v8 U m A)=true:=h
      generalize hS:((cN (rows.map (gv A)),canon U (cF (rows.map (gv A)))):Sm)=S at ad
      have sl:S.2.length≤100:=by
        have:=Gw u (Ae (n:=cN (rows.map (gv A))) (f:=cF (rows.map (gv A))) hU)
        rw [hS] at this
        omega
      rw [j4 (s':=⟨[some (.lst (A.map atT),false),some (.int m,false),some (.lst (rows.map ilT),false),none],sto⟩) (by simp [ig,j9,sIf,ji,sNew,jl,ju,sNx,dw,sGo,dg,kh,cj,dj,jc,fj,m7,lg,mOr,j5,mIf,mOp,mUn,bh,gk,aj,dz,aq,jd,fu,cg,hName,lq,gj,jw,ltT,leT,jz,jf,lu,jo,iw,jt,mj,j8,j7,bw,m8,hm,co,ha])]
      rw [j4 (s':=⟨[some (.lst (A.map atT),false),some (.int m,false),some (.lst (rows.map ilT),false),some (smT S,false)],sto⟩) (by first | exact rfl | simp [ig,j9,sIf,ji,sNew,jl,ju,sNx,dw,sGo,dg,kh,cj,dj,jc,fj,m7,lg,mOr,j5,mIf,mOp,mUn,bh,gk,aj,dz,aq,jd,fu,cg,hName,lq,gj,jw,ltT,leT,jz,jf,lu,jo,iw,jt,mj,j8,j7,bw,m8,ad])]
      have ar:=a00 (s:=S) (sto:=sto) (o0:=some (.lst (A.map atT),false)) (o1:=none) (o2:=some (.lst (rows.map ilT),false)) hm0 sl
      have isr:Bg U A m rows=a2f m S:=by unfold Bg; rw [hd,h',hS]; rfl
      rw [isr]
      unfold a2f
      have i0:gn (smT S) (.int 0)=some (.int S.1):=uf
      generalize hM:gk Tw _=MM at ar ⊢
      by_cases hz:S.1%m=0
      · have e1:(S.1%m==0)=true:=by simpa using hz
        simp [ig,j9,sIf,ji,sNew,jl,ju,sNx,dw,sGo,dg,kh,cj,dj,jc,fj,m7,lg,mOr,j5,mIf,mOp,mUn,bh,gk,aj,dz,aq,jd,fu,cg,hName,lq,gj,jw,ltT,leT,jz,jf,lu,jo,iw,jt,mj,j8,j7,bw,m8,i0,hm0,Ac,e1,hz]
      · have e1:(S.1%m==0)=false:=by simpa using hz
        have e2:(S.1%m != 0)=true:=by simpa using hz
        simp [ig,j9,sIf,ji,sNew,jl,ju,sNx,dw,sGo,dg,kh,cj,dj,jc,fj,m7,lg,mOr,j5,mIf,mOp,mUn,bh,gk,aj,dz,aq,jd,fu,cg,hName,lq,gj,jw,ltT,leT,jz,jf,lu,jo,iw,jt,mj,j8,j7,bw,m8,i0,hm0,Ac,e1,e2,ar]
    · have hf:(rows.all fun l=>v8 U m A l)=false:=by simpa using h
      have hf':rows.all (v8 U m A)=false:=hf
      rw [hf] at ha
      simp [ig,j9,sIf,ji,sNew,jl,ju,sNx,dw,sGo,dg,kh,cj,dj,jc,fj,m7,lg,mOr,j5,mIf,mOp,mUn,bh,gk,aj,dz,aq,jd,fu,cg,hName,lq,gj,jw,ltT,leT,jz,jf,lu,jo,iw,jt,mj,j8,j7,bw,m8,hm,co,ha,Bg,hf',hd]
end
end K
end
noncomputable section
set_option linter.all false
set_option maxRecDepth 100000
set_option autoImplicit false
namespace K
open C PySem
noncomputable abbrev Bd:=Str × Int × Int
noncomputable def bdT (r:Bd):T:=.tup [.str r.1,.int r.2.1,.int r.2.2]
noncomputable def aL (b:Str) (n:Int):At:=⟨"most",(n,[(b,-1)]),[]⟩
noncomputable def aM (b:Str) (n:Int):At:=⟨"most",(-n,[(b,1)]),[]⟩
noncomputable def bounds (bs:List Bd):List At:=bs.flatMap fun r=>[aL r.1 r.2.1,aM r.1 r.2.2]
noncomputable section
variable {U:List Str} {sto:List SO} {A:List At}
theorem a09 {i j k:Nat} {x y z:T} {s:Sta}:lq [i,j,k] (.tup [x,y,z]) s=some (cg k z false (cg j y false (cg i x false s))):=by simp [lq]
theorem Zm {b:Str} {n:Int}:zc [.str b,.int n] sto=some (atT (aL b n),sto):=by first | exact rfl | simp [ig,j9,sIf,ji,sNew,jl,ju,sNx,dw,sGo,dg,kh,cj,dj,jc,fj,m7,lg,mOr,j5,mIf,mOp,mUn,bh,gk,aj,dz,aq,jd,fu,cg,hName,lq,gj,jw,ltT,leT,jz,jf,lu,jo,iw,jt,mj,j8,j7,bw,m8,zc,atT,aL,smT,pT]
theorem a4t {b:Str} {n:Int}:Ao [.str b,.int n] sto=some (atT (aM b n),sto):=by first | exact rfl | simp [ig,j9,sIf,ji,sNew,jl,ju,sNx,dw,sGo,dg,kh,cj,dj,jc,fj,m7,lg,mOr,j5,mIf,mOp,mUn,bh,gk,aj,dz,aq,jd,fu,cg,hName,lq,gj,jw,ltT,leT,jz,jf,lu,jo,iw,jt,mj,j8,j7,bw,m8,Ao,atT,aM,smT,pT]
theorem Az (bs:List Bd):(bounds bs).length=2 * bs.length:=by
  unfold bounds
  induction bs with
  | nil=>rfl
  | cons a l ih=>rw [List.flatMap_cons,List.length_append,ih]; simp; omega
theorem Yk {bs:List Bd} (h:∀ r∈bs,r.1∈U):∀ a∈bounds bs,O1 U a:=fun a ha=>by
  obtain ⟨r,hr,e⟩:=List.mem_flatMap.mp ha
  simp only [List.mem_cons,List.not_mem_nil,or_false] at e
  rcases e with rfl | rfl
  · exact ⟨G6,⟨by simp [aL,ks],fun b hb=>by simp [aL,ks] at hb; rw [hb]; exact h r hr⟩,fun z=>by exact absurd z (by show ¬ (("most" : Str)==("rest" : Str))=true; decide)⟩
  · exact ⟨G6,⟨by simp [aM,ks],fun b hb=>by simp [aM,ks] at hb; rw [hb]; exact h r hr⟩,fun z=>by exact absurd z (by show ¬ (("most" : Str)==("rest" : Str))=true; decide)⟩
theorem Kr (l:List Bd) (r:Bd):bounds (l++[r])=bounds l++[aL r.1 r.2.1,aM r.1 r.2.2]:=by
  unfold bounds; rw [List.flatMap_append]; simp
theorem Qm {bs:List Bd} (hl:bs.length≤100):yj [.lst (bs.map bdT)] sto=some (.tup [.lst ((bounds bs).map atT),.lst []],sto):=by
  have l1:bs.length<lim:=by show _<1000000; omega
  unfold yj
  simp [ig,j9,sIf,ji,sNew,jl,ju,sNx,dw,sGo,dg,kh,cj,dj,jc,fj,m7,lg,mOr,j5,mIf,mOp,mUn,bh,gk,aj,dz,aq,jd,fu,cg,hName,lq,gj,jw,ltT,leT,jz,jf,lu,jo,iw,jt,mj,j8,j7,bw,m8,l1]
  generalize hF:forL _ _ _ _=r
  obtain ⟨s',rfl,P⟩:=Rh hF (fun ts s=>∃ (l done:List Bd) (o2 o3 o4:Slot),ts=l.map bdT∧bs=done++l∧s=⟨[some (.lst (bs.map bdT),false),some (.lst ((bounds done).map atT),true),o2,o3,o4],sto⟩)
    ⟨bs,[],none,none,none,rfl,rfl,rfl⟩ (by
      rintro t r s ⟨l,done,o2,o3,o4,e1,e2,rfl⟩
      cases l with
      | nil=>cases e1
      | cons x l =>
        cases e1
        have ld:done.length+l.length+1=bs.length:=by rw [e2]; simp; omega
        have hd:=Az done
        have lt:(bounds done).length<lim:=by show _<1000000; omega
        have lt1:(bounds done).length+1<lim:=by show _<1000000; omega
        refine ⟨⟨[some (.lst (bs.map bdT),false),some (.lst ((bounds done).map atT),true),some (.str x.1,false),some (.int x.2.1,false),some (.int x.2.2,false)],sto⟩,⟨[some (.lst (bs.map bdT),false),some (.lst ((bounds (done++[x])).map atT),true),some (.str x.1,false),some (.int x.2.1,false),some (.int x.2.2,false)],sto⟩,by rw [bdT,a09]; rfl,?_,l,done++[x],_,_,_,rfl,by rw [e2]; simp,rfl⟩
        rw [Kr]
        simp [ig,j9,sIf,ji,sNew,jl,ju,sNx,dw,sGo,dg,kh,cj,dj,jc,fj,m7,lg,mOr,j5,mIf,mOp,mUn,bh,gk,aj,dz,aq,jd,fu,cg,hName,lq,gj,jw,ltT,leT,jz,jf,lu,jo,iw,jt,mj,j8,j7,bw,m8,Zm,a4t,lt,lt1])
  obtain ⟨l,done,o2,o3,o4,e1,e2,rfl⟩:=P
  cases l with
  | cons _ _=>cases e1
  | nil =>
    rw [List.append_nil] at e2
    subst e2
    simp [ig,j9,sIf,ji,sNew,jl,ju,sNx,dw,sGo,dg,kh,cj,dj,jc,fj,m7,lg,mOr,j5,mIf,mOp,mUn,bh,gk,aj,dz,aq,jd,fu,cg,hName,lq,gj,jw,ltT,leT,jz,jf,lu,jo,iw,jt,mj,j8,j7,bw,m8]
theorem a1m {Q:T} {v:Bool} {bs:List Bd} {f:List Fm} {A2:List At} (hA:Oj f=A2.map atT) (hf:Yy f) (hz:Mg f<1000) (h3:bs.length≤100)
    (pw:nu [.lst (bs.map fun r=>.str r.1),.tup [.lst ((bounds bs++A2).map atT),.lst ([]++Ft f)],Q] sto=some (if v then .lst [] else .non,sto)) :
    oh [.lst (bs.map bdT),.lst (f.map fmT),Q] sto=some (.bl v,sto):=by
  have l1:bs.length<lim:=by show _<1000000; omega
  have fl:=Qm (sto:=sto) h3
  have bl:=Az bs
  have li:=a4m (sto:=sto) (A:=(bounds bs).map atT) (O:=[]) hz hf (by rw [List.length_map]; omega) (by simp)
  rw [hA,← List.map_append] at li
  have co:uw 3 [] (lq [0,1,2]) (jw (bh 0)) j7 (bh 0) ⟨[some (.lst (bs.map bdT),false),some (.lst (f.map fmT),false),some (Q,false),none,none,none,none],sto⟩=some (.lst (bs.map fun r=>.str r.1),⟨[some (.lst (bs.map bdT),false),some (.lst (f.map fmT),false),some (Q,false),none,none,none,none],sto⟩):=by
    generalize hF:uw 3 _ _ _ _ _ _=q
    exact Ba hF bdT (fun r=>T.str r.1) bs ⟨[some (.lst (bs.map bdT),false),some (.lst (f.map fmT),false),some (Q,false),none,none,none,none],sto⟩ [some (.lst (bs.map bdT),false),some (.lst (f.map fmT),false),some (Q,false),none,none,none,none] [] (by first | exact rfl | simp [ig,j9,sIf,ji,sNew,jl,ju,sNx,dw,sGo,dg,kh,cj,dj,jc,fj,m7,lg,mOr,j5,mIf,mOp,mUn,bh,gk,aj,dz,aq,jd,fu,cg,hName,lq,gj,jw,ltT,leT,jz,jf,lu,jo,iw,jt,mj,j8,j7,bw,m8,l1]) rfl rfl rfl (Nat.le_of_lt l1) (fun r hr pre hp=>by
      match pre,hp with
      | [p0,p1,p2],_=>exact ⟨[some (.str r.1,false),some (.int r.2.1,false),some (.int r.2.2,false)],rfl,by rw [bdT,a09]; rfl,rfl,by first | exact rfl | simp [ig,j9,sIf,ji,sNew,jl,ju,sNx,dw,sGo,dg,kh,cj,dj,jc,fj,m7,lg,mOr,j5,mIf,mOp,mUn,bh,gk,aj,dz,aq,jd,fu,cg,hName,lq,gj,jw,ltT,leT,jz,jf,lu,jo,iw,jt,mj,j8,j7,bw,m8]⟩)
  unfold oh ig
  rw [show ([T.lst (bs.map bdT),.lst (f.map fmT),Q].map (fun t=>some (t,false))++List.replicate (7 - [T.lst (bs.map bdT),.lst (f.map fmT),Q].length) none:List Slot)=[some (.lst (bs.map bdT),false),some (.lst (f.map fmT),false),some (Q,false),none,none,none,none] from rfl]
  rw [j4 (s':=⟨[some (.lst (bs.map bdT),false),some (.lst (f.map fmT),false),some (Q,false),some (.lst (bs.map fun r=>.str r.1),false),none,none,none],sto⟩) (by first | exact rfl | simp [ig,j9,sIf,ji,sNew,jl,ju,sNx,dw,sGo,dg,kh,cj,dj,jc,fj,m7,lg,mOr,j5,mIf,mOp,mUn,bh,gk,aj,dz,aq,jd,fu,cg,hName,lq,gj,jw,ltT,leT,jz,jf,lu,jo,iw,jt,mj,j8,j7,bw,m8,co])]
  rw [j4 (s':=⟨[some (.lst (bs.map bdT),false),some (.lst (f.map fmT),false),some (Q,false),some (.lst (bs.map fun r=>.str r.1),false),some (.lst [.tup [.tup [.lst ((bounds bs++A2).map atT),.lst ([]++Ft f)],Q,.int 1]],true),none,none],sto⟩) (by
    simp only [List.map_append] at li ⊢
    simp [ig,j9,sIf,ji,sNew,jl,ju,sNx,dw,sGo,dg,kh,cj,dj,jc,fj,m7,lg,mOr,j5,mIf,mOp,mUn,bh,gk,aj,dz,aq,jd,fu,cg,hName,lq,gj,jw,ltT,leT,jz,jf,lu,jo,iw,jt,mj,j8,j7,bw,m8,fl,li])]
  cases hs:v with
  | true =>
    rw [hs] at pw
    rw [j4 (s':=⟨[some (.lst (bs.map bdT),false),some (.lst (f.map fmT),false),some (Q,false),some (.lst (bs.map fun r=>.str r.1),false),some (.lst [],true),some (.tup [.tup [.lst ((bounds bs++A2).map atT),.lst ([]++Ft f)],Q,.int 1],false),some (.lst [],false)],sto⟩) ?_]
    · simp [ig,j9,sIf,ji,sNew,jl,ju,sNx,dw,sGo,dg,kh,cj,dj,jc,fj,m7,lg,mOr,j5,mIf,mOp,mUn,bh,gk,aj,dz,aq,jd,fu,cg,hName,lq,gj,jw,ltT,leT,jz,jf,lu,jo,iw,jt,mj,j8,j7,bw,m8]
    · rw [Fp (s1:=⟨[some (.lst (bs.map bdT),false),some (.lst (f.map fmT),false),some (Q,false),some (.lst (bs.map fun r=>.str r.1),false),some (.lst [.tup [.tup [.lst ((bounds bs++A2).map atT),.lst ([]++Ft f)],Q,.int 1]],true),none,none],sto⟩) (s2:=⟨[some (.lst (bs.map bdT),false),some (.lst (f.map fmT),false),some (Q,false),some (.lst (bs.map fun r=>.str r.1),false),some (.lst [],true),some (.tup [.tup [.lst ((bounds bs++A2).map atT),.lst ([]++Ft f)],Q,.int 1],false),some (.lst [],false)],sto⟩) (by first | exact rfl | simp [ig,j9,sIf,ji,sNew,jl,ju,sNx,dw,sGo,dg,kh,cj,dj,jc,fj,m7,lg,mOr,j5,mIf,mOp,mUn,bh,gk,aj,dz,aq,jd,fu,cg,hName,lq,gj,jw,ltT,leT,jz,jf,lu,jo,iw,jt,mj,j8,j7,bw,m8,qm,gtT]) ?_]
      · rw [Vj (s1:=⟨[some (.lst (bs.map bdT),false),some (.lst (f.map fmT),false),some (Q,false),some (.lst (bs.map fun r=>.str r.1),false),some (.lst [],true),some (.tup [.tup [.lst ((bounds bs++A2).map atT),.lst ([]++Ft f)],Q,.int 1],false),some (.lst [],false)],sto⟩) (by first | exact rfl | simp [ig,j9,sIf,ji,sNew,jl,ju,sNx,dw,sGo,dg,kh,cj,dj,jc,fj,m7,lg,mOr,j5,mIf,mOp,mUn,bh,gk,aj,dz,aq,jd,fu,cg,hName,lq,gj,jw,ltT,leT,jz,jf,lu,jo,iw,jt,mj,j8,j7,bw,m8,qm,gtT])]
      · have ce:uw 2 [5] (lq [0,1]) (jw (bh 6)) j7 (gk (fun l=>some (.tup l)) (aj (bh 0) (aj (bh 1) (aj (mOp jf (mOp gn (bh 2) (aq (.int 2))) (aq (.int 1))) dz)))) ⟨[some (.lst (bs.map bdT),false),some (.lst (f.map fmT),false),some (Q,false),some (.lst (bs.map fun r=>.str r.1),false),some (.lst [],true),some (.tup [.tup [.lst ((bounds bs++A2).map atT),.lst ([]++Ft f)],Q,.int 1],false),some (.lst [],false)],sto⟩=some (.lst [],⟨[some (.lst (bs.map bdT),false),some (.lst (f.map fmT),false),some (Q,false),some (.lst (bs.map fun r=>.str r.1),false),some (.lst [],true),some (.tup [.tup [.lst ((bounds bs++A2).map atT),.lst ([]++Ft f)],Q,.int 1],false),some (.lst [],false)],sto⟩):=by
          generalize hF:uw 2 _ _ _ _ _ _=q
          exact Ba hF bdT bdT [] ⟨[some (.lst (bs.map bdT),false),some (.lst (f.map fmT),false),some (Q,false),some (.lst (bs.map fun r=>.str r.1),false),some (.lst [],true),some (.tup [.tup [.lst ((bounds bs++A2).map atT),.lst ([]++Ft f)],Q,.int 1],false),some (.lst [],false)],sto⟩ _ [some (.tup [.tup [.lst ((bounds bs++A2).map atT),.lst ([]++Ft f)],Q,.int 1],false)] (by first | exact rfl | simp [ig,j9,sIf,ji,sNew,jl,ju,sNx,dw,sGo,dg,kh,cj,dj,jc,fj,m7,lg,mOr,j5,mIf,mOp,mUn,bh,gk,aj,dz,aq,jd,fu,cg,hName,lq,gj,jw,ltT,leT,jz,jf,lu,jo,iw,jt,mj,j8,j7,bw,m8,lim]) rfl rfl rfl (by simp) (fun r hr=>by cases hr)
        rw [j4 (s':=⟨[some (.lst (bs.map bdT),false),some (.lst (f.map fmT),false),some (Q,false),some (.lst (bs.map fun r=>.str r.1),false),some (.lst [],true),some (.tup [.tup [.lst ((bounds bs++A2).map atT),.lst ([]++Ft f)],Q,.int 1],false),none],sto⟩) rfl]
        rw [j4 (s':=⟨[some (.lst (bs.map bdT),false),some (.lst (f.map fmT),false),some (Q,false),some (.lst (bs.map fun r=>.str r.1),false),some (.lst [],true),some (.tup [.tup [.lst ((bounds bs++A2).map atT),.lst ([]++Ft f)],Q,.int 1],false),some (.non,false)],sto⟩) rfl]
        rw [j4 (s':=⟨[some (.lst (bs.map bdT),false),some (.lst (f.map fmT),false),some (Q,false),some (.lst (bs.map fun r=>.str r.1),false),some (.lst [],true),some (.tup [.tup [.lst ((bounds bs++A2).map atT),.lst ([]++Ft f)],Q,.int 1],false),some (.lst [],false)],sto⟩) (by
          simp only [List.nil_append,List.map_append] at pw
          simp [ig,j9,sIf,ji,sNew,jl,ju,sNx,dw,sGo,dg,kh,cj,dj,jc,fj,m7,lg,mOr,j5,mIf,mOp,mUn,bh,gk,aj,dz,aq,jd,fu,cg,hName,lq,gj,jw,ltT,leT,jz,jf,lu,jo,iw,jt,mj,j8,j7,bw,m8,uf,xg,Gu,leT,pw])]
        rw [j4 (s':=⟨[some (.lst (bs.map bdT),false),some (.lst (f.map fmT),false),some (Q,false),some (.lst (bs.map fun r=>.str r.1),false),some (.lst [],true),some (.tup [.tup [.lst ((bounds bs++A2).map atT),.lst ([]++Ft f)],Q,.int 1],false),some (.lst [],false)],sto⟩) (by first | exact rfl | simp [ig,j9,sIf,ji,sNew,jl,ju,sNx,dw,sGo,dg,kh,cj,dj,jc,fj,m7,lg,mOr,j5,mIf,mOp,mUn,bh,gk,aj,dz,aq,jd,fu,cg,hName,lq,gj,jw,ltT,leT,jz,jf,lu,jo,iw,jt,mj,j8,j7,bw,m8,a0r,Nk])]
        simp only [dj,ce]
        simp [j8,jc,lim,cg]
  | false =>
    rw [hs] at pw
    rw [K8 (s':=⟨[some (.lst (bs.map bdT),false),some (.lst (f.map fmT),false),some (Q,false),some (.lst (bs.map fun r=>.str r.1),false),some (.lst [],true),some (.tup [.tup [.lst ((bounds bs++A2).map atT),.lst ([]++Ft f)],Q,.int 1],false),some (.non,false)],sto⟩) (v:=.bl false) ?_]
    rw [Y4 (s1:=⟨[some (.lst (bs.map bdT),false),some (.lst (f.map fmT),false),some (Q,false),some (.lst (bs.map fun r=>.str r.1),false),some (.lst [.tup [.tup [.lst ((bounds bs++A2).map atT),.lst ([]++Ft f)],Q,.int 1]],true),none,none],sto⟩) (by first | exact rfl | simp [ig,j9,sIf,ji,sNew,jl,ju,sNx,dw,sGo,dg,kh,cj,dj,jc,fj,m7,lg,mOr,j5,mIf,mOp,mUn,bh,gk,aj,dz,aq,jd,fu,cg,hName,lq,gj,jw,ltT,leT,jz,jf,lu,jo,iw,jt,mj,j8,j7,bw,m8,qm,gtT]) ?_]
    rw [j4 (s':=⟨[some (.lst (bs.map bdT),false),some (.lst (f.map fmT),false),some (Q,false),some (.lst (bs.map fun r=>.str r.1),false),some (.lst [],true),some (.tup [.tup [.lst ((bounds bs++A2).map atT),.lst ([]++Ft f)],Q,.int 1],false),none],sto⟩) rfl]
    rw [j4 (s':=⟨[some (.lst (bs.map bdT),false),some (.lst (f.map fmT),false),some (Q,false),some (.lst (bs.map fun r=>.str r.1),false),some (.lst [],true),some (.tup [.tup [.lst ((bounds bs++A2).map atT),.lst ([]++Ft f)],Q,.int 1],false),some (.non,false)],sto⟩) rfl]
    rw [j4 (s':=⟨[some (.lst (bs.map bdT),false),some (.lst (f.map fmT),false),some (Q,false),some (.lst (bs.map fun r=>.str r.1),false),some (.lst [],true),some (.tup [.tup [.lst ((bounds bs++A2).map atT),.lst ([]++Ft f)],Q,.int 1],false),some (.non,false)],sto⟩) (by
      simp only [List.nil_append,List.map_append] at pw
      simp [ig,j9,sIf,ji,sNew,jl,ju,sNx,dw,sGo,dg,kh,cj,dj,jc,fj,m7,lg,mOr,j5,mIf,mOp,mUn,bh,gk,aj,dz,aq,jd,fu,cg,hName,lq,gj,jw,ltT,leT,jz,jf,lu,jo,iw,jt,mj,j8,j7,bw,m8,uf,xg,Gu,leT,pw])]
    rw [K8 (s':=⟨[some (.lst (bs.map bdT),false),some (.lst (f.map fmT),false),some (Q,false),some (.lst (bs.map fun r=>.str r.1),false),some (.lst [],true),some (.tup [.tup [.lst ((bounds bs++A2).map atT),.lst ([]++Ft f)],Q,.int 1],false),some (.non,false)],sto⟩) (v:=.bl false) (by first | exact rfl | simp [ig,j9,sIf,ji,sNew,jl,ju,sNx,dw,sGo,dg,kh,cj,dj,jc,fj,m7,lg,mOr,j5,mIf,mOp,mUn,bh,gk,aj,dz,aq,jd,fu,cg,hName,lq,gj,jw,ltT,leT,jz,jf,lu,jo,iw,jt,mj,j8,j7,bw,m8,a0r,Nk])]
noncomputable def PR (x:T × List Int):Prop:=∀ sto:List SO,yg [x.1] sto=some (ilT x.2,sto)
theorem N8 {r:Rw} (h:r.length≤100):PR (rwT r,pr r):=fun sto=>Od (by omega)
theorem a6t {l:List T}:PR (.lst l,[]):=fun sto=>by
  have pt:jy [.lst l] sto=some (.tup [],sto):=by first | exact rfl | simp [ig,j9,sIf,ji,sNew,jl,ju,sNx,dw,sGo,dg,kh,cj,dj,jc,fj,m7,lg,mOr,j5,mIf,mOp,mUn,bh,gk,aj,dz,aq,jd,fu,cg,hName,lq,gj,jw,ltT,leT,jz,jf,lu,jo,iw,jt,mj,j8,j7,bw,m8,jy,isTup]
  unfold yg
  simp [ig,j9,sIf,ji,sNew,jl,ju,sNx,dw,sGo,dg,kh,cj,dj,jc,fj,m7,lg,mOr,j5,mIf,mOp,mUn,bh,gk,aj,dz,aq,jd,fu,cg,hName,lq,gj,jw,ltT,leT,jz,jf,lu,jo,iw,jt,mj,j8,j7,bw,m8,pt,uw,jw,Fl,lim,bw,uo,Tw,Jr,wu,ilT]
theorem S7 {xs:List (T × List Int)} (hl:xs.length≤100) (h:∀ x∈xs,PR x):su [.tup (xs.map (·.1))] sto=some (.lst ((xs.map (·.2)).map ilT),sto):=by
  have l1:xs.length<lim:=by show _<1000000; omega
  unfold su
  simp [ig,j9,sIf,ji,sNew,jl,ju,sNx,dw,sGo,dg,kh,cj,dj,jc,fj,m7,lg,mOr,j5,mIf,mOp,mUn,bh,gk,aj,dz,aq,jd,fu,cg,hName,lq,gj,jw,ltT,leT,jz,jf,lu,jo,iw,jt,mj,j8,j7,bw,m8]
  generalize hF:uw 1 _ _ _ _ _ _=q
  have e:=Ba hF (fun x:T × List Int=>x.1) (fun x=>ilT x.2) xs ⟨[some (.tup (xs.map (·.1)),false)],sto⟩ [some (.tup (xs.map (·.1)),false)] [] (by first | exact rfl | simp [ig,j9,sIf,ji,sNew,jl,ju,sNx,dw,sGo,dg,kh,cj,dj,jc,fj,m7,lg,mOr,j5,mIf,mOp,mUn,bh,gk,aj,dz,aq,jd,fu,cg,hName,lq,gj,jw,ltT,leT,jz,jf,lu,jo,iw,jt,mj,j8,j7,bw,m8,Ax,l1]) rfl rfl rfl (Nat.le_of_lt l1) (fun x hx pre hp=>by
    have:=h x hx sto
    match pre,hp with
    | [p0],_=>exact ⟨[some (x.1,false)],rfl,by first | exact rfl | simp [ig,j9,sIf,ji,sNew,jl,ju,sNx,dw,sGo,dg,kh,cj,dj,jc,fj,m7,lg,mOr,j5,mIf,mOp,mUn,bh,gk,aj,dz,aq,jd,fu,cg,hName,lq,gj,jw,ltT,leT,jz,jf,lu,jo,iw,jt,mj,j8,j7,bw,m8],rfl,by first | exact rfl | simp [ig,j9,sIf,ji,sNew,jl,ju,sNx,dw,sGo,dg,kh,cj,dj,jc,fj,m7,lg,mOr,j5,mIf,mOp,mUn,bh,gk,aj,dz,aq,jd,fu,cg,hName,lq,gj,jw,ltT,leT,jz,jf,lu,jo,iw,jt,mj,j8,j7,bw,m8,this]⟩)
  subst e
  simp
noncomputable def leaf (xs:List (T × List Int)) (P:T):Prop:=P=.tup (xs.map (·.1))∨(∃ l,P=.lst l)∧xs=[]
theorem Xz {xs:List (T × List Int)} {P:T} (h:leaf xs P) (hl:xs.length≤100) (h2:∀ x∈xs,PR x):su [P] sto=some (.lst ((xs.map (·.2)).map ilT),sto):=by
  rcases h with rfl | ⟨⟨l,rfl⟩,rfl⟩
  · exact S7 hl h2
  · have pt:jy [.lst l] sto=some (.tup [],sto):=by first | exact rfl | simp [ig,j9,sIf,ji,sNew,jl,ju,sNx,dw,sGo,dg,kh,cj,dj,jc,fj,m7,lg,mOr,j5,mIf,mOp,mUn,bh,gk,aj,dz,aq,jd,fu,cg,hName,lq,gj,jw,ltT,leT,jz,jf,lu,jo,iw,jt,mj,j8,j7,bw,m8,jy,isTup]
    unfold su
    simp [ig,j9,sIf,ji,sNew,jl,ju,sNx,dw,sGo,dg,kh,cj,dj,jc,fj,m7,lg,mOr,j5,mIf,mOp,mUn,bh,gk,aj,dz,aq,jd,fu,cg,hName,lq,gj,jw,ltT,leT,jz,jf,lu,jo,iw,jt,mj,j8,j7,bw,m8]
    generalize hF:uw 1 _ _ _ _ _ _=q
    have e:=Ba hF rwT (fun r=>ilT (pr r)) [] ⟨[some (.lst l,false)],sto⟩ [some (.lst l,false)] [] (by first | exact rfl | simp [ig,j9,sIf,ji,sNew,jl,ju,sNx,dw,sGo,dg,kh,cj,dj,jc,fj,m7,lg,mOr,j5,mIf,mOp,mUn,bh,gk,aj,dz,aq,jd,fu,cg,hName,lq,gj,jw,ltT,leT,jz,jf,lu,jo,iw,jt,mj,j8,j7,bw,m8,pt,lim]) rfl rfl rfl (by simp) (fun r hr' pre hp=>by cases hr')
    subst e
    simp
noncomputable def restV (U:List Str) (A:List At) (c:Cl) (rows:List (List Int)):Bool:=match c with
  | .i m=>Bg U A m rows
  | .b _=>false
theorem Mt {c:Cl} {xs:List (T × List Int)} {P N O:T} (u:Uni U) (hU:U.Nodup) (ok:∀ a∈A,O1 U a) (h:leaf xs P) (hb:∀ x∈xs,∀ n∈x.2,Ah n=true) (hl:xs.length≤100) (h2:∀ x∈xs,PR x) :
    nu [N,.tup [.lst (A.map atT),O],.tup [.str "rest",clT c,P]] sto=some (if restV U A c (xs.map (·.2)) then .lst [] else .non,sto):=by
  have ro:eqO (.str "rest") (.str "or")=some (.bl false):=by
    have:=Eo G8 Yo
    rw [show (("rest" : Str)==("or" : Str))=false by decide +kernel] at this; exact this
  have k1:pq [.tup [.str "rest",clT c,P],.str "or",.int 3] sto=some (.bl false,sto):=by simp [ig,j9,sIf,ji,sNew,jl,ju,sNx,dw,sGo,dg,kh,cj,dj,jc,fj,m7,lg,mOr,j5,mIf,mOp,mUn,bh,gk,aj,dz,aq,jd,fu,cg,hName,lq,gj,jw,ltT,leT,jz,jf,lu,jo,iw,jt,mj,j8,j7,bw,m8,pq,qw,isStr,uf,ro]
  have k2:pq [.tup [.str "rest",clT c,P],.str "cut",.int 5] sto=some (.bl false,sto):=by first | exact rfl | simp [ig,j9,sIf,ji,sNew,jl,ju,sNx,dw,sGo,dg,kh,cj,dj,jc,fj,m7,lg,mOr,j5,mIf,mOp,mUn,bh,gk,aj,dz,aq,jd,fu,cg,hName,lq,gj,jw,ltT,leT,jz,jf,lu,jo,iw,jt,mj,j8,j7,bw,m8,pq,qw]
  have k3:pq [.tup [.str "rest",clT c,P],.str "sum",.int 2] sto=some (.bl false,sto):=by first | exact rfl | simp [ig,j9,sIf,ji,sNew,jl,ju,sNx,dw,sGo,dg,kh,cj,dj,jc,fj,m7,lg,mOr,j5,mIf,mOp,mUn,bh,gk,aj,dz,aq,jd,fu,cg,hName,lq,gj,jw,ltT,leT,jz,jf,lu,jo,iw,jt,mj,j8,j7,bw,m8,pq,qw]
  have k4:pq [.tup [.str "rest",clT c,P],.str "rest",.int 3] sto=some (.bl true,sto):=by
    have e:=Eo G8 G8
    rw [beq_self_eq_true] at e
    simp [ig,j9,sIf,ji,sNew,jl,ju,sNx,dw,sGo,dg,kh,cj,dj,jc,fj,m7,lg,mOr,j5,mIf,mOp,mUn,bh,gk,aj,dz,aq,jd,fu,cg,hName,lq,gj,jw,ltT,leT,jz,jf,lu,jo,iw,jt,mj,j8,j7,bw,m8,pq,qw,isStr,uf,e]
  have wh:=T9 (sto:=sto) (c:=c)
  have lr:=Xz (sto:=sto) h hl h2
  cases c with
  | b k =>
    simp only [clT,isI] at wh k1 k2 k3 k4 ⊢
    unfold restV
    simp [ig,j9,sIf,ji,sNew,jl,ju,sNx,dw,sGo,dg,kh,cj,dj,jc,fj,m7,lg,mOr,j5,mIf,mOp,mUn,bh,gk,aj,dz,aq,jd,fu,cg,hName,lq,gj,jw,ltT,leT,jz,jf,lu,jo,iw,jt,mj,j8,j7,bw,m8,nu,Ax,k1,k2,k3,k4,uf,xg,wh]
  | i m =>
    have is:=a3r (sto:=sto) (m:=m) (rows:=xs.map (·.2)) u hU ok (fun l hl' n hn=>by
      obtain ⟨x,hx,rfl⟩:=List.mem_map.mp hl'
      exact hb x hx n hn) (by simpa using hl)
    simp only [clT,isI] at wh k1 k2 k3 k4 ⊢
    unfold restV
    rw [List.map_map] at lr is
    cases hs:Bg U A m (xs.map (·.2)) with
    | true =>
      rw [hs] at is
      simp [ig,j9,sIf,ji,sNew,jl,ju,sNx,dw,sGo,dg,kh,cj,dj,jc,fj,m7,lg,mOr,j5,mIf,mOp,mUn,bh,gk,aj,dz,aq,jd,fu,cg,hName,lq,gj,jw,ltT,leT,jz,jf,lu,jo,iw,jt,mj,j8,j7,bw,m8,nu,Ax,k1,k2,k3,k4,uf,xg,Gu,wh,Jl,lr,is,hs]
    | false =>
      rw [hs] at is
      simp [ig,j9,sIf,ji,sNew,jl,ju,sNx,dw,sGo,dg,kh,cj,dj,jc,fj,m7,lg,mOr,j5,mIf,mOp,mUn,bh,gk,aj,dz,aq,jd,fu,cg,hName,lq,gj,jw,ltT,leT,jz,jf,lu,jo,iw,jt,mj,j8,j7,bw,m8,nu,Ax,k1,k2,k3,k4,uf,xg,Gu,wh,Jl,lr,is,hs]
theorem a4q {a b c N O:T}:nu [N,O,.tup [.str "rest",a,b,c]] sto=some (.non,sto):=by
  have k1:pq [.tup [.str "rest",a,b,c],.str "or",.int 3] sto=some (.bl false,sto):=by first | exact rfl | simp [ig,j9,sIf,ji,sNew,jl,ju,sNx,dw,sGo,dg,kh,cj,dj,jc,fj,m7,lg,mOr,j5,mIf,mOp,mUn,bh,gk,aj,dz,aq,jd,fu,cg,hName,lq,gj,jw,ltT,leT,jz,jf,lu,jo,iw,jt,mj,j8,j7,bw,m8,pq,qw]
  have k2:pq [.tup [.str "rest",a,b,c],.str "cut",.int 5] sto=some (.bl false,sto):=by first | exact rfl | simp [ig,j9,sIf,ji,sNew,jl,ju,sNx,dw,sGo,dg,kh,cj,dj,jc,fj,m7,lg,mOr,j5,mIf,mOp,mUn,bh,gk,aj,dz,aq,jd,fu,cg,hName,lq,gj,jw,ltT,leT,jz,jf,lu,jo,iw,jt,mj,j8,j7,bw,m8,pq,qw]
  have k3:pq [.tup [.str "rest",a,b,c],.str "sum",.int 2] sto=some (.bl false,sto):=by first | exact rfl | simp [ig,j9,sIf,ji,sNew,jl,ju,sNx,dw,sGo,dg,kh,cj,dj,jc,fj,m7,lg,mOr,j5,mIf,mOp,mUn,bh,gk,aj,dz,aq,jd,fu,cg,hName,lq,gj,jw,ltT,leT,jz,jf,lu,jo,iw,jt,mj,j8,j7,bw,m8,pq,qw]
  have k4:pq [.tup [.str "rest",a,b,c],.str "rest",.int 3] sto=some (.bl false,sto):=by first | exact rfl | simp [ig,j9,sIf,ji,sNew,jl,ju,sNx,dw,sGo,dg,kh,cj,dj,jc,fj,m7,lg,mOr,j5,mIf,mOp,mUn,bh,gk,aj,dz,aq,jd,fu,cg,hName,lq,gj,jw,ltT,leT,jz,jf,lu,jo,iw,jt,mj,j8,j7,bw,m8,pq,qw]
  simp [ig,j9,sIf,ji,sNew,jl,ju,sNx,dw,sGo,dg,kh,cj,dj,jc,fj,m7,lg,mOr,j5,mIf,mOp,mUn,bh,gk,aj,dz,aq,jd,fu,cg,hName,lq,gj,jw,ltT,leT,jz,jf,lu,jo,iw,jt,mj,j8,j7,bw,m8,nu,Ax,k1,k2,k3,k4]
noncomputable def fmA (a:At):Fm:=.atom a.k (smT a.s::a.more)
theorem a69 (l:List At):(l.map fmA).map fmT=l.map atT:=by rw [List.map_map]; exact List.map_congr_left fun a _=>by simp [fmA,fmT,atT]
theorem a4u:∀ l:List At,Oj (l.map fmA)=l.map atT
  | []=>rfl
  | a::l=>by rw [List.map_cons,Oj,a4u l]; simp [fmA,flA,atT]
theorem Xb:∀ l:List At,(∀ a∈l,okA a.k)→Yy (l.map fmA)
  | [],_=>trivial
  | a::l,h=>⟨h a List.mem_cons_self,Xb l fun b hb=>h b (List.mem_cons_of_mem _ hb)⟩
theorem W8:∀ l:List At,Mg (l.map fmA)=l.length
  | []=>rfl
  | a::l=>by rw [List.map_cons,Mg,W8 l]; simp [fmA,fsz]; omega
structure a04 (U:List Str) (bs:List Bd) (A2:List At):Prop where
  bd:∀ r∈bs,r.1∈U
  bl:bs.length≤10
  ok:∀ a∈A2,O1 U a
  kd:∀ a∈A2,okA a.k
  len:A2.length≤100
theorem a04.all {bs:List Bd} {A2:List At} (h:a04 U bs A2):∀ a∈bounds bs++A2,O1 U a:=fun a ha=>by
  rcases List.mem_append.mp ha with ha | ha -- here
  · exact Yk h.bd a ha
  · exact h.ok a ha
theorem Io {c:Cl} {xs:List (T × List Int)} {P:T} {bs:List Bd} {A2:List At} (u:Uni U) (hU:U.Nodup) (o:a04 U bs A2) (h:leaf xs P) (hb:∀ x∈xs,∀ n∈x.2,Ah n=true) (hl:xs.length≤100) (h2:∀ x∈xs,PR x) :
    oh [.lst (bs.map bdT),.lst (A2.map atT),.tup [.str "rest",clT c,P]] sto=some (.bl (restV U (bounds bs++A2) c (xs.map (·.2))),sto):=by
  rw [← a69 A2]
  exact a1m (a4u A2) (Xb A2 o.kd) (by rw [W8]; have:=o.len; omega) (by have:=o.bl; omega) (Mt u hU o.all h hb hl h2)
theorem a0y {a b c:T} {bs:List Bd} {A2:List At} (o:a04 U bs A2):oh [.lst (bs.map bdT),.lst (A2.map atT),.tup [.str "rest",a,b,c]] sto=some (.bl false,sto):=by
  rw [← a69 A2]
  exact a1m (v:=false) (a4u A2) (Xb A2 o.kd) (by rw [W8]; have:=o.len; omega) (by have:=o.bl; omega) a4q
end
end K
end
noncomputable section
set_option linter.all false
set_option maxRecDepth 100000
set_option autoImplicit false
namespace K
open C PySem
noncomputable section
variable {U:List Str} {sto:List SO} {A:List At} {m:Int}
theorem a9k:Ig U (0,[]):=⟨by simp [ks],fun b hb=>by simp [ks] at hb⟩
noncomputable def part (U:List Str) (s:Sm) (t:Int):Sm:=(0+s.1 * t,canon U fun b=>gt [] b+gt s.2 b * t)
theorem Ml {s:Sm} {t:Int} (u:Uni U) (h:Ig U s) (ht:Ah t=true):jm [.tup [.int 0,.tup []],smT s,.int t] sto=some (smT (part U s t),sto):=Fv (s1:=(0,[])) u a9k h ht
theorem part2 {c:Cl} {t:Int} (hm:2≤m) (u:Uni U) (hU:U.Nodup) (ok:∀ a∈A,O1 U a) (ht:Ah t=true) (h0:t≠0) :
    u6 [.lst (A.map atT),.int m,rwT [c,.i t]] sto=some (if v8 U m A (pr [c,.i t]) then smT (part U (gv A (pr [c,.i t])).1 t) else .non,sto):=by
  have hm0:0<m:=by omega
  have hz:(t != 0)=true:=by simpa using h0
  cases c with
  | b k=>unfold u6; simp [ig,j9,sIf,ji,sNew,jl,ju,sNx,dw,sGo,dg,kh,cj,dj,jc,fj,m7,lg,mOr,j5,mIf,mOp,mUn,bh,gk,aj,dz,aq,jd,fu,cg,hName,lq,gj,jw,ltT,leT,jz,jf,lu,jo,iw,jt,mj,j8,j7,bw,m8,rwT,clT,qw,uf,El,pr,isI,v8]
  | i n =>
    have ep:pr [.i n,.i t]=[n,t]:=rfl
    rw [ep]
    by_cases c0:n<0
    · have:isA A n "rest" = false:=by unfold isA; rw [decide_eq_false (by omega)]; rfl
      unfold u6
      simp [ig,j9,sIf,ji,sNew,jl,ju,sNx,dw,sGo,dg,kh,cj,dj,jc,fj,m7,lg,mOr,j5,mIf,mOp,mUn,bh,gk,aj,dz,aq,jd,fu,cg,hName,lq,gj,jw,ltT,leT,jz,jf,lu,jo,iw,jt,mj,j8,j7,bw,m8,rwT,clT,qw,uf,El,c0,v8,this]
    · by_cases c1:(A.length:Int)≤n
      · have:isA A n "rest" = false:=by
          unfold isA
          rw [List.getElem?_eq_none_iff.mpr (show A.length≤n.toNat by omega)]; simp
        unfold u6
        simp [ig,j9,sIf,ji,sNew,jl,ju,sNx,dw,sGo,dg,kh,cj,dj,jc,fj,m7,lg,mOr,j5,mIf,mOp,mUn,bh,gk,aj,dz,aq,jd,fu,cg,hName,lq,gj,jw,ltT,leT,jz,jf,lu,jo,iw,jt,mj,j8,j7,bw,m8,rwT,clT,qw,uf,El,c0,geT,c1,v8,this]
      · have hn:n.toNat<A.length:=by omega
        have hA:A[n.toNat]? = some (sA A n):=by
          unfold sA; rw [List.getD_eq_getElem?_getD,List.getElem?_eq_getElem hn]; rfl
        have ii:=item_at (by omega) hA
        have oa:=ok _ (List.mem_of_getElem? hA)
        have he:=Xh oa.1 G8
        have isa:isA A n "rest" = ((sA A n).k==("rest" : Str)):=by unfold isA; rw [hA,decide_eq_true (by omega)]; rfl
        cases hk:(sA A n).k==("rest" : Str) with
        | false =>
          rw [hk] at he isa
          unfold u6
          simp [ig,j9,sIf,ji,sNew,jl,ju,sNx,dw,sGo,dg,kh,cj,dj,jc,fj,m7,lg,mOr,j5,mIf,mOp,mUn,bh,gk,aj,dz,aq,jd,fu,cg,hName,lq,gj,jw,ltT,leT,jz,jf,lu,jo,iw,jt,mj,j8,j7,bw,m8,rwT,clT,qw,uf,El,c0,geT,c1,ii,atT,he,v8,isa]
        | true =>
          rw [hk] at he isa
          obtain ⟨f,hf⟩:=oa.2.2 hk
          have i2:gn (atT (sA A n)) (.int 2)=some (.int f):=by unfold atT; rw [hf]; exact Gu
          have i0:gn (atT (sA A n)) (.int 0)=some (.str (sA A n).k):=uf
          have i1:gn (atT (sA A n)) (.int 1)=some (smT (sA A n).s):=xg
          have ef:fac (sA A n)=f:=by unfold fac; rw [hf]
          have pa:=Ml (sto:=sto) (t:=t) u oa.2.1 ht
          have eg:(gv A [n,t]).1=(sA A n).s:=rfl
          rw [eg]
          by_cases hd:t * f%m=0
          · have e1:(t * f%m==0)=true:=by simpa using hd
            unfold u6
            simp [ig,j9,sIf,ji,sNew,jl,ju,sNx,dw,sGo,dg,kh,cj,dj,jc,fj,m7,lg,mOr,j5,mIf,mOp,mUn,bh,gk,aj,dz,aq,jd,fu,cg,hName,lq,gj,jw,ltT,leT,jz,jf,lu,jo,iw,jt,mj,j8,j7,bw,m8,rwT,clT,qw,Ac,uf,xg,El,c0,geT,c1,ii,i0,i1,i2,he,v8,isa,hz,ef,Dm,ht,hm0,e1,hd,pa,h0]
          · have e1:(t * f%m==0)=false:=by simpa using hd
            unfold u6
            simp [ig,j9,sIf,ji,sNew,jl,ju,sNx,dw,sGo,dg,kh,cj,dj,jc,fj,m7,lg,mOr,j5,mIf,mOp,mUn,bh,gk,aj,dz,aq,jd,fu,cg,hName,lq,gj,jw,ltT,leT,jz,jf,lu,jo,iw,jt,mj,j8,j7,bw,m8,rwT,clT,qw,Ac,uf,xg,El,c0,geT,c1,ii,i0,i1,i2,he,v8,isa,hz,ef,Dm,ht,hm0,e1,hd,h0]
noncomputable abbrev U0:S:=(sIf (mOr (fj (gk El (aj (bh 3) dz))) (mOr (fj (mOp ltT (bh 3) (aq (.int 0)))) (mOr (fj (mOp geT (bh 3) (gk jz (aj (bh 0) dz)))) (fj (mOp neO (mOp gn (mOp gn (bh 0) (bh 3)) (aq (.int 0))) (aq (.str "most")))))))
  (jl (aq .non))
  ju)
noncomputable def clA (A:List At):Cl→Bool
  | .i n=>isA A n "most"
  | .b _=>false
theorem T8 {c:Cl} {o1 o2:Slot} (ok:∀ a∈A,O1 U a):U0 ⟨[some (.lst (A.map atT),false),o1,o2,some (clT c,false)],sto⟩=some (if clA A c then .next else .ret .non,⟨[some (.lst (A.map atT),false),o1,o2,some (clT c,false)],sto⟩):=by
  cases c with
  | b k=>simp [ig,j9,sIf,ji,sNew,jl,ju,sNx,dw,sGo,dg,kh,cj,dj,jc,fj,m7,lg,mOr,j5,mIf,mOp,mUn,bh,gk,aj,dz,aq,jd,fu,cg,hName,lq,gj,jw,ltT,leT,jz,jf,lu,jo,iw,jt,mj,j8,j7,bw,m8,clT,El,clA]
  | i n =>
    unfold clA
    by_cases c0:n<0
    · have:isA A n "most" = false:=by unfold isA; rw [decide_eq_false (by omega)]; rfl
      simp [ig,j9,sIf,ji,sNew,jl,ju,sNx,dw,sGo,dg,kh,cj,dj,jc,fj,m7,lg,mOr,j5,mIf,mOp,mUn,bh,gk,aj,dz,aq,jd,fu,cg,hName,lq,gj,jw,ltT,leT,jz,jf,lu,jo,iw,jt,mj,j8,j7,bw,m8,clT,El,c0,this]
    · by_cases c1:(A.length:Int)≤n
      · have:isA A n "most" = false:=by
          unfold isA
          rw [List.getElem?_eq_none_iff.mpr (show A.length≤n.toNat by omega)]; simp
        simp [ig,j9,sIf,ji,sNew,jl,ju,sNx,dw,sGo,dg,kh,cj,dj,jc,fj,m7,lg,mOr,j5,mIf,mOp,mUn,bh,gk,aj,dz,aq,jd,fu,cg,hName,lq,gj,jw,ltT,leT,jz,jf,lu,jo,iw,jt,mj,j8,j7,bw,m8,clT,El,c0,geT,c1,this]
      · have hn:n.toNat<A.length:=by omega
        have hA:A[n.toNat]? = some (sA A n):=by
          unfold sA; rw [List.getD_eq_getElem?_getD,List.getElem?_eq_getElem hn]; rfl
        have ii:=item_at (by omega) hA
        have oa:=ok _ (List.mem_of_getElem? hA)
        have he:=Xh oa.1 G6
        have isa:isA A n "most" = ((sA A n).k==("most" : Str)):=by unfold isA; rw [hA,decide_eq_true (by omega)]; rfl
        cases hk:(sA A n).k==("most" : Str) with
        | false =>
          rw [hk] at he isa
          simp [ig,j9,sIf,ji,sNew,jl,ju,sNx,dw,sGo,dg,kh,cj,dj,jc,fj,m7,lg,mOr,j5,mIf,mOp,mUn,bh,gk,aj,dz,aq,jd,fu,cg,hName,lq,gj,jw,ltT,leT,jz,jf,lu,jo,iw,jt,mj,j8,j7,bw,m8,clT,El,c0,geT,c1,ii,atT,uf,he,isa]
        | true =>
          rw [hk] at he isa
          simp [ig,j9,sIf,ji,sNew,jl,ju,sNx,dw,sGo,dg,kh,cj,dj,jc,fj,m7,lg,mOr,j5,mIf,mOp,mUn,bh,gk,aj,dz,aq,jd,fu,cg,hName,lq,gj,jw,ltT,leT,jz,jf,lu,jo,iw,jt,mj,j8,j7,bw,m8,clT,El,c0,geT,c1,ii,atT,uf,he,isa]
theorem part3 {c e:Cl} {t:Int} (u:Uni U) (hU:U.Nodup) (ok:∀ a∈A,O1 U a) (ht:Ah t=true) (h0:t≠0) :
    u6 [.lst (A.map atT),.int m,rwT [c,e,.i t]] sto=some (if v8 U m A (pr [c,e,.i t]) then smT (part U (gv A (pr [c,e,.i t])).1 t) else .non,sto):=by
  have hz:(t != 0)=true:=by simpa using h0
  have sl:qb (bh 2) wg (ur (aq (.int 2))) ⟨[some (.lst (A.map atT),false),some (.int m,false),some (rwT [c,e,.i t],false),none],sto⟩=some (.tup [clT c,clT e],⟨[some (.lst (A.map atT),false),some (.int m,false),some (rwT [c,e,.i t],false),none],sto⟩):=rfl
  have it:jw (qb (bh 2) wg (ur (aq (.int 2)))) ⟨[some (.lst (A.map atT),false),some (.int m,false),some (rwT [c,e,.i t],false),none],sto⟩=some ([clT c,clT e],⟨[some (.lst (A.map atT),false),some (.int m,false),some (rwT [c,e,.i t],false),none],sto⟩):=by
    unfold jw; rw [sl]; rfl
  have p1:=fun (o1 o2:Slot)=>T8 (sto:=sto) (c:=c) (o1:=o1) (o2:=o2) ok
  have p2:=fun (o1 o2:Slot)=>T8 (sto:=sto) (c:=e) (o1:=o1) (o2:=o2) ok
  have fst:∀ rest:S,j9 (sIf (fj (mOp eqO (gk jz (aj (bh 2) dz)) (aq (.int 2)))) (j9 (sIf (mOr (fj (gk El (aj (mOp gn (bh 2) (aq (.int 0))) dz))) (mOr (fj (mOp ltT (mOp gn (bh 2) (aq (.int 0))) (aq (.int 0)))) (mOr (fj (mOp geT (mOp gn (bh 2) (aq (.int 0))) (gk jz (aj (bh 0) dz)))) (fj (mOp neO (mOp gn (mOp gn (bh 0) (mOp gn (bh 2) (aq (.int 0)))) (aq (.int 0))) (aq (.str "rest")))))))
  (jl (aq .non))
  ju)
  (j9 (sIf (fj (mOp neO (mOp jo (mOp Dm (mOp gn (bh 2) (aq (.int 1))) (mOp gn (mOp gn (bh 0) (mOp gn (bh 2) (aq (.int 0)))) (aq (.int 2)))) (bh 1)) (aq (.int 0))))
  (jl (aq .non))
  ju)
  (jl (fu jm (aj (gk (fun l=>some (.tup l)) (aj (aq (.int 0)) (aj (gk (fun l=>some (.tup l)) dz) dz))) (aj (mOp gn (mOp gn (bh 0) (mOp gn (bh 2) (aq (.int 0)))) (aq (.int 1))) (aj (mOp gn (bh 2) (aq (.int 1))) dz)))))))
  ju) rest ⟨[some (.lst (A.map atT),false),some (.int m,false),some (rwT [c,e,.i t],false),none],sto⟩=rest ⟨[some (.lst (A.map atT),false),some (.int m,false),some (rwT [c,e,.i t],false),none],sto⟩:=fun rest=>j4 rfl
  unfold u6 ig
  rw [show ([T.lst (A.map atT),.int m,rwT [c,e,.i t]].map (fun t=>some (t,false))++List.replicate (4 - [T.lst (A.map atT),.int m,rwT [c,e,.i t]].length) none:List Slot)=[some (.lst (A.map atT),false),some (.int m,false),some (rwT [c,e,.i t],false),none] from rfl]
  rw [fst]
  cases h1:clA A c with
  | false =>
    have ro:v8 U m A (pr [c,e,.i t])=false:=by
      cases c with
      | b k=>rfl
      | i n =>
        cases e with
        | b k=>rfl
        | i o=>show (isA A n "most" && _)=false; simp only [clA] at h1; rw [h1]; rfl
    rw [ro]
    rw [h1] at p1
    have lo:kh (hName 3) (jw (qb (bh 2) wg (ur (aq (.int 2))))) U0 ⟨[some (.lst (A.map atT),false),some (.int m,false),some (rwT [c,e,.i t],false),none],sto⟩=some (.ret .non,⟨[some (.lst (A.map atT),false),some (.int m,false),some (rwT [c,e,.i t],false),some (clT c,false)],sto⟩):=by
      unfold kh
      rw [it]
      dsimp only
      rw [forL]
      dsimp only [hName,cg,List.set_cons_succ,List.set_cons_zero]
      rw [p1]
      rfl
    rw [K8 lo]
    rfl
  | true =>
    rw [h1] at p1
    cases h2:clA A e with
    | false =>
      have ro:v8 U m A (pr [c,e,.i t])=false:=by
        cases c with
        | b k=>rfl
        | i n =>
          cases e with
          | b k=>rfl
          | i o=>show (isA A n "most" && (isA A o "most" && _))=false; simp only [clA] at h1 h2; rw [h1,h2]; rfl
      rw [ro]
      rw [h2] at p2
      have lo:kh (hName 3) (jw (qb (bh 2) wg (ur (aq (.int 2))))) U0 ⟨[some (.lst (A.map atT),false),some (.int m,false),some (rwT [c,e,.i t],false),none],sto⟩=some (.ret .non,⟨[some (.lst (A.map atT),false),some (.int m,false),some (rwT [c,e,.i t],false),some (clT e,false)],sto⟩):=by
        unfold kh
        rw [it]
        dsimp only
        rw [forL]
        dsimp only [hName,cg,List.set_cons_succ,List.set_cons_zero]
        rw [p1]
        simp only [if_true]
        rw [forL]
        dsimp only [hName,cg,List.set_cons_succ,List.set_cons_zero]
        rw [p2]
        rfl
      rw [K8 lo]
      rfl
    | true =>
      rw [h2] at p2
      have lo:kh (hName 3) (jw (qb (bh 2) wg (ur (aq (.int 2))))) U0 ⟨[some (.lst (A.map atT),false),some (.int m,false),some (rwT [c,e,.i t],false),none],sto⟩=some (.next,⟨[some (.lst (A.map atT),false),some (.int m,false),some (rwT [c,e,.i t],false),some (clT e,false)],sto⟩):=by
        unfold kh
        rw [it]
        dsimp only
        rw [forL]
        dsimp only [hName,cg,List.set_cons_succ,List.set_cons_zero]
        rw [p1]
        simp only [if_true]
        rw [forL]
        dsimp only [hName,cg,List.set_cons_succ,List.set_cons_zero]
        rw [p2]
        rfl
      rw [j4 lo]
      cases c with
      | b k=>cases h1
      | i n =>
        cases e with
        | b k=>cases h2
        | i o =>
          simp only [clA] at h1 h2
          obtain ⟨n0,n1,n2⟩:=Dw h1
          obtain ⟨o0,o1,o2⟩:=Dw h2
          have on:=ok _ (List.mem_of_getElem? n1)
          have oo:=ok _ (List.mem_of_getElem? o1)
          have in_:=item_at n0 n1
          have io_:=item_at o0 o1
          have a1:gn (atT (sA A n)) (.int 1)=some (smT (sA A n).s):=xg
          have a2:gn (atT (sA A o)) (.int 1)=some (smT (sA A o).s):=xg
          have lp:=Fv (sto:=sto) (t:=1) u on.2.1 oo.2.1 (by decide)
          have ez:=ne_zero (s:=((sA A n).s.1+(sA A o).s.1 * 1,canon U fun b=>gt (sA A n).s.2 b+gt (sA A o).s.2 b * 1)) u (Ae (n:=0) hU).sub
          have eqz:(((sA A n).s.1+(sA A o).s.1 * 1==0)&&(canon U fun b=>gt (sA A n).s.2 b+gt (sA A o).s.2 b * 1).isEmpty)=zr U (sA A n).s (sA A o).s:=by unfold zr; simp only [Int.mul_one]
          dsimp only at ez
          rw [eqz] at ez
          simp only [Int.mul_one] at lp ez
          have pa:=Ml (sto:=sto) (t:=t) u on.2.1 ht
          have ro:v8 U m A (pr [.i n,.i o,.i t])=zr U (sA A n).s (sA A o).s:=by
            show (isA A n "most" && (isA A o "most" && (zr U (sA A n).s (sA A o).s&&(t != 0))))=_
            rw [h1,h2,hz]; simp
          have eg:(gv A (pr [.i n,.i o,.i t])).1=(sA A n).s:=rfl
          rw [ro,eg]
          cases hq:zr U (sA A n).s (sA A o).s with
          | true =>
            rw [hq] at ez
            simp [ig,j9,sIf,ji,sNew,jl,ju,sNx,dw,sGo,dg,kh,cj,dj,jc,fj,m7,lg,mOr,j5,mIf,mOp,mUn,bh,gk,aj,dz,aq,jd,fu,cg,hName,lq,gj,jw,ltT,leT,jz,jf,lu,jo,iw,jt,mj,j8,j7,bw,m8,rwT,clT,uf,xg,Gu,in_,io_,a1,a2,lp,ez,pa]
          | false =>
            rw [hq] at ez
            simp [ig,j9,sIf,ji,sNew,jl,ju,sNx,dw,sGo,dg,kh,cj,dj,jc,fj,m7,lg,mOr,j5,mIf,mOp,mUn,bh,gk,aj,dz,aq,jd,fu,cg,hName,lq,gj,jw,ltT,leT,jz,jf,lu,jo,iw,jt,mj,j8,j7,bw,m8,rwT,clT,uf,xg,Gu,in_,io_,a1,a2,lp,ez,pa]
end
end K
end
noncomputable section
set_option linter.all false
set_option maxRecDepth 100000
set_option autoImplicit false
namespace K
open C PySem
noncomputable section
variable {U:List Str} {sto:List SO} {A:List At} {m:Int}
theorem Xf {v:Int}:inT (.int v) (.tup [.int 2,.int 3])=some (.bl (v==2||v==3)):=by
  have e4:((2:Int)==v)=(v==2):=by rw [Bool.eq_iff_iff,beq_iff_eq,beq_iff_eq]; exact eq_comm
  have e5:((3:Int)==v)=(v==3):=by rw [Bool.eq_iff_iff,beq_iff_eq,beq_iff_eq]; exact eq_comm
  simp [inT,inL,eqD,dat,PyData.depth,PyData.eqv,e4,e5]
theorem a1g {s:Sm}:a0r (smT s) .non=some (.bl false):=rfl
theorem Dy:a0r .non .non=some (.bl true):=rfl
noncomputable abbrev a0m:S:=(j9 (ji 5 (aq .non))
  (j9 (sIf (lg (fj (mOp inT (gk jz (aj (bh 4) dz)) (gk (fun l=>some (.tup l)) (aj (aq (.int 2)) (aj (aq (.int 3)) dz))))) (lg (m7 (fj (gk El (aj (mOp gn (bh 4) (mUn jt (aq (.int 1)))) dz)))) (fj (mOp neO (mOp gn (bh 4) (mUn jt (aq (.int 1)))) (aq (.int 0))))))
  (ji 5 (fu u6 (aj (bh 0) (aj (bh 1) (aj (bh 4) dz)))))
  ju)
  (j9 (sIf (fj (mOp a0r (bh 5) (aq .non)))
  (jl (aq (.bl false)))
  ju)
  (ji 3 (fu jm (aj (bh 3) (aj (bh 5) (aj (aq (.int 1)) dz))))))))
theorem l2 {c d:T}:gn (.tup [c,d]) (.int (-1))=some d:=rfl
theorem l3 {c d e:T}:gn (.tup [c,d,e]) (.int (-1))=some e:=rfl
theorem a4x {R:T} {t:Sm} {r:Rw} {o5:Slot} (hm:2≤m) (u:Uni U) (hU:U.Nodup) (ok:∀ a∈A,O1 U a) (h:v8 U m A (pr r)=false) (hb:∀ c∈r,okC c) :
    a0m ⟨[some (.lst (A.map atT),false),some (.int m,false),some (R,false),some (smT t,false),some (rwT r,false),o5],sto⟩=some (.ret (.bl false),⟨[some (.lst (A.map atT),false),some (.int m,false),some (R,false),some (smT t,false),some (rwT r,false),some (.non,false)],sto⟩):=by
  match r,h,hb with
  | [],_,_=>simp [ig,j9,sIf,ji,sNew,jl,ju,sNx,dw,sGo,dg,kh,cj,dj,jc,fj,m7,lg,mOr,j5,mIf,mOp,mUn,bh,gk,aj,dz,aq,jd,fu,cg,hName,lq,gj,jw,ltT,leT,jz,jf,lu,jo,iw,jt,mj,j8,j7,bw,m8,rwT,Xf,Dy]
  | [c],_,_=>simp [ig,j9,sIf,ji,sNew,jl,ju,sNx,dw,sGo,dg,kh,cj,dj,jc,fj,m7,lg,mOr,j5,mIf,mOp,mUn,bh,gk,aj,dz,aq,jd,fu,cg,hName,lq,gj,jw,ltT,leT,jz,jf,lu,jo,iw,jt,mj,j8,j7,bw,m8,rwT,Xf,Dy]
  | [c,.b k],_,_=>simp [ig,j9,sIf,ji,sNew,jl,ju,sNx,dw,sGo,dg,kh,cj,dj,jc,fj,m7,lg,mOr,j5,mIf,mOp,mUn,bh,gk,aj,dz,aq,jd,fu,cg,hName,lq,gj,jw,ltT,leT,jz,jf,lu,jo,iw,jt,mj,j8,j7,bw,m8,rwT,l2,clT,Xf,El,Dy]
  | [c,.i v],h,hb =>
    by_cases hv:v=0
    · subst hv
      simp [ig,j9,sIf,ji,sNew,jl,ju,sNx,dw,sGo,dg,kh,cj,dj,jc,fj,m7,lg,mOr,j5,mIf,mOp,mUn,bh,gk,aj,dz,aq,jd,fu,cg,hName,lq,gj,jw,ltT,leT,jz,jf,lu,jo,iw,jt,mj,j8,j7,bw,m8,rwT,l2,clT,Xf,El,Ac,Dy]
    · have hv':(v==0)=false:=by simpa using hv
      have p:=part2 (sto:=sto) (c:=c) (t:=v) hm u hU ok (hb (.i v) (by simp)) hv
      rw [h] at p
      simp only [rwT,List.map_cons,List.map_nil,clT] at p
      simp [ig,j9,sIf,ji,sNew,jl,ju,sNx,dw,sGo,dg,kh,cj,dj,jc,fj,m7,lg,mOr,j5,mIf,mOp,mUn,bh,gk,aj,dz,aq,jd,fu,cg,hName,lq,gj,jw,ltT,leT,jz,jf,lu,jo,iw,jt,mj,j8,j7,bw,m8,rwT,l2,clT,Xf,El,Ac,hv',p,Dy]
  | [c,e,.b k],_,_=>simp [ig,j9,sIf,ji,sNew,jl,ju,sNx,dw,sGo,dg,kh,cj,dj,jc,fj,m7,lg,mOr,j5,mIf,mOp,mUn,bh,gk,aj,dz,aq,jd,fu,cg,hName,lq,gj,jw,ltT,leT,jz,jf,lu,jo,iw,jt,mj,j8,j7,bw,m8,rwT,l3,clT,Xf,El,Dy]
  | [c,e,.i v],h,hb =>
    by_cases hv:v=0
    · subst hv
      simp [ig,j9,sIf,ji,sNew,jl,ju,sNx,dw,sGo,dg,kh,cj,dj,jc,fj,m7,lg,mOr,j5,mIf,mOp,mUn,bh,gk,aj,dz,aq,jd,fu,cg,hName,lq,gj,jw,ltT,leT,jz,jf,lu,jo,iw,jt,mj,j8,j7,bw,m8,rwT,l3,clT,Xf,El,Ac,Dy]
    · have hv':(v==0)=false:=by simpa using hv
      have p:=part3 (sto:=sto) (m:=m) (c:=c) (e:=e) (t:=v) u hU ok (hb (.i v) (by simp)) hv
      rw [h] at p
      simp only [rwT,List.map_cons,List.map_nil,clT] at p
      simp [ig,j9,sIf,ji,sNew,jl,ju,sNx,dw,sGo,dg,kh,cj,dj,jc,fj,m7,lg,mOr,j5,mIf,mOp,mUn,bh,gk,aj,dz,aq,jd,fu,cg,hName,lq,gj,jw,ltT,leT,jz,jf,lu,jo,iw,jt,mj,j8,j7,bw,m8,rwT,l3,clT,Xf,El,Ac,hv',p,Dy]
  | a::b::c::d::r,_,_ =>
    have h3:(((r.length:Int)+1+1+1+1)==3)=false:=beq_eq_false_iff_ne.mpr (by omega)
    have h2:(((r.length:Int)+1+1+1+1)==2)=false:=beq_eq_false_iff_ne.mpr (by omega)
    simp [ig,j9,sIf,ji,sNew,jl,ju,sNx,dw,sGo,dg,kh,cj,dj,jc,fj,m7,lg,mOr,j5,mIf,mOp,mUn,bh,gk,aj,dz,aq,jd,fu,cg,hName,lq,gj,jw,ltT,leT,jz,jf,lu,jo,iw,jt,mj,j8,j7,bw,m8,rwT,Xf,h3,h2,Dy]
theorem grown {gs:List (Sm × Int)} {s:Sm} {t:Int} (u:Uni U) (hU:U.Nodup) (hs:Ig U s):jm [smT (cN gs,canon U (cF gs)),smT (part U s t),.int 1] sto=some (smT (cN (gs++[(s,t)]),canon U (cF (gs++[(s,t)]))),sto):=by
  have lp:=Fv (sto:=sto) (s1:=(cN gs,canon U (cF gs))) (s2:=part U s t) (t:=1) u (Ae hU) (Ae hU) (by decide)
  have e1:cN gs+(part U s t).1 * 1=cN (gs++[(s,t)]):=by
    unfold cN part; rw [List.map_append,List.sum_append]; simp [Int.mul_comm]
  have e2:canon U (fun b=>gt (canon U (cF gs)) b+gt (part U s t).2 b * 1)=canon U (cF (gs++[(s,t)])):=G7 fun b hb=>by
    unfold part
    rw [Sw hU hb,Sw hU hb]; unfold cF; rw [List.map_append,List.sum_append]; simp [gt,Int.mul_comm]
  dsimp only at lp
  rw [e1,e2] at lp
  exact lp
theorem Zc {r:Rw} (h:v8 U m A (pr r)=true):(∃ c v,r=[c,.i v]∧v≠0∧gv A (pr r)=((gv A (pr r)).1,v))∨(∃ c e v,r=[c,e,.i v]∧v≠0∧gv A (pr r)=((gv A (pr r)).1,v)):=by
  match r,h with
  | [.i n,.i v],h =>
    obtain ⟨_,t,R⟩:=Ng h
    have:t=v:=by have:=R.lst; rw [show gn (ilT (pr [.i n,.i v])) (.int (-1))=some (.int v) from rfl] at this; cases this; rfl
    subst this
    exact .inl ⟨_,_,rfl,R.nz,rfl⟩
  | [.i n,.i o,.i v],h =>
    obtain ⟨_,t,R⟩:=Ng h
    have:t=v:=by have:=R.lst; rw [show gn (ilT (pr [.i n,.i o,.i v])) (.int (-1))=some (.int v) from rfl] at this; cases this; rfl
    subst this
    exact .inr ⟨_,_,_,rfl,R.nz,rfl⟩
  | [.b _,_],h=>cases h
  | [.i _,.b _],h=>cases h
  | [.b _,_,_],h=>cases h
  | [.i _,.b _,_],h=>cases h
  | [.i _,.i _,.b _],h=>cases h
  | [],h=>cases h
  | [.i _],h=>cases h
  | [.b _],h=>cases h
  | a::b::c::d::r,h =>
    unfold pr at h
    split at h
    · cases h
    · cases h
theorem a0a {R:T} {gs:List (Sm × Int)} {r:Rw} {o5:Slot} (hm:2≤m) (u:Uni U) (hU:U.Nodup) (ok:∀ a∈A,O1 U a) (h:v8 U m A (pr r)=true) (hb:∀ c∈r,okC c) :
    ∃ p,a0m ⟨[some (.lst (A.map atT),false),some (.int m,false),some (R,false),some (smT (cN gs,canon U (cF gs)),false),some (rwT r,false),o5],sto⟩=some (.next,⟨[some (.lst (A.map atT),false),some (.int m,false),some (R,false),some (smT (cN (gs++[gv A (pr r)]),canon U (cF (gs++[gv A (pr r)]))),false),some (rwT r,false),p],sto⟩):=by
  obtain ⟨n,t,RA⟩:=Ng h
  have sok:Ig U (gv A (pr r)).1:=by rw [RA.gv]; exact (ok _ (List.mem_of_getElem? RA.at')).2.1
  rcases Zc h with ⟨c,v,rfl,hv,eg⟩ | ⟨c,e,v,rfl,hv,eg⟩
  · have hv':(v==0)=false:=by simpa using hv
    have p:=part2 (sto:=sto) (c:=c) (t:=v) hm u hU ok (hb (.i v) (by simp)) hv
    rw [h] at p
    simp only [rwT,List.map_cons,List.map_nil,clT] at p
    have gr:=grown (sto:=sto) (gs:=gs) (t:=v) u hU sok
    rw [← eg] at gr
    refine ⟨some (smT (part U (gv A (pr [c,.i v])).1 v),false),?_⟩
    · simp [ig,j9,sIf,ji,sNew,jl,ju,sNx,dw,sGo,dg,kh,cj,dj,jc,fj,m7,lg,mOr,j5,mIf,mOp,mUn,bh,gk,aj,dz,aq,jd,fu,cg,hName,lq,gj,jw,ltT,leT,jz,jf,lu,jo,iw,jt,mj,j8,j7,bw,m8,rwT,l2,clT,Xf,El,Ac,hv',p,a1g,gr]
  · have hv':(v==0)=false:=by simpa using hv
    have p:=part3 (sto:=sto) (m:=m) (c:=c) (e:=e) (t:=v) u hU ok (hb (.i v) (by simp)) hv
    rw [h] at p
    simp only [rwT,List.map_cons,List.map_nil,clT] at p
    have gr:=grown (sto:=sto) (gs:=gs) (t:=v) u hU sok
    rw [← eg] at gr
    refine ⟨some (smT (part U (gv A (pr [c,e,.i v])).1 v),false),?_⟩
    · simp [ig,j9,sIf,ji,sNew,jl,ju,sNx,dw,sGo,dg,kh,cj,dj,jc,fj,m7,lg,mOr,j5,mIf,mOp,mUn,bh,gk,aj,dz,aq,jd,fu,cg,hName,lq,gj,jw,ltT,leT,jz,jf,lu,jo,iw,jt,mj,j8,j7,bw,m8,rwT,l3,clT,Xf,El,Ac,hv',p,a1g,gr]
theorem Nt {R:T} (hm:2≤m) (u:Uni U) (hU:U.Nodup) (ok:∀ a∈A,O1 U a):∀ (l done:List Rw) (o4 o5:Slot),(∀ r∈l,∀ c∈r,okC c) →
    ∃ fl s',forL (hName 4) a0m (l.map rwT) ⟨[some (.lst (A.map atT),false),some (.int m,false),some (R,false),some (smT (cN ((done.map pr).map (gv A)),canon U (cF ((done.map pr).map (gv A)))),false),o4,o5],sto⟩=some (fl,s') ∧
      ((l.map pr).all (v8 U m A)=true→fl=.next∧∃ o p,s'=⟨[some (.lst (A.map atT),false),some (.int m,false),some (R,false),some (smT (cN (((done++l).map pr).map (gv A)),canon U (cF (((done++l).map pr).map (gv A)))),false),o,p],sto⟩) ∧
      ((l.map pr).all (v8 U m A)=false→fl=.ret (.bl false)∧s'.sto=sto)
  | [],done,o4,o5,_=>⟨.next,_,rfl,fun _=>⟨rfl,o4,o5,by rw [List.append_nil]⟩,fun h=>by cases h⟩
  | r::l,done,o4,o5,hb=>by
    have hr:=hb r List.mem_cons_self
    cases hg:v8 U m A (pr r) with
    | false =>
      refine ⟨.ret (.bl false),⟨[some (.lst (A.map atT),false),some (.int m,false),some (R,false),some (smT (cN ((done.map pr).map (gv A)),canon U (cF ((done.map pr).map (gv A)))),false),some (rwT r,false),some (.non,false)],sto⟩,?_,fun h=>?_,fun _=>⟨rfl,rfl⟩⟩
      · rw [List.map_cons,forL]
        simp only [hName,cg,List.set_cons_succ,List.set_cons_zero]
        rw [a4x hm u hU ok hg hr]
      · simp [hg] at h
    | true =>
      obtain ⟨p,ey⟩:=a0a (R:=R) (gs:=(done.map pr).map (gv A)) (o5:=o5) (sto:=sto) hm u hU ok hg hr
      have eg:((done++[r]).map pr).map (gv A)=(done.map pr).map (gv A)++[gv A (pr r)]:=by simp
      obtain ⟨fl,s',e,h1,h2⟩:=Nt (R:=R) hm u hU ok l (done++[r]) (some (rwT r,false)) p fun x hx=>hb x (List.mem_cons_of_mem _ hx)
      refine ⟨fl,s',?_,fun h=>?_,fun h=>h2 ?_⟩
      · rw [List.map_cons,forL]
        simp only [hName,cg,List.set_cons_succ,List.set_cons_zero]
        rw [ey,← eg]
        exact e
      · have:=h1 (by simpa [hg] using h)
        rw [List.append_assoc] at this -- here
        exact this
      · simpa [hg] using h
theorem a5t {co:M T} {st:Sta} {l:List Pr} {q:Pr→Bool} {b:Bool} (h:co st=some (.lst ((l.filter q).map fun _=>T.int 1),st)) (hb:(((l.filter q).length:Int)==0)=b) :
    fj (mOp eqO (gk jz (aj co dz)) (aq (.int 0))) st=some (b,st):=by
  unfold fj mOp gk aj dz aq
  rw [h]
  simp only [jz,List.length_map,qw,hb]
theorem Z8 {s:Sm} {o0 o2 o4 o5:Slot} (hm:0<m) (hl:s.2.length≤100) :
    j5 (lg (fj (mOp neO (mOp jo (mOp gn (bh 3) (aq (.int 0))) (bh 1)) (aq (.int 0)))) (fj (mOp eqO (gk jz (aj (uw 2 [1] (lq [0,1]) (jw (mOp gn (bh 3) (aq (.int 1)))) (fj (mOp neO (mOp jo (bh 1) (bh 2)) (aq (.int 0)))) (aq (.int 1))) dz)) (aq (.int 0))))) ⟨[o0,some (.int m,false),o2,some (smT s,false),o4,o5],sto⟩=some (.bl (a2f m s),⟨[o0,some (.int m,false),o2,some (smT s,false),o4,o5],sto⟩):=by
  have l1:s.2.length<lim:=by show _<1000000; omega
  have i0:gn (smT s) (.int 0)=some (.int s.1):=uf
  have co:uw 2 [1] (lq [0,1]) (jw (mOp gn (bh 3) (aq (.int 1)))) (fj (mOp neO (mOp jo (bh 1) (bh 2)) (aq (.int 0)))) (aq (.int 1)) ⟨[o0,some (.int m,false),o2,some (smT s,false),o4,o5],sto⟩=some (.lst ((s.2.filter fun p=>!(p.2%m==0)).map fun _=>T.int 1),⟨[o0,some (.int m,false),o2,some (smT s,false),o4,o5],sto⟩):=by
    generalize hF:uw 2 _ _ _ _ _ _=q
    exact Je hF pT (fun _=>T.int 1) (fun p=>!(p.2%m==0)) s.2 ⟨[o0,some (.int m,false),o2,some (smT s,false),o4,o5],sto⟩ [o0,some (.int m,false),o2,some (smT s,false),o4,o5] [some (.int m,false)] (by unfold smT; simp [ig,j9,sIf,ji,sNew,jl,ju,sNx,dw,sGo,dg,kh,cj,dj,jc,fj,m7,lg,mOr,j5,mIf,mOp,mUn,bh,gk,aj,dz,aq,jd,fu,cg,hName,lq,gj,jw,ltT,leT,jz,jf,lu,jo,iw,jt,mj,j8,j7,bw,m8,xg,l1]) rfl rfl rfl (Nat.le_of_lt l1) (fun p hp pre hq=>by
      match pre,hq with
      | [p0,p1],_=>exact ⟨[some (.str p.1,false),some (.int p.2,false)],rfl,by first | exact rfl | simp [ig,j9,sIf,ji,sNew,jl,ju,sNx,dw,sGo,dg,kh,cj,dj,jc,fj,m7,lg,mOr,j5,mIf,mOp,mUn,bh,gk,aj,dz,aq,jd,fu,cg,hName,lq,gj,jw,ltT,leT,jz,jf,lu,jo,iw,jt,mj,j8,j7,bw,m8,pT],by simp [ig,j9,sIf,ji,sNew,jl,ju,sNx,dw,sGo,dg,kh,cj,dj,jc,fj,m7,lg,mOr,j5,mIf,mOp,mUn,bh,gk,aj,dz,aq,jd,fu,cg,hName,lq,gj,jw,ltT,leT,jz,jf,lu,jo,iw,jt,mj,j8,j7,bw,m8,hm,Ac],fun _=>rfl⟩)
  have fl:(((s.2.filter fun p=>!(p.2%m==0)).length:Int)==0)=s.2.all fun p=>p.2%m==0:=by
    generalize s.2=l
    induction l with
    | nil=>rfl
    | cons p l ih =>
      rw [List.all_cons,← ih]
      cases h:p.2%m==0
      · simp only [List.filter_cons,h,Bool.not_false,if_true,List.length_cons,Bool.false_and,beq_eq_false_iff_ne]; omega
      · simp [List.filter_cons,h]
  have pt:=a5t co fl
  unfold a2f
  generalize hM:fj (mOp eqO (gk jz (aj (uw 2 _ _ _ _ _) dz)) (aq (.int 0)))=MM at pt ⊢
  by_cases hz:s.1%m=0
  · have e1:(s.1%m==0)=true:=by simpa using hz
    simp [ig,j9,sIf,ji,sNew,jl,ju,sNx,dw,sGo,dg,kh,cj,dj,jc,fj,m7,lg,mOr,j5,mIf,mOp,mUn,bh,gk,aj,dz,aq,jd,fu,cg,hName,lq,gj,jw,ltT,leT,jz,jf,lu,jo,iw,jt,mj,j8,j7,bw,m8,i0,hm,Ac,e1,hz]
  · have e1:(s.1%m==0)=false:=by simpa using hz
    have e2:(s.1%m != 0)=true:=by simpa using hz
    simp [ig,j9,sIf,ji,sNew,jl,ju,sNx,dw,sGo,dg,kh,cj,dj,jc,fj,m7,lg,mOr,j5,mIf,mOp,mUn,bh,gk,aj,dz,aq,jd,fu,cg,hName,lq,gj,jw,ltT,leT,jz,jf,lu,jo,iw,jt,mj,j8,j7,bw,m8,i0,hm,Ac,e1,e2,pt]
theorem says {c:Cl} {rs:List Rw} (u:Uni U) (hU:U.Nodup) (ok:∀ a∈A,O1 U a) (hb:∀ r∈rs,∀ c∈r,okC c) (hl:rs.length≤100) :
    za [.lst (A.map atT),clT c,.lst (rs.map rwT)] sto=some (.bl (restV U A c (rs.map pr)),sto):=by
  cases c with
  | b k=>unfold za restV; simp [ig,j9,sIf,ji,sNew,jl,ju,sNx,dw,sGo,dg,kh,cj,dj,jc,fj,m7,lg,mOr,j5,mIf,mOp,mUn,bh,gk,aj,dz,aq,jd,fu,cg,hName,lq,gj,jw,ltT,leT,jz,jf,lu,jo,iw,jt,mj,j8,j7,bw,m8,clT,El]
  | i m =>
    unfold restV
    by_cases hm:m<2
    · have:decide (2≤m)=false:=by simp; omega
      unfold za
      simp [ig,j9,sIf,ji,sNew,jl,ju,sNx,dw,sGo,dg,kh,cj,dj,jc,fj,m7,lg,mOr,j5,mIf,mOp,mUn,bh,gk,aj,dz,aq,jd,fu,cg,hName,lq,gj,jw,ltT,leT,jz,jf,lu,jo,iw,jt,mj,j8,j7,bw,m8,clT,El,hm,Bg,this]
    · have hm2:2≤m:=by omega
      have hd:decide (2≤m)=true:=by simp; omega
      have l1:rs.length<lim:=by show _<1000000; omega
      obtain ⟨fl,s',e,h1,h2⟩:=Nt (sto:=sto) (R:=.lst (rs.map rwT)) hm2 u hU ok rs [] none none hb
      have z:smT (cN ([]:List (Sm × Int)),canon U (cF []))=.tup [.int 0,.tup []]:=by
        have:canon U (cF [])=[]:=by unfold canon cF; simp
        rw [this]; rfl
      rw [show (([]:List Rw).map pr).map (gv A)=[] from rfl,z] at e
      show za [.lst (A.map atT),.int m,.lst (rs.map rwT)] sto=_
      unfold za ig
      rw [show ([T.lst (A.map atT),.int m,T.lst (rs.map rwT)].map (fun t=>some (t,false))++List.replicate (6 - [T.lst (A.map atT),.int m,T.lst (rs.map rwT)].length) none:List Slot)=[some (.lst (A.map atT),false),some (.int m,false),some (.lst (rs.map rwT),false),none,none,none] from rfl]
      rw [j4 (s':=⟨[some (.lst (A.map atT),false),some (.int m,false),some (.lst (rs.map rwT),false),none,none,none],sto⟩) (by simp [ig,j9,sIf,ji,sNew,jl,ju,sNx,dw,sGo,dg,kh,cj,dj,jc,fj,m7,lg,mOr,j5,mIf,mOp,mUn,bh,gk,aj,dz,aq,jd,fu,cg,hName,lq,gj,jw,ltT,leT,jz,jf,lu,jo,iw,jt,mj,j8,j7,bw,m8,El,hm])]
      rw [j4 (s':=⟨[some (.lst (A.map atT),false),some (.int m,false),some (.lst (rs.map rwT),false),some (.tup [.int 0,.tup []],false),none,none],sto⟩) (by first | exact rfl | simp [ig,j9,sIf,ji,sNew,jl,ju,sNx,dw,sGo,dg,kh,cj,dj,jc,fj,m7,lg,mOr,j5,mIf,mOp,mUn,bh,gk,aj,dz,aq,jd,fu,cg,hName,lq,gj,jw,ltT,leT,jz,jf,lu,jo,iw,jt,mj,j8,j7,bw,m8])]
      have ef:kh (hName 4) (jw (bh 2)) a0m ⟨[some (.lst (A.map atT),false),some (.int m,false),some (.lst (rs.map rwT),false),some (.tup [.int 0,.tup []],false),none,none],sto⟩=some (fl,s'):=by
        rw [← e]
        have it:jw (bh 2) ⟨[some (.lst (A.map atT),false),some (.int m,false),some (.lst (rs.map rwT),false),some (.tup [.int 0,.tup []],false),none,none],sto⟩=some (rs.map rwT,⟨[some (.lst (A.map atT),false),some (.int m,false),some (.lst (rs.map rwT),false),some (.tup [.int 0,.tup []],false),none,none],sto⟩):=by simp [ig,j9,sIf,ji,sNew,jl,ju,sNx,dw,sGo,dg,kh,cj,dj,jc,fj,m7,lg,mOr,j5,mIf,mOp,mUn,bh,gk,aj,dz,aq,jd,fu,cg,hName,lq,gj,jw,ltT,leT,jz,jf,lu,jo,iw,jt,mj,j8,j7,bw,m8,l1]
        unfold kh
        rw [it]
      cases ha:(rs.map pr).all (v8 U m A) with
      | true =>
        obtain ⟨rfl,o,p,rfl⟩:=h1 ha
        rw [j4 ef]
        simp only [jl]
        rw [List.nil_append,Z8 (s:=(cN ((rs.map pr).map (gv A)),canon U (cF ((rs.map pr).map (gv A))))) (by omega) (by
          have:=Gw u (Ae (n:=0) (f:=cF ((rs.map pr).map (gv A))) hU)
          dsimp only at this ⊢
          omega)]
        simp only [Bg,hd,ha,Bool.true_and]
      | false =>
        obtain ⟨rfl,hs⟩:=h2 ha
        rw [K8 ef]
        simp only [Bg,hd,ha,Bool.true_and,Bool.false_and,hs]
theorem asked {c:Cl} {rs:List Rw} {bs:List Bd} {A2:List At} (u:Uni U) (hU:U.Nodup) (o:a04 U bs A2) (hb:∀ r∈rs,∀ c∈r,okC c) (hl:rs.length≤100) (h2:∀ r∈rs,r.length≤100) :
    ou [.lst (bs.map bdT),.lst (A2.map atT),.lst ((bounds bs).map atT),clT c,.lst (rs.map rwT)] sto=some (.bl true,sto):=by
  have hb':∀ x∈rs.map (fun r=>(rwT r,pr r)),∀ n∈x.2,Ah n=true:=fun x hx n hn=>by
    obtain ⟨r,hr,rfl⟩:=List.mem_map.mp hx
    dsimp only at hn
    unfold pr at hn
    split at hn
    · obtain ⟨d,hd,rfl⟩:=List.mem_map.mp hn
      have:=hb r hr d hd
      cases d with
      | i n=>exact this
      | b k=>show Ah 0=true; decide
    · cases hn
  have lb:=Io (sto:=sto) (c:=c) (xs:=rs.map fun r=>(rwT r,pr r)) (P:=.tup (rs.map rwT)) u hU o (.inl (by rw [List.map_map]; rfl)) hb' (by simpa using hl) (fun x hx=>by
    obtain ⟨r,hr,rfl⟩:=List.mem_map.mp hx
    exact N8 (h2 r hr))
  rw [show (rs.map fun r=>(rwT r,pr r)).map (·.2)=rs.map pr by rw [List.map_map]; rfl] at lb
  have sy:=says (sto:=sto) (c:=c) (A:=bounds bs++A2) u hU o.all hb hl
  rw [List.map_append] at sy
  have bl:=Az bs
  have ll:(bounds bs).length+A2.length<lim:=by have:=o.len; have:=o.bl; show _<1000000; omega
  have eb:∀ b:Bool,eqO (.bl b) (.bl b)=some (.bl true):=fun b=>by cases b <;> simp [eqO,eqT,eqD,dat,PyData.depth,PyData.eqv]
  unfold ou
  simp [ig,j9,sIf,ji,sNew,jl,ju,sNx,dw,sGo,dg,kh,cj,dj,jc,fj,m7,lg,mOr,j5,mIf,mOp,mUn,bh,gk,aj,dz,aq,jd,fu,cg,hName,lq,gj,jw,ltT,leT,jz,jf,lu,jo,iw,jt,mj,j8,j7,bw,m8,lb,wu,El,ll,sy,eb]
end
end K
end
noncomputable section
set_option linter.all false
set_option maxRecDepth 100000
set_option autoImplicit false
namespace K
open C PySem
theorem Xc {g:G} {b:S} {n:Nat} (P:Nat→Sta→Prop) (H:∀ k s,k<n→P k s→∃ s1 s2,g (.int (k:Int)) s=some s1∧b s1=some (.next,s2)∧P (k+1) s2) :
    ∀ (m k:Nat) (s:Sta),k+m=n→P k s→∃ s',forL g b ((List.range' k m).map fun (k:Nat)=>T.int (k:Int)) s=some (.next,s')∧P n s'
  | 0,k,s,e,p=>⟨s,rfl,by rw [← e]; exact p⟩
  | m+1,k,s,e,p=>by
    obtain ⟨s1,s2,e1,e2,p2⟩:=H k s (by omega) p
    obtain ⟨s',e3,p3⟩:=Xc P H m (k+1) s2 (by omega) p2
    refine ⟨s',?_,p3⟩
    rw [List.range'_succ,List.map_cons,forL]
    simp only [e1,e2]
    exact e3
theorem forR {g:G} {b:S} {n:Nat} {s:Sta} {r:Option (C.Flow × Sta)} (hF:forL g b (rangeT n) s=r) (P:Nat→Sta→Prop) (p:P 0 s) (H:∀ k s,k<n→P k s→∃ s1 s2,g (.int (k:Int)) s=some s1∧b s1=some (.next,s2)∧P (k+1) s2):∃ s',r=some (.next,s')∧P n s':=by
  obtain ⟨s',e,p'⟩:=Xc P H n 0 s (by omega) p
  refine ⟨s',?_,p'⟩
  rw [← hF,← e]
  unfold rangeT
  rw [List.range_eq_range']
noncomputable abbrev scr (cs:List Int):T:=.lst (cs.map .int)
noncomputable def cell (cs:List Int) (k:Nat):Int:=cs.getD k 0
noncomputable section
variable {sto:List SO} {cs:List Int}
theorem a3h {k:Nat}:j6 [scr cs,.int (k:Int)] sto=some (.int (cell cs k),sto):=by
  by_cases h:k<cs.length
  · have h1:((k:Int)<(cs.length:Int)):=by omega
    have h2:cs[k]? = some cs[k]:=List.getElem?_eq_getElem h
    simp [ig,j9,sIf,ji,sNew,jl,ju,sNx,dw,sGo,dg,kh,cj,dj,jc,fj,m7,lg,mOr,j5,mIf,mOp,mUn,bh,gk,aj,dz,aq,jd,fu,cg,hName,lq,gj,jw,ltT,leT,jz,jf,lu,jo,iw,jt,mj,j8,j7,bw,m8,j6,gn,ixI,h1,h2,cell,List.getD]
  · have h1:¬ ((k:Int)<(cs.length:Int)):=by omega
    have h2:cs[k]? = none:=List.getElem?_eq_none_iff.mpr (by omega)
    simp [ig,j9,sIf,ji,sNew,jl,ju,sNx,dw,sGo,dg,kh,cj,dj,jc,fj,m7,lg,mOr,j5,mIf,mOp,mUn,bh,gk,aj,dz,aq,jd,fu,cg,hName,lq,gj,jw,ltT,leT,jz,jf,lu,jo,iw,jt,mj,j8,j7,bw,m8,j6,gn,ixI,h1,h2,cell,List.getD]
theorem Hv {k:Nat} {i:Int} (h:i=(k:Int)):j6 [scr cs,.int i] sto=some (.int (cell cs k),sto):=by
  rw [h]; exact a3h
theorem signed {c m:Int} (hm:0<m):∃ r:Int,r.natAbs<m.natAbs∧∀ sto:List SO,qu [.int c,.int m] sto=some (.int r,sto):=by
  by_cases h:c<0
  · have h1:=Int.emod_nonneg (-c) (b:=m) (by omega)
    have h2:=Int.emod_lt_of_pos (-c) hm
    exact ⟨-(-c%m),by omega,fun sto=>by first | exact rfl | simp [ig,j9,sIf,ji,sNew,jl,ju,sNx,dw,sGo,dg,kh,cj,dj,jc,fj,m7,lg,mOr,j5,mIf,mOp,mUn,bh,gk,aj,dz,aq,jd,fu,cg,hName,lq,gj,jw,ltT,leT,jz,jf,lu,jo,iw,jt,mj,j8,j7,bw,m8,qu,h,hm]⟩
  · have h1:=Int.emod_nonneg c (b:=m) (by omega)
    have h2:=Int.emod_lt_of_pos c hm
    exact ⟨c%m,by omega,fun sto=>by first | exact rfl | simp [ig,j9,sIf,ji,sNew,jl,ju,sNx,dw,sGo,dg,kh,cj,dj,jc,fj,m7,lg,mOr,j5,mIf,mOp,mUn,bh,gk,aj,dz,aq,jd,fu,cg,hName,lq,gj,jw,ltT,leT,jz,jf,lu,jo,iw,jt,mj,j8,j7,bw,m8,qu,h,hm]⟩
theorem Ai {n:Int} (h:n.natAbs<4000000000):Ah n=true:=by
  unfold Ah
  rw [decide_eq_true_eq]
  have:(2:Int) ^ 64=18446744073709551616:=by decide
  omega
theorem p20:Pn (.int 10) (.int 20)=some (.int 100000000000000000000):=by simp [Pn]
theorem p9:Pn (.int 10) (.int 9)=some (.int 1000000000):=by simp [Pn]
theorem p6:Pn (.int 10) (.int 6)=some (.int 1000000):=by simp [Pn]
noncomputable def a4a (k:Nat):Str:=(["x","@q","z"]:List Str).getD k "x"
theorem a1d {k:Nat} (h:k<3):gn (.lst [.str "x",.str "@q",.str "z"]) (.int (k:Int))=some (.str (a4a k)):=by
  match k,h with
  | 0,_=>rfl
  | 1,_=>rfl
  | 2,_=>rfl
theorem a0e:∀ k,k<3→a4a k∈U4:=by decide +kernel
theorem nd4:U4.Nodup:=by decide +kernel
noncomputable def Ye (bs:List Bd):Prop:=1≤bs.length∧bs.length≤3∧∀ r∈bs,r.1∈U4
theorem Z6:∃ bs,Ye bs∧∀ sto:List SO,Bk [scr cs] sto=some (.lst (bs.map bdT),sto):=by
  have m1:=Int.emod_nonneg (cell cs 0) (b:=3) (by decide)
  have m2:=Int.emod_lt_of_pos (cell cs 0) (b:=3) (by decide)
  let row (k:Nat):Bd:=(a4a k,Classical.choose (signed (c:=cell cs (1+k)) (m:=100000000000000000000) (by decide)),Classical.choose (signed (c:=cell cs (1+k)) (m:=100000000000000000000) (by decide))+(if cell cs (1+k)<0 then -cell cs (1+k) else cell cs (1+k)) / 3%100000000000000000000)
  refine ⟨(List.range (1+cell cs 0%3).toNat).map row,⟨by simp; omega,by simp; omega,fun r hr=>?_⟩,fun sto=>?_⟩
  · obtain ⟨k,hk,rfl⟩:=List.mem_map.mp hr
    exact a0e k (by have:=List.mem_range.mp hk; omega)
  · have c0:=Hv (cs:=cs) (sto:=sto) (k:=0) (i:=0) rfl
    have l1:(1+cell cs 0%3).natAbs<lim:=by show _<1000000; omega
    unfold Bk
    simp [ig,j9,sIf,ji,sNew,jl,ju,sNx,dw,sGo,dg,kh,cj,dj,jc,fj,m7,lg,mOr,j5,mIf,mOp,mUn,bh,gk,aj,dz,aq,jd,fu,cg,hName,lq,gj,jw,ltT,leT,jz,jf,lu,jo,iw,jt,mj,j8,j7,bw,m8,c0,l1]
    generalize hF:forL _ _ _ _=r
    obtain ⟨s',rfl,o2,o3,o4,rfl⟩:=forR hF (fun k s=>∃ (o2 o3 o4:Slot),s=⟨[some (scr cs,false),some (.lst (((List.range k).map row).map bdT),true),o2,o3,o4],sto⟩)
      ⟨none,none,none,rfl⟩ (by
        rintro k s hk ⟨o2,o3,o4,rfl⟩
        have ck:=Hv (cs:=cs) (sto:=sto) (k:=1+k) (i:=1+(k:Int)) (by omega)
        have sg:=(Classical.choose_spec (signed (c:=cell cs (1+k)) (m:=100000000000000000000) (by decide))).2 sto
        have nm:=a1d (k:=k) (by omega)
        have lk:k<lim:=by show _<1000000; omega
        refine ⟨⟨[some (scr cs,false),some (.lst (((List.range k).map row).map bdT),true),some (.int (k:Int),false),o3,o4],sto⟩,⟨[some (scr cs,false),some (.lst (((List.range (k+1)).map row).map bdT),true),some (.int (k:Int),false),some (.int (cell cs (1+k)),false),some (.int (row k).2.1,false)],sto⟩,rfl,?_,_,_,_,rfl⟩
        rw [List.range_succ,List.map_append,List.map_append]
        simp [ig,j9,sIf,ji,sNew,jl,ju,sNx,dw,sGo,dg,kh,cj,dj,jc,fj,m7,lg,mOr,j5,mIf,mOp,mUn,bh,gk,aj,dz,aq,jd,fu,cg,hName,lq,gj,jw,ltT,leT,jz,jf,lu,jo,iw,jt,mj,j8,j7,bw,m8,ck,p20,sg,nm,lk,row,bdT])
    simp [ig,j9,sIf,ji,sNew,jl,ju,sNx,dw,sGo,dg,kh,cj,dj,jc,fj,m7,lg,mOr,j5,mIf,mOp,mUn,bh,gk,aj,dz,aq,jd,fu,cg,hName,lq,gj,jw,ltT,leT,jz,jf,lu,jo,iw,jt,mj,j8,j7,bw,m8]
theorem a2n {v a b:Int}:∃ o:Int,(o=a∨o=b)∧gn (.lst [.int a,.int b]) (.int (v%2))=some (.int o):=by
  rcases Int.emod_two_eq v with h | h <;> rw [h]
  · exact ⟨a,.inl rfl,rfl⟩
  · exact ⟨b,.inr rfl,rfl⟩
theorem a92 {bs:List Bd} {k:Nat} (h:k<bs.length):gn (.lst (bs.map bdT)) (.int (k:Int))=some (bdT bs[k]) :=
  Hg (by rw [List.getElem?_map,List.getElem?_eq_getElem h]; rfl)
theorem a6z {b:Str} {n m:Int} (h:b∈U4):Ig U4 (n,[(b,m)]):=⟨by simp [ks],fun x hx=>by simp [ks] at hx; rw [hx]; exact h⟩
theorem Tg {n:Int}:Ig U4 (n,[]):=⟨by simp [ks],fun x hx=>by simp [ks] at hx⟩
noncomputable abbrev a95:S:=(j9 (ji 4 (mOp gn (gk (fun l=>some (.lst l)) (aj (mOp lu (mOp jo (mOp iw (bh 0) (mOp jf (aq (.int 3)) (mOp Dm (aq (.int 5)) (bh 3)))) (aq (.int 7))) (aq (.int 3))) (aj (fu qu (aj (mOp iw (bh 0) (mOp jf (aq (.int 11)) (bh 3))) (aj (mOp Pn (aq (.int 10)) (aq (.int 6))) dz))) dz))) (mOp jo (mOp iw (bh 0) (aq (.int 2))) (aq (.int 2)))))
  (ji 2 (fu jm (aj (bh 2) (aj (gk (fun l=>some (.tup l)) (aj (aq (.int 0)) (aj (gk (fun l=>some (.tup l)) (aj (gk (fun l=>some (.tup l)) (aj (mOp gn (mOp gn (bh 1) (bh 3)) (aq (.int 0))) (aj (aq (.int 1)) dz))) dz)) dz))) (aj (bh 4) dz))))))
theorem Dz {g:G} {it:M (List T)} {b rest:S} {s s1 s2:Sta} {ts:List T} (h:it s=some (ts,s1)) (hf:forL g b ts s1=some (.next,s2)):j9 (kh g it b) rest s=rest s2:=by
  unfold j9 kh; rw [h]; dsimp only; rw [hf]
theorem Ws {bs:List Bd} {c:Int} (hb:Ye bs):∃ s,Ig U4 s∧Ak [.int c,.lst (bs.map bdT)] sto=some (smT s,sto):=by
  have l1:bs.length<lim:=by have:=hb.2.1; show _<1000000; omega
  obtain ⟨sg,_,es⟩:=signed (c:=c / 7) (m:=1000000) (by decide)
  unfold Ak ig
  rw [show ([T.int c,.lst (bs.map bdT)].map (fun t=>some (t,false))++List.replicate (5 - [T.int c,.lst (bs.map bdT)].length) none:List Slot)=[some (.int c,false),some (.lst (bs.map bdT),false),none,none,none] from rfl]
  rw [j4 (s':=⟨[some (.int c,false),some (.lst (bs.map bdT),false),some (smT (sg,[]),false),none,none],sto⟩) (by simp [ig,j9,sIf,ji,sNew,jl,ju,sNx,dw,sGo,dg,kh,cj,dj,jc,fj,m7,lg,mOr,j5,mIf,mOp,mUn,bh,gk,aj,dz,aq,jd,fu,cg,hName,lq,gj,jw,ltT,leT,jz,jf,lu,jo,iw,jt,mj,j8,j7,bw,m8,p6,es sto,smT])]
  have it:gj (gk jz (aj (bh 1) dz)) ⟨[some (.int c,false),some (.lst (bs.map bdT),false),some (smT (sg,[]),false),none,none],sto⟩=some (rangeT bs.length,⟨[some (.int c,false),some (.lst (bs.map bdT),false),some (smT (sg,[]),false),none,none],sto⟩):=by first | exact rfl | simp [ig,j9,sIf,ji,sNew,jl,ju,sNx,dw,sGo,dg,kh,cj,dj,jc,fj,m7,lg,mOr,j5,mIf,mOp,mUn,bh,gk,aj,dz,aq,jd,fu,cg,hName,lq,gj,jw,ltT,leT,jz,jf,lu,jo,iw,jt,mj,j8,j7,bw,m8,l1]
  generalize hF:forL (hName 3) a95 (rangeT bs.length) ⟨[some (.int c,false),some (.lst (bs.map bdT),false),some (smT (sg,[]),false),none,none],sto⟩=r
  obtain ⟨s',rfl,t',o3',o4',ht',rfl⟩:=forR hF (fun k s=>∃ (t:Sm) (o3 o4:Slot),Ig U4 t∧s=⟨[some (.int c,false),some (.lst (bs.map bdT),false),some (smT t,false),o3,o4],sto⟩)
    ⟨(sg,[]),none,none,Tg,rfl⟩ (by
      rintro k s hk ⟨t,o3,o4,ht,rfl⟩
      have k4:=hb.2.1
      obtain ⟨sg,hsg,es⟩:=signed (c:=c / (11+(k:Int))) (m:=1000000) (by decide)
      obtain ⟨v,hv,ev'⟩:=a2n (v:=c / 2) (a:=c / (3+5 * (k:Int))%7 - 3) (b:=sg)
      have q0:=Int.emod_nonneg (c / (3+5 * (k:Int))) (b:=7) (by decide)
      have q1:=Int.emod_lt_of_pos (c / (3+5 * (k:Int))) (b:=7) (by decide)
      have hbv:Ah v=true:=Ai (by rcases hv with rfl | rfl <;> omega)
      have lp:=Fv (sto:=sto) (s1:=t) (s2:=(0,[(bs[k].1,1)])) (t:=v) Yz ht (a6z (hb.2.2 _ (List.getElem_mem hk))) hbv
      have ba:=a92 hk
      have b0:gn (bdT bs[k]) (.int 0)=some (.str bs[k].1):=uf
      have p1:0<3+5 * (k:Int):=by omega
      have p2:3+5 * (k:Int)<1073741824:=by omega
      have p3:0<11+(k:Int):=by omega
      have p4:11+(k:Int)<1073741824:=by omega
      have b5:Ah 5=true:=by decide
      refine ⟨⟨[some (.int c,false),some (.lst (bs.map bdT),false),some (smT t,false),some (.int (k:Int),false),o4],sto⟩,⟨[some (.int c,false),some (.lst (bs.map bdT),false),some (smT (t.1+0 * v,canon U4 fun b=>gt t.2 b+gt [(bs[k].1,1)] b * v),false),some (.int (k:Int),false),some (.int v,false)],sto⟩,rfl,?_,_,_,_,Ae nd4,rfl⟩
      rw [show smT (0,[(bs[k].1,1)])=.tup [.int 0,.tup [.tup [.str bs[k].1,.int 1]]] from rfl] at lp
      unfold a95
      rw [j4 (s':=⟨[some (.int c,false),some (.lst (bs.map bdT),false),some (smT t,false),some (.int (k:Int),false),some (.int v,false)],sto⟩) (by simp [ig,j9,sIf,ji,sNew,jl,ju,sNx,dw,sGo,dg,kh,cj,dj,jc,fj,m7,lg,mOr,j5,mIf,mOp,mUn,bh,gk,aj,dz,aq,jd,fu,cg,hName,lq,gj,jw,ltT,leT,jz,jf,lu,jo,iw,jt,mj,j8,j7,bw,m8,Dm,b5,p1,p2,p3,p4,p6,es sto,ev'])]
      dsimp only at lp
      simp [ig,j9,sIf,ji,sNew,jl,ju,sNx,dw,sGo,dg,kh,cj,dj,jc,fj,m7,lg,mOr,j5,mIf,mOp,mUn,bh,gk,aj,dz,aq,jd,fu,cg,hName,lq,gj,jw,ltT,leT,jz,jf,lu,jo,iw,jt,mj,j8,j7,bw,m8,ba,b0,lp])
  rw [Dz it hF]
  exact ⟨t',ht',rfl⟩
noncomputable def Ss (n t y:Int):List Rw:=[[.i n,.i (t+1)],[.i n,.i (-t)],[.i n,.i 0],[.i n,.b true],[.i n,.i t,.i 1],[.i (n+1),.i t],[.i (-1),.i t],[.i y,.i t],[.i n],[.i n,.i n,.i 1],[.i n,.i (n+1),.i t],[.i (n+1),.i n,.i t],[.i 0,.i 1,.i 1],[.i (n - y),.i t],[.i n,.i (t - y)]]
noncomputable def Rr (n o t y:Int):List Rw:=[[.i n,.i o,.i (t+1)],[.i n,.i o,.i (-t)],[.i n,.i o,.i 0],[.i n,.i o,.b true],[.i n,.i o,.i t,.i 1],[.i (n+1),.i o,.i t],[.i (-1),.i o,.i t],[.i y,.i o,.i t],[.i n],[.i n,.i n,.i 1],[.i n,.i (n+1),.i t],[.i (n+1),.i n,.i t],[.i 0,.i 1,.i 1],[.i (n - y),.i o,.i t],[.i n,.i (o - y),.i t]]
theorem a1i {L:List Rw} {c:Int} (h:L.length=15):∃ r∈L,gn (.lst (L.map rwT)) (.int (c%15))=some (rwT r):=by
  have h0:=Int.emod_nonneg c (b:=15) (by decide)
  have h1:=Int.emod_lt_of_pos c (b:=15) (by decide)
  have hk:(c%15).toNat<L.length:=by omega
  have:=Hg (xs:=L.map rwT) (k:=(c%15).toNat) (t:=rwT L[(c%15).toNat]) (by rw [List.getElem?_map,List.getElem?_eq_getElem hk]; rfl)
  rw [Int.toNat_of_nonneg h0] at this
  exact ⟨_,List.getElem_mem hk,this⟩
noncomputable def Lq (r:Rw):Prop:=r.length≤100∧∀ c∈r,okC c
end
end K
end
noncomputable section
set_option linter.all false
set_option maxRecDepth 100000
set_option autoImplicit false
namespace K
open C PySem
noncomputable section
variable {cs:List Int} {sto:List SO}
theorem Ag {i:Nat} {m:M T} {s s1 s2:Sta} {t:T} (h:m s=some (t,s1)) (e:cg i t false s1=s2):ji i m s=some (.next,s2):=by unfold ji; rw [h,← e]
theorem ni {f:T→T→Option T} {a b:M T} {s s1 s2:Sta} {x y z:T} (h1:a s=some (x,s1)) (h2:b s1=some (y,s2)) (h3:f x y=some z):mOp f a b s=some (z,s2):=by
  unfold mOp; rw [h1]; dsimp only; rw [h2]; dsimp only; rw [h3]
theorem Et {m:M T} {s s1:Sta} {b:Bool} (h:m s=some (.bl b,s1)):fj m s=some (b,s1):=by unfold fj; rw [h]
theorem gw {a:M T} {b:M (List T)} {s s1 s2:Sta} {x:T} {l:List T} (h1:a s=some (x,s1)) (h2:b s1=some (l,s2)):aj a b s=some (x::l,s2):=by
  unfold aj; rw [h1]; dsimp only; rw [h2]
theorem vd {f:List T→Option T} {as:M (List T)} {ts:List T} {s s1:Sta} {u:T} (h:as s=some (ts,s1)) (hf:f ts=some u):gk f as s=some (u,s1):=by
  unfold gk; rw [h]; dsimp only; rw [hf]
theorem qy {as:M (List T)} {ts:List T} {s s1:Sta} {F:Fn} {t:T} (h:as s=some (ts,s1)) (h2:F ts s1.sto=some (t,s1.sto)):fu F as s=some (t,s1):=by
  unfold fu; rw [h]; dsimp only; rw [h2]
theorem a8o {c:M Bool} {a b:S} {s s1:Sta} (h:c s=some (true,s1)):sIf c a b s=a s1:=by unfold sIf; rw [h]
theorem a5i {c:M Bool} {a b:S} {s s1:Sta} (h:c s=some (false,s1)):sIf c a b s=b s1:=by unfold sIf; rw [h]
theorem Yr {i:Nat} {e:M T} {s s1:Sta} {t:T} {xs:List T} (h:jc i s=true) (he:e s=some (t,s1)) (hx:s1.env[i]? = some (some (.lst xs,true))) (hl:xs.length<lim):cj i e s=some (.next,cg i (.lst (xs++[t])) true s1):=by
  unfold cj
  rw [if_pos h,he]
  dsimp only
  rw [hx]
  dsimp only
  rw [if_pos hl]
theorem a5m {n t y c:Int} (hn:n.natAbs<1000000000) (ht:t.natAbs<1000000000) (hy:y.natAbs<1000000000):∃ r,Lq r∧wk [rwT [.i n,.i t],.int c,.int y] sto=some (rwT r,sto):=by
  obtain ⟨r,hr,e⟩:=a1i (L:=Ss n t y) (c:=c) rfl
  have b:∀ v:Int,v.natAbs<4000000000→okC (.i v):=fun v hv=>Ai hv
  refine ⟨r,?_,?_⟩
  · clear e
    simp only [Ss,List.mem_cons,List.not_mem_nil,or_false] at hr
    rcases hr with rfl | rfl | rfl | rfl | rfl | rfl | rfl | rfl | rfl | rfl | rfl | rfl | rfl | rfl | rfl
    all_goals
      refine ⟨by simp,fun d hd=>?_⟩
      simp only [List.mem_cons,List.not_mem_nil,or_false] at hd
      first
      | (rcases hd with rfl | rfl | rfl <;> first | exact trivial | exact b _ (by omega))
      | (rcases hd with rfl | rfl <;> first | exact trivial | exact b _ (by omega))
      | (subst hd; first | exact trivial | exact b _ (by omega))
  · unfold wk ig
    rw [show ([rwT [.i n,.i t],.int c,.int y].map (fun t=>some (t,false))++List.replicate (4 - [rwT [.i n,.i t],.int c,.int y].length) none:List Slot)=[some (rwT [.i n,.i t],false),some (.int c,false),some (.int y,false),none] from rfl]
    rw [j4 (s':=⟨[some (rwT [.i n,.i t],false),some (.int c,false),some (.int y,false),some (.lst (((Ss n t y).take 5).map rwT),false)],sto⟩) rfl]
    rw [j4 (s':=⟨[some (rwT [.i n,.i t],false),some (.int c,false),some (.int y,false),some (.lst (((Ss n t y).take 10).map rwT),false)],sto⟩) rfl]
    rw [j4 (s':=⟨[some (rwT [.i n,.i t],false),some (.int c,false),some (.int y,false),some (.lst (((Ss n t y).take 13).map rwT),false)],sto⟩) rfl]
    unfold jl
    rw [ni (x:=.lst ((Ss n t y).map rwT)) (s1:=⟨[some (rwT [.i n,.i t],false),some (.int c,false),some (.int y,false),some (.lst (((Ss n t y).take 13).map rwT),false)],sto⟩) rfl (ni (z:=.int (c%15)) rfl rfl rfl) e]
theorem a7i {n o t y c:Int} (hn:n.natAbs<1000000000) (ho:o.natAbs<1000000000) (ht:t.natAbs<1000000000) (hy:y.natAbs<1000000000):∃ r,Lq r∧wk [rwT [.i n,.i o,.i t],.int c,.int y] sto=some (rwT r,sto):=by
  obtain ⟨r,hr,e⟩:=a1i (L:=Rr n o t y) (c:=c) rfl
  have b:∀ v:Int,v.natAbs<4000000000→okC (.i v):=fun v hv=>Ai hv
  refine ⟨r,?_,?_⟩
  · clear e
    simp only [Rr,List.mem_cons,List.not_mem_nil,or_false] at hr
    rcases hr with rfl | rfl | rfl | rfl | rfl | rfl | rfl | rfl | rfl | rfl | rfl | rfl | rfl | rfl | rfl
    all_goals
      refine ⟨by simp,fun d hd=>?_⟩
      simp only [List.mem_cons,List.not_mem_nil,or_false] at hd
      first
      | (rcases hd with rfl | rfl | rfl | rfl <;> first | exact trivial | exact b _ (by omega))
      | (rcases hd with rfl | rfl | rfl <;> first | exact trivial | exact b _ (by omega))
      | (subst hd; first | exact trivial | exact b _ (by omega))
  · unfold wk ig
    rw [show ([rwT [.i n,.i o,.i t],.int c,.int y].map (fun t=>some (t,false))++List.replicate (4 - [rwT [.i n,.i o,.i t],.int c,.int y].length) none:List Slot)=[some (rwT [.i n,.i o,.i t],false),some (.int c,false),some (.int y,false),none] from rfl]
    rw [j4 (s':=⟨[some (rwT [.i n,.i o,.i t],false),some (.int c,false),some (.int y,false),some (.lst (((Rr n o t y).take 5).map rwT),false)],sto⟩) rfl]
    rw [j4 (s':=⟨[some (rwT [.i n,.i o,.i t],false),some (.int c,false),some (.int y,false),some (.lst (((Rr n o t y).take 10).map rwT),false)],sto⟩) rfl]
    rw [j4 (s':=⟨[some (rwT [.i n,.i o,.i t],false),some (.int c,false),some (.int y,false),some (.lst (((Rr n o t y).take 13).map rwT),false)],sto⟩) rfl]
    unfold jl
    rw [ni (x:=.lst ((Rr n o t y).map rwT)) (s1:=⟨[some (rwT [.i n,.i o,.i t],false),some (.int c,false),some (.int y,false),some (.lst (((Rr n o t y).take 13).map rwT),false)],sto⟩) rfl (ni (z:=.int (c%15)) rfl rfl rfl) e]
noncomputable def okP (r:Rw):Prop:=(∃ n t:Int,r=[.i n,.i t]∧n.natAbs<1000000000∧t.natAbs<1000000000)∨(∃ n o t:Int,r=[.i n,.i o,.i t]∧n.natAbs<1000000000∧o.natAbs<1000000000∧t.natAbs<1000000000)
noncomputable def okL (a:At):Prop:=O1 U4 a∧okA a.k
noncomputable def aR (s:Sm) (f:Int):At:=⟨"rest",s,[.int f]⟩
noncomputable def aT (s:Sm):At:=⟨"most",s,[]⟩
theorem Zj:okA "rest" := ⟨G8,by decide +kernel,by decide +kernel⟩
theorem a0c:okA "most" := ⟨G6,by decide +kernel,by decide +kernel⟩
theorem a0h {s:Sm} {f:Int} (h:Ig U4 s):okL (aR s f):=⟨⟨G8,h,fun _=>⟨f,rfl⟩⟩,Zj⟩
theorem Zg {s:Sm} (h:Ig U4 s):okL (aT s):=⟨⟨G6,h,fun z=>absurd z (by show ¬ (("most" : Str)==("rest" : Str))=true; decide)⟩,a0c⟩
theorem a9q {r:Rw} {y c:Int} (h:okP r) (hy:y.natAbs<1000000000):∃ r',Lq r'∧wk [rwT r,.int c,.int y] sto=some (rwT r',sto):=by
  rcases h with ⟨n,t,rfl,h1,h2⟩ | ⟨n,o,t,rfl,h1,h2,h3⟩
  · exact a5m h1 h2 hy
  · exact a7i h1 h2 h3 hy
theorem okP.rw {r:Rw} (h:okP r):Lq r:=by
  rcases h with ⟨n,t,rfl,h1,h2⟩ | ⟨n,o,t,rfl,h1,h2,h3⟩
  · refine ⟨by simp,fun d hd=>?_⟩
    simp only [List.mem_cons,List.not_mem_nil,or_false] at hd
    rcases hd with rfl | rfl <;> exact Ai (by omega)
  · refine ⟨by simp,fun d hd=>?_⟩
    simp only [List.mem_cons,List.not_mem_nil,or_false] at hd
    rcases hd with rfl | rfl | rfl <;> exact Ai (by omega)
noncomputable abbrev mB1:S:=(j9 (ji 8 (fu j6 (aj (bh 0) (aj (mOp jf (aq (.int 5)) (bh 7)) dz))))
  (j9 (ji 9 (fu Ak (aj (bh 8) (aj (bh 1) dz))))
  (j9 (ji 10 (mOp jf (aq (.int 2)) (mOp jo (bh 8) (aq (.int 11)))))
  (j9 (ji 11 (mOp Dm (bh 2) (mOp jf (aq (.int 1)) (mOp jo (bh 8) (aq (.int 3))))))
  (j9 (sIf (fj (mOp eqO (mOp jo (bh 2) (bh 10)) (aq (.int 0))))
  (ji 11 (mOp Dm (mOp iw (bh 2) (bh 10)) (mOp lu (mOp jo (mOp iw (bh 8) (aq (.int 3))) (aq (.int 5))) (aq (.int 2)))))
  ju)
  (j9 (sIf (fj (mOp eqO (bh 11) (aq (.int 0))))
  (ji 11 (mUn jt (bh 2)))
  ju)
  (j9 (sIf (fj (mOp eqO (mOp jo (mOp iw (bh 8) (aq (.int 77))) (aq (.int 4))) (aq (.int 1))))
  (ji 11 (mOp jf (mOp jf (bh 11) (aq (.int 1))) (gk Jl (aj (mOp eqO (bh 11) (mUn jt (aq (.int 1)))) dz))))
  ju)
  (j9 (cj 4 (gk (fun l=>some (.tup l)) (aj (aq (.str "rest")) (aj (bh 9) (aj (bh 10) dz)))))
  (j9 (cj 5 (gk (fun l=>some (.tup l)) (aj (mOp lu (mOp jf (bh 3) (qm 4)) (aq (.int 1))) (aj (bh 11) dz))))
  (ji 6 (fu jm (aj (bh 6) (aj (bh 9) (aj (bh 11) dz))))))))))))))
noncomputable abbrev mB2:S:=(j9 (ji 8 (fu j6 (aj (bh 0) (aj (mOp jf (aq (.int 9)) (bh 7)) dz))))
  (j9 (ji 9 (fu Ak (aj (bh 8) (aj (bh 1) dz))))
  (j9 (cj 4 (gk (fun l=>some (.tup l)) (aj (aq (.str "most")) (aj (bh 9) dz))))
  (j9 (cj 4 (gk (fun l=>some (.tup l)) (aj (aq (.str "most")) (aj (fu jm (aj (gk (fun l=>some (.tup l)) (aj (aq (.int 0)) (aj (gk (fun l=>some (.tup l)) dz) dz))) (aj (bh 9) (aj (mUn jt (aq (.int 1))) dz)))) dz))))
  (j9 (cj 5 (gk (fun l=>some (.tup l)) (aj (mOp lu (mOp jf (bh 3) (qm 4)) (aq (.int 2))) (aj (mOp lu (mOp jf (bh 3) (qm 4)) (aq (.int 1))) (aj (mOp jf (aq (.int 1)) (mOp jo (bh 8) (aq (.int 5)))) dz)))))
  (ji 6 (fu jm (aj (bh 6) (aj (bh 9) (aj (mOp jf (aq (.int 1)) (mOp jo (bh 8) (aq (.int 5)))) dz))))))))))
noncomputable abbrev en (cs:List Int) (bs:List Bd) (m y:Int) (A:List At) (rs:List Rw) (t:Sm) (o7 o8 o9 o10 o11 o12 o13 o14 o15:Slot):List Slot:=[some (scr cs,false),some (.lst (bs.map bdT),false),some (.int m,false),some (.int y,false),some (.lst (A.map atT),true),some (.lst (rs.map rwT),true),some (smT t,false),o7,o8,o9,o10,o11,o12,o13,o14,o15]
theorem a9r {bs:List Bd} {m y:Int} {A:List At} {rs:List Rw} {t:Sm} {o7 o8 o9 o10 o11 o12 o13 o14 o15:Slot} {a:At}:cg 4 (.lst (A.map atT++[atT a])) true ⟨en cs bs m y A rs t o7 o8 o9 o10 o11 o12 o13 o14 o15,sto⟩=⟨en cs bs m y (A++[a]) rs t o7 o8 o9 o10 o11 o12 o13 o14 o15,sto⟩:=by
  simp [cg]
theorem a9d {bs:List Bd} {m y:Int} {A:List At} {rs:List Rw} {t:Sm} {o7 o8 o9 o10 o11 o12 o13 o14 o15:Slot} {a:Rw}:cg 5 (.lst (rs.map rwT++[rwT a])) true ⟨en cs bs m y A rs t o7 o8 o9 o10 o11 o12 o13 o14 o15,sto⟩=⟨en cs bs m y A (rs++[a]) t o7 o8 o9 o10 o11 o12 o13 o14 o15,sto⟩:=by
  simp [cg]
theorem a5k {bs:List Bd} {m y:Int} {A:List At} {rs:List Rw} {t:Sm} {o7 o8 o9 o10 o11 o12 o13 o14 o15:Slot} {a:At} {e:M T} (hl:A.length≤100) (h:e ⟨en cs bs m y A rs t o7 o8 o9 o10 o11 o12 o13 o14 o15,sto⟩=some (atT a,⟨en cs bs m y A rs t o7 o8 o9 o10 o11 o12 o13 o14 o15,sto⟩)) :
    cj 4 e ⟨en cs bs m y A rs t o7 o8 o9 o10 o11 o12 o13 o14 o15,sto⟩=some (.next,⟨en cs bs m y (A++[a]) rs t o7 o8 o9 o10 o11 o12 o13 o14 o15,sto⟩):=by
  rw [Yr rfl h rfl (by rw [List.length_map]; show _<1000000; omega),a9r]
theorem a8j {bs:List Bd} {m y:Int} {A:List At} {rs:List Rw} {t:Sm} {o7 o8 o9 o10 o11 o12 o13 o14 o15:Slot} {a:Rw} {e:M T} (hl:rs.length≤100) (h:e ⟨en cs bs m y A rs t o7 o8 o9 o10 o11 o12 o13 o14 o15,sto⟩=some (rwT a,⟨en cs bs m y A rs t o7 o8 o9 o10 o11 o12 o13 o14 o15,sto⟩)) :
    cj 5 e ⟨en cs bs m y A rs t o7 o8 o9 o10 o11 o12 o13 o14 o15,sto⟩=some (.next,⟨en cs bs m y A (rs++[a]) t o7 o8 o9 o10 o11 o12 o13 o14 o15,sto⟩):=by
  rw [Yr rfl h rfl (by rw [List.length_map]; show _<1000000; omega),a9d]
theorem a7d {bs:List Bd} {m y:Int} {A:List At} {rs:List Rw} {t:Sm} {o7 o8 o9 o10 o11 o12 o13 o14 o15:Slot}:qm 4 ⟨en cs bs m y A rs t o7 o8 o9 o10 o11 o12 o13 o14 o15,sto⟩=some (.int (A.length:Int),⟨en cs bs m y A rs t o7 o8 o9 o10 o11 o12 o13 o14 o15,sto⟩):=by
  simp [qm]
structure Laid (k1 k2:Nat) (A:List At) (rs:List Rw) (t:Sm):Prop where
  at':∀ a∈A,okL a
  al:A.length≤k1+2 * k2
  rw:∀ r∈rs,okP r
  rl:rs.length≤k1+k2
  sm:Ig U4 t
theorem Laid.add {k1 k2 k1' k2':Nat} {A:List At} {rs:List Rw} {t t':Sm} {As:List At} {r:Rw} (h:Laid k1 k2 A rs t) (hA:∀ a∈As,okL a) (hr:okP r) (ht:Ig U4 t') (hl:As.length+k1+2 * k2≤k1'+2 * k2') (hl2:k1+k2+1≤k1'+k2'):Laid k1' k2' (A++As) (rs++[r]) t' :=
  ⟨fun a ha=>by
    rcases List.mem_append.mp ha with z | z
    · exact h.at' a z
    · exact hA a z,by have:=h.al; rw [List.length_append]; omega,fun x hx=>by
    rcases List.mem_append.mp hx with z | z
    · exact h.rw x z
    · rw [List.mem_singleton] at z; rw [z]; exact hr,by have:=h.rl; rw [List.length_append,List.length_singleton]; omega,ht⟩
theorem a0t {m c f:Int} {bs:List Bd} {y:Int} {A:List At} {rs:List Rw} {t:Sm} {o7 o9 o11 o12 o13 o14 o15:Slot} (hm:2≤m) (hm2:m<2000000) (hf:2≤f) (hf2:f<20) :
    ∃ v:Int,v.natAbs<100000000∧∀ rest:S,(j9 (ji 11 (mOp Dm (bh 2) (mOp jf (aq (.int 1)) (mOp jo (bh 8) (aq (.int 3))))))
  (j9 (sIf (fj (mOp eqO (mOp jo (bh 2) (bh 10)) (aq (.int 0))))
  (ji 11 (mOp Dm (mOp iw (bh 2) (bh 10)) (mOp lu (mOp jo (mOp iw (bh 8) (aq (.int 3))) (aq (.int 5))) (aq (.int 2)))))
  ju)
  (j9 (sIf (fj (mOp eqO (bh 11) (aq (.int 0))))
  (ji 11 (mUn jt (bh 2)))
  ju)
  (j9 (sIf (fj (mOp eqO (mOp jo (mOp iw (bh 8) (aq (.int 77))) (aq (.int 4))) (aq (.int 1))))
  (ji 11 (mOp jf (mOp jf (bh 11) (aq (.int 1))) (gk Jl (aj (mOp eqO (bh 11) (mUn jt (aq (.int 1)))) dz))))
  ju) rest)))) ⟨en cs bs m y A rs t o7 (some (.int c,false)) o9 (some (.int f,false)) o11 o12 o13 o14 o15,sto⟩=rest ⟨en cs bs m y A rs t o7 (some (.int c,false)) o9 (some (.int f,false)) (some (.int v,false)) o12 o13 o14 o15,sto⟩:=by
  let E (v:Int):Sta:=⟨en cs bs m y A rs t o7 (some (.int c,false)) o9 (some (.int f,false)) (some (.int v,false)) o12 o13 o14 o15,sto⟩
  have hbm:Ah m=true:=Ai (by omega)
  have u0:=Int.emod_nonneg c (b:=3) (by decide)
  have u1:=Int.emod_lt_of_pos c (b:=3) (by decide)
  have b1:(m * (1+c%3)).natAbs<10000000:=by
    have:c%3=0∨c%3=1∨c%3=2:=by omega
    rcases this with e | e | e <;> rw [e] <;> omega
  have s1:(ji 11 (mOp Dm (bh 2) (mOp jf (aq (.int 1)) (mOp jo (bh 8) (aq (.int 3)))))) ⟨en cs bs m y A rs t o7 (some (.int c,false)) o9 (some (.int f,false)) o11 o12 o13 o14 o15,sto⟩=some (.next,E (m * (1+c%3))) :=
    Ag (ni (y:=.int (1+c%3)) rfl (ni (y:=.int (c%3)) rfl (ni rfl rfl rfl) rfl) (by simp [Dm,hbm])) rfl
  have s2:∃ v:Int,v.natAbs<10000000∧(sIf (fj (mOp eqO (mOp jo (bh 2) (bh 10)) (aq (.int 0)))) (ji 11 (mOp Dm (mOp iw (bh 2) (bh 10)) (mOp lu (mOp jo (mOp iw (bh 8) (aq (.int 3))) (aq (.int 5))) (aq (.int 2))))) ju) (E (m * (1+c%3)))=some (.next,E v):=by
    have hf0:0<f:=by omega
    have cnd:=Et (ni (ni (f:=jo) (x:=.int m) (y:=.int f) (z:=.int (m%f)) (a:=bh 2) (b:=bh 10) (s:=E (m * (1+c%3))) (s2:=E (m * (1+c%3))) rfl rfl (by simp [jo,hf0])) (b:=aq (.int 0)) rfl (qw (a:=m%f) (b:=0)))
    by_cases h:m%f=0
    · have e1:(m%f==0)=true:=by simpa using h
      rw [e1] at cnd
      have q0:0≤m / f:=Int.ediv_nonneg (by omega) (by omega)
      have q1:m / f≤m:=Int.ediv_le_self f (by omega)
      have w0:=Int.emod_nonneg (c / 3) (b:=5) (by decide)
      have w1:=Int.emod_lt_of_pos (c / 3) (b:=5) (by decide)
      have fd:iw (.int m) (.int f)=some (.int (m / f)):=by
        have:0<f∧(f<1073741824∨f.natAbs<fdl):=⟨hf0,.inl (by omega)⟩
        simp only [iw,if_pos this]
      have hq:Ah (m / f)=true:=Ai (by omega)
      refine ⟨(m / f) * (c / 3%5 - 2),?_,?_⟩
      · have:c / 3%5=0∨c / 3%5=1∨c / 3%5=2∨c / 3%5=3∨c / 3%5=4:=by omega
        generalize m / f=q at *
        rcases this with e | e | e | e | e <;> rw [e] <;> omega
      · rw [a8o cnd]
        exact Ag (ni (x:=.int (m / f)) (y:=.int (c / 3%5 - 2)) (ni rfl rfl fd) (ni (x:=.int (c / 3%5)) (ni (x:=.int (c / 3)) (ni rfl rfl rfl) rfl rfl) rfl rfl) (by simp [Dm,hq])) rfl
    · have e1:(m%f==0)=false:=by simpa using h
      rw [e1] at cnd
      exact ⟨_,b1,by rw [a5i cnd]; rfl⟩
  obtain ⟨v2,b2,s2⟩:=s2
  have s3:∃ v:Int,v.natAbs<10000000∧(sIf (fj (mOp eqO (bh 11) (aq (.int 0)))) (ji 11 (mUn jt (bh 2))) ju) (E v2)=some (.next,E v):=by
    have cnd:=Et (ni (a:=bh 11) (b:=aq (.int 0)) (s:=E v2) (s1:=E v2) (s2:=E v2) rfl rfl (qw (a:=v2) (b:=0)))
    by_cases h:v2=0
    · have e1:(v2==0)=true:=by simpa using h
      rw [e1] at cnd
      exact ⟨-m,by omega,by rw [a8o cnd]; rfl⟩
    · have e1:(v2==0)=false:=by simpa using h
      rw [e1] at cnd
      exact ⟨v2,b2,by rw [a5i cnd]; rfl⟩
  obtain ⟨v3,b3,s3⟩:=s3
  have s4:∃ v:Int,v.natAbs<100000000∧(sIf (fj (mOp eqO (mOp jo (mOp iw (bh 8) (aq (.int 77))) (aq (.int 4))) (aq (.int 1)))) (ji 11 (mOp jf (mOp jf (bh 11) (aq (.int 1))) (gk Jl (aj (mOp eqO (bh 11) (mUn jt (aq (.int 1)))) dz)))) ju) (E v3)=some (.next,E v):=by
    have cnd:=Et (ni (ni (f:=jo) (x:=.int (c / 77)) (z:=.int (c / 77%4)) (a:=mOp iw (bh 8) (aq (.int 77))) (b:=aq (.int 4)) (s:=E v3) (s1:=E v3) (s2:=E v3) (ni rfl rfl rfl) rfl rfl) (b:=aq (.int 1)) rfl (qw (a:=c / 77%4) (b:=1)))
    by_cases h:c / 77%4=1
    · have e1:(c / 77%4==1)=true:=by simpa using h
      rw [e1] at cnd
      have ei:∃ w:Int,(w=0∨w=1)∧(gk Jl (aj (mOp eqO (bh 11) (mUn jt (aq (.int 1)))) dz)) (E v3)=some (.int w,E v3):=by
        have o:=ni (a:=bh 11) (b:=mUn jt (aq (.int 1))) (s:=E v3) (s1:=E v3) (s2:=E v3) rfl rfl (qw (a:=v3) (b:=-1))
        cases hb:(v3 == -1)
        · rw [hb] at o; exact ⟨0,.inl rfl,vd (gw o rfl) rfl⟩
        · rw [hb] at o; exact ⟨1,.inr rfl,vd (gw o rfl) rfl⟩
      obtain ⟨w,hw,ew⟩:=ei
      refine ⟨v3+1+w,by rcases hw with rfl | rfl <;> omega,?_⟩
      rw [a8o cnd]
      exact Ag (ni (x:=.int (v3+1)) (y:=.int w) (ni rfl rfl rfl) ew rfl) rfl
    · have e1:(c / 77%4==1)=false:=by simpa using h
      rw [e1] at cnd
      exact ⟨v3,by omega,by rw [a5i cnd]; rfl⟩
  obtain ⟨v4,b4,s4⟩:=s4
  refine ⟨v4,b4,fun rest=>?_⟩
  rw [j4 s1,j4 s2,j4 s3,j4 s4]
end
end K
end
noncomputable section
set_option linter.all false
set_option maxRecDepth 100000
set_option autoImplicit false
namespace K
open C PySem
noncomputable section
variable {cs:List Int} {sto:List SO} {bs:List Bd} {m y:Int}
theorem a8y {k j:Nat} {A:List At} {rs:List Rw} {t:Sm} {o8 o9 o10 o11 o12 o13 o14 o15:Slot} (hb:Ye bs) (hm:2≤m) (hm2:m<2000000) (hy:y.natAbs<100) (hj:j≤10) (h:Laid j 0 A rs t) :
    ∃ A' rs' t' p8 p9 p10 p11,Laid (j+1) 0 A' rs' t'∧mB1 ⟨en cs bs m y A rs t (some (.int (k:Int),false)) o8 o9 o10 o11 o12 o13 o14 o15,sto⟩=some (.next,⟨en cs bs m y A' rs' t' (some (.int (k:Int),false)) p8 p9 p10 p11 o12 o13 o14 o15,sto⟩):=by
  have ck:=Hv (cs:=cs) (sto:=sto) (k:=5+k) (i:=5+(k:Int)) (by omega)
  generalize cell cs (5+k)=c at ck
  obtain ⟨s,hs,es⟩:=Ws (sto:=sto) (c:=c) hb
  have f0:=Int.emod_nonneg c (b:=11) (by decide)
  have f1:=Int.emod_lt_of_pos c (b:=11) (by decide)
  have hal:=h.al
  have hrl:=h.rl
  obtain ⟨v,hv,tm⟩:=a0t (cs:=cs) (sto:=sto) (m:=m) (c:=c) (f:=2+c%11) (bs:=bs) (y:=y) (A:=A) (rs:=rs) (t:=t) (o7:=some (.int (k:Int),false)) (o9:=some (smT s,false)) (o11:=o11) (o12:=o12) (o13:=o13) (o14:=o14) (o15:=o15) hm hm2 (by omega) (by omega)
  have hbv:Ah v=true:=Ai (by omega)
  have lp:=Fv (sto:=sto) (s1:=t) (s2:=s) (t:=v) Yz h.sm hs hbv
  refine ⟨A++[aR s (2+c%11)],rs++[[.i (y+((A++[aR s (2+c%11)]).length:Int) - 1),.i v]],(t.1+s.1 * v,canon U4 fun b=>gt t.2 b+gt s.2 b * v),some (.int c,false),some (smT s,false),some (.int (2+c%11),false),some (.int v,false),h.add (As:=[aR s (2+c%11)]) (fun a ha=>by rw [List.mem_singleton] at ha; rw [ha]; exact a0h hs) (.inl ⟨_,_,rfl,by rw [List.length_append,List.length_singleton]; omega,by omega⟩) (Ae nd4) (by simp; omega) (by omega),?_⟩
  unfold mB1
  rw [j4 (s':=⟨en cs bs m y A rs t (some (.int (k:Int),false)) (some (.int c,false)) o9 o10 o11 o12 o13 o14 o15,sto⟩) (Ag (qy (gw rfl (gw (ni (z:=.int (5+(k:Int))) rfl rfl rfl) rfl)) ck) rfl)]
  rw [j4 (s':=⟨en cs bs m y A rs t (some (.int (k:Int),false)) (some (.int c,false)) (some (smT s,false)) o10 o11 o12 o13 o14 o15,sto⟩) (Ag (qy (gw rfl (gw rfl rfl)) es) rfl)]
  rw [j4 (s':=⟨en cs bs m y A rs t (some (.int (k:Int),false)) (some (.int c,false)) (some (smT s,false)) (some (.int (2+c%11),false)) o11 o12 o13 o14 o15,sto⟩) (Ag (ni (y:=.int (c%11)) rfl (ni rfl rfl rfl) rfl) rfl)]
  rw [tm]
  rw [j4 (a5k (a:=aR s (2+c%11)) (by omega) rfl)]
  rw [j4 (a8j (a:=[.i (y+((A++[aR s (2+c%11)]).length:Int) - 1),.i v]) (by omega) (vd (gw (ni (x:=.int (y+((A++[aR s (2+c%11)]).length:Int))) (ni rfl a7d rfl) rfl rfl) (gw rfl rfl)) rfl))]
  exact Ag (qy (gw rfl (gw rfl (gw rfl rfl))) lp) rfl
theorem a96 {s:Sm} (h:Ig U4 s):jm [.tup [.int 0,.tup []],smT s,.int (-1)] sto=some (smT (part U4 s (-1)),sto):=Ml Yz h (by decide)
theorem a8v {k j i:Nat} {A:List At} {rs:List Rw} {t:Sm} {o8 o9 o10 o11 o12 o13 o14 o15:Slot} (hb:Ye bs) (hy:y.natAbs<100) (hj:j≤10) (hi:i≤10) (h:Laid j i A rs t) :
    ∃ A' rs' t' p8 p9,Laid j (i+1) A' rs' t'∧mB2 ⟨en cs bs m y A rs t (some (.int (k:Int),false)) o8 o9 o10 o11 o12 o13 o14 o15,sto⟩=some (.next,⟨en cs bs m y A' rs' t' (some (.int (k:Int),false)) p8 p9 o10 o11 o12 o13 o14 o15,sto⟩):=by
  have ck:=Hv (cs:=cs) (sto:=sto) (k:=9+k) (i:=9+(k:Int)) (by omega)
  generalize cell cs (9+k)=c at ck
  obtain ⟨s,hs,es⟩:=Ws (sto:=sto) (c:=c) hb
  have f0:=Int.emod_nonneg c (b:=5) (by decide)
  have f1:=Int.emod_lt_of_pos c (b:=5) (by decide)
  have hal:=h.al
  have hrl:=h.rl
  have hbv:Ah (1+c%5)=true:=Ai (by omega)
  have lp:=Fv (sto:=sto) (s1:=t) (s2:=s) (t:=1+c%5) Yz h.sm hs hbv
  have ng:=a96 (sto:=sto) hs
  have e2:A++[aT s,aT (part U4 s (-1))]=A++[aT s]++[aT (part U4 s (-1))]:=by simp
  refine ⟨A++[aT s,aT (part U4 s (-1))],rs++[[.i (y+((A++[aT s]++[aT (part U4 s (-1))]).length:Int) - 2),.i (y+((A++[aT s]++[aT (part U4 s (-1))]).length:Int) - 1),.i (1+c%5)]],(t.1+s.1 * (1+c%5),canon U4 fun b=>gt t.2 b+gt s.2 b * (1+c%5)),some (.int c,false),some (smT s,false),h.add (As:=[aT s,aT (part U4 s (-1))]) (fun a ha=>by
    simp only [List.mem_cons,List.not_mem_nil,or_false] at ha
    rcases ha with rfl | rfl
    · exact Zg hs
    · exact Zg (Ae nd4)) (.inr ⟨_,_,_,rfl,by simp only [List.length_append,List.length_singleton]; omega,by simp only [List.length_append,List.length_singleton]; omega,by omega⟩) (Ae nd4) (by simp; omega) (by omega),?_⟩
  unfold mB2
  rw [j4 (s':=⟨en cs bs m y A rs t (some (.int (k:Int),false)) (some (.int c,false)) o9 o10 o11 o12 o13 o14 o15,sto⟩) (Ag (qy (gw rfl (gw (ni (z:=.int (9+(k:Int))) rfl rfl rfl) rfl)) ck) rfl)]
  rw [j4 (s':=⟨en cs bs m y A rs t (some (.int (k:Int),false)) (some (.int c,false)) (some (smT s,false)) o10 o11 o12 o13 o14 o15,sto⟩) (Ag (qy (gw rfl (gw rfl rfl)) es) rfl)]
  rw [j4 (a5k (a:=aT s) (by omega) rfl)]
  rw [j4 (a5k (a:=aT (part U4 s (-1))) (by rw [List.length_append,List.length_singleton]; omega) (vd (gw rfl (gw (qy (gw rfl (gw rfl (gw rfl rfl))) ng) rfl)) rfl))]
  rw [j4 (a8j (a:=[.i (y+((A++[aT s]++[aT (part U4 s (-1))]).length:Int) - 2),.i (y+((A++[aT s]++[aT (part U4 s (-1))]).length:Int) - 1),.i (1+c%5)]) (by omega) (vd (gw (ni (x:=.int (y+((A++[aT s]++[aT (part U4 s (-1))]).length:Int))) (ni rfl a7d rfl) rfl rfl) (gw (ni (x:=.int (y+((A++[aT s]++[aT (part U4 s (-1))]).length:Int))) (ni rfl a7d rfl) rfl rfl) (gw (ni (y:=.int (c%5)) rfl (ni rfl rfl rfl) rfl) rfl))) rfl))]
  rw [e2]
  exact Ag (qy (gw rfl (gw rfl (gw (ni (y:=.int (c%5)) rfl (ni rfl rfl rfl) rfl) rfl))) lp) rfl
end
end K
end
noncomputable section
set_option linter.all false
set_option maxRecDepth 100000
set_option autoImplicit false
namespace K
open C PySem
noncomputable section
variable {cs:List Int} {sto:List SO} {bs:List Bd} {m y:Int}
theorem a4l:Bv=ig 16 (j9 (sNew 4 (gk (fun l=>some (.lst l)) dz))
  (j9 (sNew 5 (gk (fun l=>some (.lst l)) dz))
  (j9 (ji 6 (gk (fun l=>some (.tup l)) (aj (aq (.int 0)) (aj (gk (fun l=>some (.tup l)) dz) dz))))
  (j9 (kh (hName 7) (gj (mOp jo (mOp iw (fu j6 (aj (bh 0) (aj (aq (.int 0)) dz))) (aq (.int 3))) (aq (.int 4))))
  mB1)
  (j9 (kh (hName 7) (gj (mOp jo (mOp iw (fu j6 (aj (bh 0) (aj (aq (.int 0)) dz))) (aq (.int 12))) (aq (.int 3))))
  mB2)
  (j9 (ji 12 (mOp jo (fu j6 (aj (bh 0) (aj (aq (.int 4)) dz))) (mOp gn (gk (fun l=>some (.lst l)) (aj (bh 2) (aj (aq (.int 1)) dz))) (mOp jo (mOp iw (fu j6 (aj (bh 0) (aj (aq (.int 0)) dz))) (aq (.int 36))) (aq (.int 2))))))
  (j9 (ji 13 (gk Jl (aj (mOp eqO (mOp jo (mOp iw (fu j6 (aj (bh 0) (aj (aq (.int 0)) dz))) (aq (.int 144))) (aq (.int 3))) (aq (.int 1))) dz)))
  (j9 (ji 14 (uw 3 [13,2] (Yq 0 1 2) (Gv (mOp gn (bh 6) (aq (.int 1)))) j7 (gk (fun l=>some (.tup l)) (aj (bh 1) (aj (mOp jf (mOp lu (mOp Dm (bh 4) (mOp jf (aq (.int 1)) (mOp jo (bh 0) (aq (.int 2))))) (bh 2)) (mOp Dm (bh 3) (gk Jl (aj (mOp eqO (bh 0) (aq (.int 0))) dz)))) dz)))))
  (j9 (ji 15 (gk (fun l=>some (.tup l)) (aj (mOp lu (bh 12) (mOp gn (bh 6) (aq (.int 0)))) (aj (gk wu (aj (bh 14) dz)) dz))))
  (j9 (ji 15 (fu jm (aj (gk (fun l=>some (.tup l)) (aj (aq (.int 0)) (aj (gk (fun l=>some (.tup l)) dz) dz))) (aj (bh 15) (aj (aq (.int 1)) dz)))))
  (j9 (cj 4 (gk (fun l=>some (.tup l)) (aj (aq (.str "most")) (aj (bh 15) dz))))
  (j9 (cj 4 (gk (fun l=>some (.tup l)) (aj (aq (.str "most")) (aj (fu jm (aj (gk (fun l=>some (.tup l)) (aj (aq (.int 0)) (aj (gk (fun l=>some (.tup l)) dz) dz))) (aj (bh 15) (aj (mUn jt (aq (.int 1))) dz)))) dz))))
  (j9 (cj 5 (gk (fun l=>some (.tup l)) (aj (mOp lu (mOp jf (bh 3) (qm 4)) (aq (.int 2))) (aj (mOp lu (mOp jf (bh 3) (qm 4)) (aq (.int 1))) (aj (aq (.int 1)) dz)))))
  (j9 (cj 4 (gk (fun l=>some (.tup l)) (aj (aq (.str "rest")) (aj (fu jm (aj (gk (fun l=>some (.tup l)) (aj (aq (.int 0)) (aj (gk (fun l=>some (.tup l)) dz) dz))) (aj (bh 15) (aj (mUn jt (aq (.int 1))) dz)))) (aj (aq (.int 2)) dz)))))
  (jl (gk (fun l=>some (.tup l)) (aj (bh 4) (aj (bh 5) dz)))))))))))))))))):=rfl
noncomputable def gp (m w:Int) (x:Pr × Nat):Pr:=(x.1.1,m * (1+(x.2:Int)%2) - x.1.2+w * (if (x.2:Int)==0 then 1 else 0))
theorem a0s {A:List At} {rs:List Rw} {t:Sm} {w:Int} {o7 o8 o9 o10 o11 o12 o14 o15:Slot} (hm:Ah m=true) (hw:Ah w=true) (ht:t.2.length≤100) :
    uw 3 [13,2] (Yq 0 1 2) (Gv (mOp gn (bh 6) (aq (.int 1)))) j7 (gk (fun l=>some (.tup l)) (aj (bh 1) (aj (mOp jf (mOp lu (mOp Dm (bh 4) (mOp jf (aq (.int 1)) (mOp jo (bh 0) (aq (.int 2))))) (bh 2)) (mOp Dm (bh 3) (gk Jl (aj (mOp eqO (bh 0) (aq (.int 0))) dz)))) dz))) ⟨en cs bs m y A rs t o7 o8 o9 o10 o11 o12 (some (.int w,false)) o14 o15,sto⟩
      = some (.lst ((t.2.zipIdx.map (gp m w)).map pT),⟨en cs bs m y A rs t o7 o8 o9 o10 o11 o12 (some (.int w,false)) o14 o15,sto⟩):=by
  have lm:t.2.length<lim:=by show _<1000000; omega
  generalize hF:uw 3 _ _ _ _ _ _=q
  have it:Gv (mOp gn (bh 6) (aq (.int 1))) ⟨en cs bs m y A rs t o7 o8 o9 o10 o11 o12 (some (.int w,false)) o14 o15,sto⟩=some (t.2.zipIdx.map (fun x:Pr × Nat=>.tup [.int (x.2:Int),pT x.1]),⟨en cs bs m y A rs t o7 o8 o9 o10 o11 o12 (some (.int w,false)) o14 o15,sto⟩):=by
    have e:=ni (f:=gn) (a:=bh 6) (b:=aq (.int 1)) (s:=⟨en cs bs m y A rs t o7 o8 o9 o10 o11 o12 (some (.int w,false)) o14 o15,sto⟩) (s1:=⟨en cs bs m y A rs t o7 o8 o9 o10 o11 o12 (some (.int w,false)) o14 o15,sto⟩) (s2:=⟨en cs bs m y A rs t o7 o8 o9 o10 o11 o12 (some (.int w,false)) o14 o15,sto⟩) (x:=smT t) rfl rfl (z:=.tup (t.2.map pT)) rfl
    unfold Gv
    rw [e]
    have l2:(t.2.map pT).length<lim:=by rw [List.length_map]; exact lm
    simp only [if_pos l2,Pz]
    rw [List.zipIdx_map,List.map_map]
    rfl
  have r:=Ba hF (fun x:Pr × Nat=>.tup [.int (x.2:Int),pT x.1]) (fun x=>pT (gp m w x)) t.2.zipIdx _ _ [some (.int w,false),some (.int m,false)] it rfl rfl rfl (by rw [List.length_zipIdx]; exact Nat.le_of_lt lm) (fun x hx pre hp=>by
    match pre,hp with
    | [p0,p1,p2],_ =>
      refine ⟨[some (.int (x.2:Int),false),some (.str x.1.1,false),some (.int x.1.2,false)],rfl,rfl,rfl,?_⟩
      let E:Sta:=⟨[some (.int (x.2:Int),false),some (.str x.1.1,false),some (.int x.1.2,false),some (.int w,false),some (.int m,false)],sto⟩
      have ei:(gk Jl (aj (mOp eqO (bh 0) (aq (.int 0))) dz)) E=some (.int (if (x.2:Int)==0 then 1 else 0),E):=by
        have o:=ni (a:=bh 0) (b:=aq (.int 0)) (s:=E) (s1:=E) (s2:=E) rfl rfl (qw (a:=(x.2:Int)) (b:=0))
        cases hb:((x.2:Int)==0)
        · rw [hb] at o; exact vd (gw o rfl) rfl
        · rw [hb] at o; exact vd (gw o rfl) rfl
      exact vd (gw (s1:=E) rfl (gw (s1:=E) (ni (f:=jf) (x:=.int (m * (1+(x.2:Int)%2) - x.1.2)) (y:=.int (w * (if (x.2:Int)==0 then 1 else 0))) (ni (x:=.int (m * (1+(x.2:Int)%2))) (ni (f:=Dm) (y:=.int (1+(x.2:Int)%2)) rfl (ni (y:=.int ((x.2:Int)%2)) rfl (ni rfl rfl rfl) rfl) (by simp [Dm,hm])) rfl rfl) (ni (f:=Dm) rfl ei (by simp [Dm,hw])) rfl) rfl)) rfl)
  rw [r,List.map_map]
  rfl
theorem Zh {l:List Pr} {w:Int}:ks (l.zipIdx.map (gp m w))=ks l:=by
  unfold ks
  rw [List.map_map]
  have:((fun x:Pr=>x.1) ∘ gp m w)=(fun x:Pr × Nat=>x.1.1):=rfl
  rw [this]
  conv=>rhs; rw [← List.zipIdx_map_fst 0 l,List.map_map]
  rfl
structure Made (y:Int) (A:List At) (rs:List Rw):Prop where
  split:∃ A0 rs0 s,A=A0++[aT s,aT (part U4 s (-1)),aR (part U4 s (-1)) 2]∧rs=rs0++[[.i (y+(A0.length:Int)),.i (y+(A0.length:Int)+1),.i 1]]
  at':∀ a∈A,okL a
  al:A.length≤50
  rw:∀ r∈rs,okP r
  rl:rs.length≤50
theorem made (hb:Ye bs) (hm:2≤m) (hm2:m<2000000) (hy:0≤y) (hy2:y<100):∃ A rs,Made y A rs∧Bv [scr cs,.lst (bs.map bdT),.int m,.int y] sto=some (.tup [.lst (A.map atT),.lst (rs.map rwT)],sto):=by
  have c0:=Hv (cs:=cs) (k:=0) (i:=0) (sto:=sto) rfl
  have c4:=Hv (cs:=cs) (k:=4) (i:=4) (sto:=sto) rfl
  have hbm:Ah m=true:=Ai (by omega)
  have d0:=Int.emod_nonneg (cell cs 0 / 3) (b:=4) (by decide)
  have d1:=Int.emod_lt_of_pos (cell cs 0 / 3) (b:=4) (by decide)
  have g0:=Int.emod_nonneg (cell cs 0 / 12) (b:=3) (by decide)
  have g1:=Int.emod_lt_of_pos (cell cs 0 / 12) (b:=3) (by decide)
  rw [a4l]
  unfold ig
  rw [show ([scr cs,.lst (bs.map bdT),.int m,.int y].map (fun t=>some (t,false))++List.replicate (16 - [scr cs,.lst (bs.map bdT),.int m,.int y].length) none:List Slot)=[some (scr cs,false),some (.lst (bs.map bdT),false),some (.int m,false),some (.int y,false),none,none,none,none,none,none,none,none,none,none,none,none] from rfl]
  rw [j4 (s':=⟨[some (scr cs,false),some (.lst (bs.map bdT),false),some (.int m,false),some (.int y,false),some (.lst [],true),none,none,none,none,none,none,none,none,none,none,none],sto⟩) rfl]
  rw [j4 (s':=⟨[some (scr cs,false),some (.lst (bs.map bdT),false),some (.int m,false),some (.int y,false),some (.lst [],true),some (.lst [],true),none,none,none,none,none,none,none,none,none,none],sto⟩) rfl]
  rw [j4 (s':=⟨en cs bs m y [] [] (0,[]) none none none none none none none none none,sto⟩) rfl]
  have i1:gj (mOp jo (mOp iw (fu j6 (aj (bh 0) (aj (aq (.int 0)) dz))) (aq (.int 3))) (aq (.int 4))) ⟨en cs bs m y [] [] (0,[]) none none none none none none none none none,sto⟩=some (rangeT (cell cs 0 / 3%4).toNat,⟨en cs bs m y [] [] (0,[]) none none none none none none none none none,sto⟩):=by
    have e:=ni (f:=jo) (x:=.int (cell cs 0 / 3)) (b:=aq (.int 4)) (ni (f:=iw) (b:=aq (.int 3)) (qy (s:=⟨en cs bs m y [] [] (0,[]) none none none none none none none none none,sto⟩) (gw (a:=bh 0) (b:=aj (aq (.int 0)) dz) rfl rfl) c0) rfl rfl) rfl rfl
    have hl:(cell cs 0 / 3%4).natAbs<lim:=by show _<1000000; omega
    unfold gj
    rw [e]
    simp only [if_pos hl]
  generalize hF:forL (hName 7) mB1 (rangeT (cell cs 0 / 3%4).toNat) ⟨en cs bs m y [] [] (0,[]) none none none none none none none none none,sto⟩=r1
  obtain ⟨s',rfl,A1,rs1,t1,p7,p8,p9,p10,p11,h1,rfl⟩:=forR hF (fun k s=>∃ (A:List At) (rs:List Rw) (t:Sm) (p7 p8 p9 p10 p11:Slot),Laid k 0 A rs t∧s=⟨en cs bs m y A rs t p7 p8 p9 p10 p11 none none none none,sto⟩)
    ⟨[],[],(0,[]),none,none,none,none,none,⟨(fun _ h=>by cases h),by simp,(fun _ h=>by cases h),by simp,Tg⟩,rfl⟩ (by
      rintro k s hk ⟨A,rs,t,p7,p8,p9,p10,p11,h,rfl⟩
      obtain ⟨A',rs',t',q8,q9,q10,q11,h',e⟩:=a8y (cs:=cs) (sto:=sto) (k:=k) (o8:=p8) (o9:=p9) (o10:=p10) (o11:=p11) (o12:=none) (o13:=none) (o14:=none) (o15:=none) hb hm hm2 (show y.natAbs<100 by omega) (by omega) h
      exact ⟨_,_,rfl,e,A',rs',t',_,q8,q9,q10,q11,h',rfl⟩)
  rw [Dz i1 hF]
  have i2:gj (mOp jo (mOp iw (fu j6 (aj (bh 0) (aj (aq (.int 0)) dz))) (aq (.int 12))) (aq (.int 3))) ⟨en cs bs m y A1 rs1 t1 p7 p8 p9 p10 p11 none none none none,sto⟩=some (rangeT (cell cs 0 / 12%3).toNat,⟨en cs bs m y A1 rs1 t1 p7 p8 p9 p10 p11 none none none none,sto⟩):=by
    have e:=ni (f:=jo) (x:=.int (cell cs 0 / 12)) (b:=aq (.int 3)) (ni (f:=iw) (b:=aq (.int 12)) (qy (s:=⟨en cs bs m y A1 rs1 t1 p7 p8 p9 p10 p11 none none none none,sto⟩) (gw (a:=bh 0) (b:=aj (aq (.int 0)) dz) rfl rfl) c0) rfl rfl) rfl rfl
    have hl:(cell cs 0 / 12%3).natAbs<lim:=by show _<1000000; omega
    unfold gj
    rw [e]
    simp only [if_pos hl]
  generalize hG:forL (hName 7) mB2 (rangeT (cell cs 0 / 12%3).toNat) ⟨en cs bs m y A1 rs1 t1 p7 p8 p9 p10 p11 none none none none,sto⟩=r2
  obtain ⟨s',rfl,A2,rs2,t2,q7,q8,q9,h2,rfl⟩:=forR hG (fun k s=>∃ (A:List At) (rs:List Rw) (t:Sm) (p7 p8 p9:Slot),Laid (cell cs 0 / 3%4).toNat k A rs t∧s=⟨en cs bs m y A rs t p7 p8 p9 p10 p11 none none none none,sto⟩)
    ⟨A1,rs1,t1,p7,p8,p9,h1,rfl⟩ (by
      rintro k s hk ⟨A,rs,t,p7,p8,p9,h,rfl⟩
      obtain ⟨A',rs',t',q8,q9,h',e⟩:=a8v (cs:=cs) (sto:=sto) (m:=m) (k:=k) (o8:=p8) (o9:=p9) (o10:=p10) (o11:=p11) (o12:=none) (o13:=none) (o14:=none) (o15:=none) hb (show y.natAbs<100 by omega) (by omega) (by omega) h
      exact ⟨_,_,rfl,e,A',rs',t',_,q8,q9,h',rfl⟩)
  rw [Dz i2 hG]
  have hal:=h2.al
  have hrl:=h2.rl
  have s12:∃ v:Int,(ji 12 (mOp jo (fu j6 (aj (bh 0) (aj (aq (.int 4)) dz))) (mOp gn (gk (fun l=>some (.lst l)) (aj (bh 2) (aj (aq (.int 1)) dz))) (mOp jo (mOp iw (fu j6 (aj (bh 0) (aj (aq (.int 0)) dz))) (aq (.int 36))) (aq (.int 2)))))) ⟨en cs bs m y A2 rs2 t2 q7 q8 q9 p10 p11 none none none none,sto⟩=some (.next,⟨en cs bs m y A2 rs2 t2 q7 q8 q9 p10 p11 (some (.int v,false)) none none none,sto⟩):=by
    obtain ⟨o,ho,eo⟩:=a2n (v:=cell cs 0 / 36) (a:=m) (b:=1)
    have o0:0<o:=by rcases ho with rfl | rfl <;> omega
    refine ⟨cell cs 4%o,Ag (ni (f:=jo) (x:=.int (cell cs 4)) (y:=.int o) (qy (gw rfl (gw rfl rfl)) c4) (ni (x:=.lst [.int m,.int 1]) (y:=.int (cell cs 0 / 36%2)) rfl (ni (x:=.int (cell cs 0 / 36)) (ni (qy (gw rfl (gw rfl rfl)) c0) rfl rfl) rfl rfl) eo) (by simp [jo,o0])) rfl⟩
  obtain ⟨v,s12⟩:=s12
  rw [j4 s12]
  have s13:∃ w:Int,(w=0∨w=1)∧(ji 13 (gk Jl (aj (mOp eqO (mOp jo (mOp iw (fu j6 (aj (bh 0) (aj (aq (.int 0)) dz))) (aq (.int 144))) (aq (.int 3))) (aq (.int 1))) dz))) ⟨en cs bs m y A2 rs2 t2 q7 q8 q9 p10 p11 (some (.int v,false)) none none none,sto⟩=some (.next,⟨en cs bs m y A2 rs2 t2 q7 q8 q9 p10 p11 (some (.int v,false)) (some (.int w,false)) none none,sto⟩):=by
    have o:=ni (f:=eqO) (b:=aq (.int 1)) (ni (f:=jo) (x:=.int (cell cs 0 / 144)) (b:=aq (.int 3)) (ni (f:=iw) (b:=aq (.int 144)) (qy (s:=⟨en cs bs m y A2 rs2 t2 q7 q8 q9 p10 p11 (some (.int v,false)) none none none,sto⟩) (gw (a:=bh 0) (b:=aj (aq (.int 0)) dz) rfl rfl) c0) rfl rfl) rfl rfl) rfl (qw (a:=cell cs 0 / 144%3) (b:=1))
    cases hb':(cell cs 0 / 144%3==1)
    · rw [hb'] at o; exact ⟨0,.inl rfl,Ag (vd (gw o rfl) rfl) rfl⟩
    · rw [hb'] at o; exact ⟨1,.inr rfl,Ag (vd (gw o rfl) rfl) rfl⟩
  obtain ⟨w,hw,s13⟩:=s13
  rw [j4 s13]
  have hbw:Ah w=true:=by rcases hw with rfl | rfl <;> decide
  have gr:=a0s (cs:=cs) (sto:=sto) (bs:=bs) (m:=m) (y:=y) (A:=A2) (rs:=rs2) (t:=t2) (w:=w) (o7:=q7) (o8:=q8) (o9:=q9) (o10:=p10) (o11:=p11) (o12:=some (.int v,false)) (o14:=none) (o15:=none) hbm hbw (by have:=Gw Yz h2.sm; omega)
  rw [j4 (s':=⟨en cs bs m y A2 rs2 t2 q7 q8 q9 p10 p11 (some (.int v,false)) (some (.int w,false)) (some (.lst ((t2.2.zipIdx.map (gp m w)).map pT),false)) none,sto⟩) (Ag gr rfl)]
  generalize hG2:t2.2.zipIdx.map (gp m w)=G
  have okG:∀ n,Ig U4 (n,G):=fun n=>by
    have e:=Zh (m:=m) (w:=w) (l:=t2.2)
    rw [hG2] at e
    exact ⟨by show (ks G).Nodup; rw [e]; exact h2.sm.nd,fun b hb=>h2.sm.sub b (by rw [← e]; exact hb)⟩
  rw [j4 (s':=⟨en cs bs m y A2 rs2 t2 q7 q8 q9 p10 p11 (some (.int v,false)) (some (.int w,false)) (some (.lst (G.map pT),false)) (some (smT (v - t2.1,G),false)),sto⟩) rfl]
  have lp:=Ml (U:=U4) (sto:=sto) (s:=(v - t2.1,G)) (t:=1) Yz (okG _) (by decide)
  generalize hS:part U4 (v - t2.1,G) 1=S at lp
  have okS':Ig U4 S:=by rw [← hS]; exact Ae nd4
  rw [j4 (s':=⟨en cs bs m y A2 rs2 t2 q7 q8 q9 p10 p11 (some (.int v,false)) (some (.int w,false)) (some (.lst (G.map pT),false)) (some (smT S,false)),sto⟩) (Ag (qy (gw rfl (gw rfl (gw rfl rfl))) lp) rfl)]
  have ng:=a96 (sto:=sto) okS'
  rw [j4 (a5k (a:=aT S) (by omega) rfl)]
  rw [j4 (a5k (a:=aT (part U4 S (-1))) (by rw [List.length_append,List.length_singleton]; omega) (vd (gw rfl (gw (qy (gw rfl (gw rfl (gw rfl rfl))) ng) rfl)) rfl))]
  have ln:((A2++[aT S]++[aT (part U4 S (-1))]).length:Int)=(A2.length:Int)+2:=by simp
  rw [j4 (a8j (a:=[.i (y+(A2.length:Int)),.i (y+(A2.length:Int)+1),.i 1]) (by omega) (vd (u:=rwT [.i (y+(A2.length:Int)),.i (y+(A2.length:Int)+1),.i 1]) (gw (ni (f:=lu) (x:=.int (y+((A2++[aT S]++[aT (part U4 S (-1))]).length:Int))) (z:=.int (y+(A2.length:Int))) (ni rfl a7d rfl) rfl (by rw [ln]; simp only [lu]; congr 2; omega)) (gw (ni (f:=lu) (x:=.int (y+((A2++[aT S]++[aT (part U4 S (-1))]).length:Int))) (z:=.int (y+(A2.length:Int)+1)) (ni rfl a7d rfl) rfl (by rw [ln]; simp only [lu]; congr 2; omega)) (gw rfl rfl))) rfl))]
  rw [j4 (a5k (a:=aR (part U4 S (-1)) 2) (by simp only [List.length_append,List.length_singleton]; omega) (vd (gw rfl (gw (qy (gw rfl (gw rfl (gw rfl rfl))) ng) (gw rfl rfl))) rfl))]
  have okp:okP [.i (y+(A2.length:Int)),.i (y+(A2.length:Int)+1),.i 1]:=.inr ⟨_,_,_,rfl,by omega,by omega,by decide⟩
  refine ⟨A2++[aT S]++[aT (part U4 S (-1))]++[aR (part U4 S (-1)) 2],rs2++[[.i (y+(A2.length:Int)),.i (y+(A2.length:Int)+1),.i 1]],⟨⟨A2,rs2,S,by simp,rfl⟩,fun a ha=>?_,by simp only [List.length_append,List.length_singleton]; omega,fun r hr=>?_,by simp only [List.length_append,List.length_singleton]; omega⟩,rfl⟩
  · simp only [List.append_assoc,List.mem_append,List.mem_cons,List.not_mem_nil,or_false] at ha
    rcases ha with z | rfl | rfl | rfl
    · exact h2.at' a z
    · exact Zg okS'
    · exact Zg (Ae nd4)
    · exact a0h (Ae nd4)
  · rcases List.mem_append.mp hr with z | z
    · exact h2.rw r z
    · rw [List.mem_singleton] at z; rw [z]; exact okp
end
end K
end
noncomputable section
set_option linter.all false
set_option maxRecDepth 100000
set_option autoImplicit false
namespace K
open C PySem
noncomputable section
variable {cs:List Int} {sto:List SO} {bs:List Bd} {m y:Int} {U:List Str} {A:List At}
theorem Jv {r:Rw} (h:Lq r):∀ n∈pr r,Ah n=true:=fun n hn=>by
  unfold pr at hn
  split at hn
  · obtain ⟨d,hd,rfl⟩:=List.mem_map.mp hn
    have:=h.2 d hd
    cases d with
    | i n=>exact this
    | b k=>show Ah 0=true; decide
  · cases hn
theorem a3u {rows:List (List Int)} {l:List Int} (hl:l∈rows) (h:v8 U m A l=false):Bg U A m rows=false:=by
  have:rows.all (v8 U m A)=false:=by
    rw [List.all_eq_false]
    exact ⟨l,hl,by rw [h]; decide⟩
  unfold Bg
  rw [this]
  simp
theorem a3j:Bg U A m []=false:=by
  unfold Bg a2f cN
  simp
theorem Made.a9c {rs:List Rw} (hb:Ye bs) (h:Made y A rs):a04 U4 bs A:=⟨hb.2.2,by have:=hb.2.1; omega,fun a ha=>(h.at' a ha).1,fun a ha=>(h.at' a ha).2,by have:=h.al; omega⟩
theorem a4g {xs:List (T × List Int)} {l:List Int} (o:a04 U4 bs A) (hb:∀ x∈xs,∀ n∈x.2,Ah n=true) (hl:xs.length≤100) (h2:∀ x∈xs,PR x) (hx:l∈xs.map (·.2)) (hr:v8 U4 m (bounds bs++A) l=false) :
    oh [.lst (bs.map bdT),.lst (A.map atT),.tup [.str "rest",.int m,.tup (xs.map (·.1))]] sto=some (.bl false,sto):=by
  have:=Io (sto:=sto) (c:=.i m) (P:=.tup (xs.map (·.1))) Yz nd4 o (.inl rfl) hb hl h2
  rw [show restV U4 (bounds bs++A) (.i m) (xs.map (·.2))=Bg U4 (bounds bs++A) m (xs.map (·.2)) from rfl,a3u hx hr] at this
  exact this
noncomputable def tag (r:Rw):T × List Int:=(rwT r,pr r)
theorem Gj {rs0:List Rw} {x:T × List Int} (o:a04 U4 bs A) (h0:∀ r∈rs0,Lq r) (hl:rs0.length≤60) (hx:PR x) (hb:∀ n∈x.2,Ah n=true) (hr:v8 U4 m (bounds bs++A) x.2=false) :
    oh [.lst (bs.map bdT),.lst (A.map atT),.tup [.str "rest",.int m,.tup (rs0.map rwT++[x.1])]] sto=some (.bl false,sto):=by
  have:=a4g (sto:=sto) (m:=m) (xs:=rs0.map tag++[x]) (l:=x.2) o (fun z hz n hn=>by
    rcases List.mem_append.mp hz with hz | hz
    · obtain ⟨r,hr,rfl⟩:=List.mem_map.mp hz
      exact Jv (h0 r hr) n hn
    · rw [List.mem_singleton] at hz; subst hz; exact hb n hn) (by rw [List.length_append,List.length_map,List.length_singleton]; omega) (fun z hz=>by
    rcases List.mem_append.mp hz with hz | hz
    · obtain ⟨r,hr,rfl⟩:=List.mem_map.mp hz
      exact N8 (h0 r hr).1
    · rw [List.mem_singleton] at hz; subst hz; exact hx) (by simp) hr
  rw [List.map_append,List.map_map] at this
  exact this
theorem a8u {A0:List At} {s s':Sm} {f:Int}:isA (bounds bs++(A0++[aT s,aT s',aR s' f])) (((bounds bs).length:Int)+(A0.length:Int)+1+1) "most" = false:=by
  unfold isA
  have e:((((bounds bs).length:Int)+(A0.length:Int)+1+1)).toNat=(bounds bs++(A0++[aT s,aT s'])).length:=by simp; omega
  rw [e,show bounds bs++(A0++[aT s,aT s',aR s' f])=(bounds bs++(A0++[aT s,aT s']))++[aR s' f] by simp,List.getElem?_append_right (Nat.le_refl _),Nat.sub_self]
  have:((aR s' f).k==("most" : Str))=false:=by show (("rest" : Str)==("most" : Str))=false; decide +kernel
  simp [this]
noncomputable def fBody:S:=(sIf (fj (mOp Ge (fu oh (aj (bh 0) (aj (bh 1) (aj (bh 9) dz)))) (aq (.bl false))))
  (jl (aq (.bl false)))
  ju)
noncomputable def a0z:S:=(sIf (fj (mOp Ge (fu oh (aj (bh 10) (aj (bh 11) (aj (gk (fun l=>some (.tup l)) (aj (aq (.str "rest")) (aj (aq (.int 2)) (aj (gk (fun l=>some (.tup l)) (aj (gk (fun l=>some (.tup l)) (aj (aq (.int 2)) (aj (aq (.int 1)) dz))) (aj (bh 8) dz))) dz)))) dz)))) (aq (.bl false))))
  (jl (aq (.bl false)))
  ju)
theorem Wf:Ad=ig 12 (j9 (sGo (lq [4,5,6]) (mOp gn (bh 3) (mUn jt (aq (.int 1)))))
  (j9 (sNew 7 (gk (fun l=>some (.lst l)) (aj (gk (fun l=>some (.tup l)) (aj (aq (.str "rest")) (aj (bh 2) (aj (gk Ek (aj (bh 3) dz)) dz)))) (aj (gk (fun l=>some (.tup l)) (aj (aq (.str "rest")) (aj (bh 2) (aj (gk wu (aj (bh 3) dz)) (aj (gk (fun l=>some (.tup l)) dz) dz))))) dz))))
  (j9 (cj 7 (gk (fun l=>some (.tup l)) (aj (aq (.str "rest")) (aj (bh 2) (aj (gk wu (aj (mOp jf (qb (bh 3) wg (ur (mUn jt (aq (.int 1))))) (gk (fun l=>some (.lst l)) (aj (gk (fun l=>some (.lst l)) (aj (bh 4) (aj (bh 5) (aj (bh 6) dz)))) dz))) dz)) dz)))))
  (j9 (kh (hName 8) (jw (gk (fun l=>some (.lst l)) (aj (gk (fun l=>some (.tup l)) (aj (bh 4) (aj (mOp jf (bh 5) (aq (.int 1))) (aj (bh 6) dz)))) (aj (gk (fun l=>some (.tup l)) (aj (mOp jf (bh 5) (aq (.int 1))) (aj (bh 4) (aj (mUn jt (bh 6)) dz)))) (aj (gk (fun l=>some (.tup l)) (aj (bh 4) (aj (bh 5) (aj (aq (.int 0)) dz)))) dz)))))
  (cj 7 (gk (fun l=>some (.tup l)) (aj (aq (.str "rest")) (aj (bh 2) (aj (gk wu (aj (mOp jf (qb (bh 3) wg (ur (mUn jt (aq (.int 1))))) (gk (fun l=>some (.lst l)) (aj (bh 8) dz))) dz)) dz))))))
  (j9 (kh (hName 9) (jw (bh 7))
  fBody)
  (j9 (ji 10 (gk (fun l=>some (.lst l)) (aj (gk (fun l=>some (.tup l)) (aj (aq (.str "x")) (aj (mOp gn (mOp gn (bh 0) (aq (.int 0))) (aq (.int 1))) (aj (mOp gn (mOp gn (bh 0) (aq (.int 0))) (aq (.int 1))) dz)))) dz)))
  (j9 (ji 11 (gk (fun l=>some (.lst l)) (aj (gk (fun l=>some (.tup l)) (aj (aq (.str "rest")) (aj (gk (fun l=>some (.tup l)) (aj (aq (.int 1)) (aj (gk (fun l=>some (.tup l)) dz) dz))) (aj (aq (.int 2)) dz)))) dz)))
  (j9 (sIf (fj (mOp Ge (fu oh (aj (bh 10) (aj (bh 11) (aj (gk (fun l=>some (.tup l)) (aj (aq (.str "rest")) (aj (aq (.int 2)) (aj (gk (fun l=>some (.tup l)) (aj (gk (fun l=>some (.tup l)) (aj (aq (.int 2)) (aj (aq (.int 1)) dz))) (aj (gk (fun l=>some (.tup l)) (aj (aq (.int 0)) (aj (aq (.int 1)) (aj (aq (.int 2)) dz)))) dz))) dz)))) dz)))) (aq (.bl true))))
  (jl (aq (.bl false)))
  ju)
  (j9 (kh (hName 8) (jw (gk (fun l=>some (.lst l)) (aj (gk (fun l=>some (.tup l)) (aj (aq (.bl false)) (aj (aq (.int 1)) (aj (aq (.int 2)) dz)))) (aj (gk (fun l=>some (.tup l)) (aj (aq (.int 0)) (aj (aq (.bl true)) (aj (aq (.int 2)) dz)))) dz))))
  a0z)
  (jl (aq (.bl true)))))))))))):=rfl
noncomputable abbrev fe (bs:List Bd) (A:List At) (m:Int) (rs:List Rw) (o4 o5 o6 o7 o8 o9 o10 o11:Slot):List Slot:=[some (.lst (bs.map bdT),false),some (.lst (A.map atT),false),some (.int m,false),some (.lst (rs.map rwT),false),o4,o5,o6,o7,o8,o9,o10,o11]
theorem a1x {rs:List Rw} {o4 o5 o6 o7 o8 o10 o11:Slot}:∀ (ps:List T) (o9:Slot),(∀ p∈ps,oh [.lst (bs.map bdT),.lst (A.map atT),p] sto=some (.bl false,sto)) →
    ∃ o9',forL (hName 9) fBody ps ⟨fe bs A m rs o4 o5 o6 o7 o8 o9 o10 o11,sto⟩=some (.next,⟨fe bs A m rs o4 o5 o6 o7 o8 o9' o10 o11,sto⟩)
  | [],o9,_=>⟨o9,by simp [forL]⟩
  | p::ps,o9,h=>by
    have h1:=h p List.mem_cons_self
    obtain ⟨o',e⟩:=a1x ps (some (p,false)) fun q hq=>h q (List.mem_cons_of_mem _ hq)
    refine ⟨o',?_⟩
    rw [forL]
    have st:fBody ⟨fe bs A m rs o4 o5 o6 o7 o8 (some (p,false)) o10 o11,sto⟩=some (.next,⟨fe bs A m rs o4 o5 o6 o7 o8 (some (p,false)) o10 o11,sto⟩):=by
      unfold fBody
      rw [a5i (s1:=⟨fe bs A m rs o4 o5 o6 o7 o8 (some (p,false)) o10 o11,sto⟩) (Et (ni (qy (gw rfl (gw rfl (gw rfl rfl))) h1) rfl rfl))]
      rfl
    dsimp only [hName,cg,List.set_cons_succ,List.set_cons_zero]
    rw [st]
    exact e
noncomputable def bs1 (lo:Int):List Bd:=[("x",lo,lo)]
noncomputable def A1:List At:=[aR (1,[]) 2]
theorem ok1 {lo:Int}:a04 U4 (bs1 lo) A1:=⟨fun r hr=>by
    rw [bs1,List.mem_singleton] at hr; subst hr; show (Str.ofString "x")∈U4; decide,by simp [bs1],fun a ha=>by
    rw [A1,List.mem_singleton] at ha; subst ha; exact (a0h Tg).1,fun a ha=>by
    rw [A1,List.mem_singleton] at ha; subst ha; exact (a0h (f:=2) (Tg (n:=1))).2,by simp [A1]⟩
theorem a9t {lo:Int}:Bg U4 (bounds (bs1 lo)++A1) 2 [[2,1],[0,1,2]]=true:=by
  have eA:bounds (bs1 lo)++A1=[aL "x" lo,aM "x" lo,aR (1,[]) 2]:=rfl
  rw [eA]
  have r1:v8 U4 2 [aL "x" lo,aM "x" lo,aR (1,[]) 2] [2,1]=true:=by
    have:isA [aL "x" lo,aM "x" lo,aR (1,[]) 2] 2 "rest" = true:=by
      show (decide ((0:Int)≤2)&&(("rest" : Str)==("rest" : Str)))=true
      decide +kernel
    show (isA [aL "x" lo,aM "x" lo,aR (1,[]) 2] 2 "rest" && (((1:Int) != 0)&&((1:Int) * fac (aR (1,[]) 2)%2==0)))=true
    rw [this]; decide
  have r2:v8 U4 2 [aL "x" lo,aM "x" lo,aR (1,[]) 2] [0,1,2]=true:=by
    have i0:isA [aL "x" lo,aM "x" lo,aR (1,[]) 2] 0 "most" = true:=by
      show (decide ((0:Int)≤0)&&(("most" : Str)==("most" : Str)))=true
      decide +kernel
    have i1:isA [aL "x" lo,aM "x" lo,aR (1,[]) 2] 1 "most" = true:=by
      show (decide ((0:Int)≤1)&&(("most" : Str)==("most" : Str)))=true
      decide +kernel
    have z:zr U4 (lo,[("x",-1)]) (-lo,[("x",1)])=true:=by
      unfold zr
      have e:canon U4 (fun b=>gt [("x",-1)] b+gt [("x",1)] b)=[]:=by
        rw [G7 (g:=fun _=>0) fun b _=>by unfold gt; by_cases h:Str.ofString "x" = b <;> simp [h,gt]]
        simp [canon]
      dsimp only
      rw [e]
      simp [Int.add_right_neg]
    show (isA [aL "x" lo,aM "x" lo,aR (1,[]) 2] 0 "most" && (isA [aL "x" lo,aM "x" lo,aR (1,[]) 2] 1 "most" && (zr U4 (lo,[("x",-1)]) (-lo,[("x",1)])&&((2:Int) != 0))))=true
    rw [i0,i1,z]; decide
  have g:([[2,1],[0,1,2]]:List (List Int)).map (gv [aL "x" lo,aM "x" lo,aR (1,[]) 2])=([((1,[]),1),((lo,[("x",-1)]),2)]:List (Sm × Int)):=rfl
  unfold Bg
  rw [g]
  simp only [List.all_cons,List.all_nil,r1,r2]
  have f1:a2f 2 (cN [((1,[]),1),((lo,[(("x" : Str),-1)]),2)],canon U4 (cF [((1,[]),1),((lo,[(("x" : Str),-1)]),2)]))=true:=by
    unfold a2f
    have a:(cN [((1,[]),1),((lo,[(("x" : Str),-1)]),2)]%2 != 0)=true:=by
      simp only [cN,List.map_cons,List.map_nil,List.sum_cons,List.sum_nil,bne_iff_ne,ne_eq]
      omega
    dsimp only
    rw [a,Bool.true_and,List.all_eq_true]
    intro p hp
    unfold canon at hp
    obtain ⟨b,_,rfl⟩:=List.mem_map.mp hp
    simp only [cF,List.map_cons,List.map_nil,List.sum_cons,List.sum_nil,gt,beq_iff_eq]
    omega
  rw [f1]
  decide
theorem let1 {lo:Int}:oh [.lst ((bs1 lo).map bdT),.lst (A1.map atT),.tup [.str "rest",.int 2,.tup [rwT [.i 2,.i 1],rwT [.i 0,.i 1,.i 2]]]] sto=some (.bl true,sto):=by
  have r2:Lq [.i 2,.i 1]:=⟨by simp,fun d hd=>by
    simp only [List.mem_cons,List.not_mem_nil,or_false] at hd
    rcases hd with rfl | rfl <;> exact Ai (by decide)⟩
  have r3:Lq [.i 0,.i 1,.i 2]:=⟨by simp,fun d hd=>by
    simp only [List.mem_cons,List.not_mem_nil,or_false] at hd
    rcases hd with rfl | rfl | rfl <;> exact Ai (by decide)⟩
  have:=Io (sto:=sto) (c:=.i 2) (xs:=[tag [.i 2,.i 1],tag [.i 0,.i 1,.i 2]]) (P:=.tup [rwT [.i 2,.i 1],rwT [.i 0,.i 1,.i 2]]) Yz nd4 (ok1 (lo:=lo)) (.inl rfl) (fun x hx=>by
    simp only [List.mem_cons,List.not_mem_nil,or_false] at hx -- here
    rcases hx with rfl | rfl
    · exact Jv r2
    · exact Jv r3) (by simp) (fun x hx=>by
    simp only [List.mem_cons,List.not_mem_nil,or_false] at hx -- here
    rcases hx with rfl | rfl
    · exact N8 r2.1
    · exact N8 r3.1)
  rw [show restV U4 (bounds (bs1 lo)++A1) (.i 2) ([tag [.i 2,.i 1],tag [.i 0,.i 1,.i 2]].map (·.2))=Bg U4 (bounds (bs1 lo)++A1) 2 [[2,1],[0,1,2]] from rfl,a9t] at this
  exact this
theorem a87 {lo:Int} {r:Rw} (h:Lq r) (hp:pr r=[]):oh [.lst ((bs1 lo).map bdT),.lst (A1.map atT),.tup [.str "rest",.int 2,.tup [rwT [.i 2,.i 1],rwT r]]] sto=some (.bl false,sto):=by
  have r2:Lq [.i 2,.i 1]:=⟨by simp,fun d hd=>by
    simp only [List.mem_cons,List.not_mem_nil,or_false] at hd
    rcases hd with rfl | rfl <;> exact Ai (by decide)⟩
  exact Gj (m:=2) (rs0:=[[.i 2,.i 1]]) (x:=tag r) ok1 (fun q hq=>by rw [List.mem_singleton] at hq; subst hq; exact r2) (by simp) (N8 h.1) (Jv h) (by show v8 _ _ _ (pr r)=false; rw [hp]; rfl)
end
end K
end
noncomputable section
set_option linter.all false
set_option maxRecDepth 100000
set_option autoImplicit false
namespace K
open C PySem
noncomputable section
variable {cs:List Int} {sto:List SO} {bs:List Bd} {m y:Int} {A:List At} {rs:List Rw}
theorem Lh {L:List T} {t:T}:gn (.lst (L++[t])) (.int (-1))=some t:=by
  have h2:ixI (L.length+1) (-1)=some L.length:=by
    unfold ixI
    rw [if_neg (by decide),if_pos (by omega)]
    congr 1
    omega
  simp only [gn,List.length_append,List.length_singleton,h2,Option.bind_some,List.getElem?_append_right (Nat.le_refl _),Nat.sub_self,List.getElem?_cons_zero]
theorem a74 {g:G} {e:M T} {s s1 s2:Sta} {t:T} (h:e s=some (t,s1)) (hg:g t s1=some s2):sGo g e s=some (.next,s2):=by
  unfold sGo; rw [h]; dsimp only; rw [hg]
theorem a07 {L:List T} {t:T}:Wk none (some (-1)) (.lst (L++[t]))=some (.lst L):=by
  unfold Wk Ym
  have h0:sIx (L++[t]).length 0 none=0:=rfl
  have h1:sIx (L++[t]).length (L++[t]).length (some (-1))=L.length:=by
    simp only [sIx,List.length_append,List.length_singleton]
    rw [if_pos (by decide)]
    omega
  simp only [h0,h1,List.drop_zero,Nat.sub_zero,List.take_left']
theorem a2r {L:List T} {t:T} {s:Sta} {i:Nat} (h:bh i s=some (.lst (L++[t]),s)):qb (bh i) wg (ur (mUn jt (aq (.int 1)))) s=some (.lst L,s):=by
  unfold qb
  rw [h]
  dsimp only [wg,ur,mUn,aq,jt]
  rw [a07]
theorem add_l {a b:List T} (h:a.length+b.length<1000):jf (.lst a) (.lst b)=some (.lst (a++b)):=by
  have:a.length+b.length<lim:=by show _<1000000; omega
  simp only [jf,if_pos this]
theorem a75 (hb:Ye bs) (h:Made ((bounds bs).length) A rs):Ad [.lst (bs.map bdT),.lst (A.map atT),.int m,.lst (rs.map rwT)] sto=some (.bl true,sto):=by
  have ok:=h.a9c hb
  have hrl:=h.rl
  obtain ⟨A0,rs0,s,eA,eR⟩:=h.split
  have hn:((bounds bs).length:Int)+(A0.length:Int)<1000:=by
    have h1:=h.al
    have h2:=Az bs
    have h3:=hb.2.1
    rw [eA,List.length_append] at h1
    omega
  have kr:=a8u (bs:=bs) (A0:=A0) (s:=s) (s':=part U4 s (-1)) (f:=2)
  rw [← eA] at kr
  generalize hN:((bounds bs).length:Int)+(A0.length:Int)=n at eR hn kr
  have n0:0≤n:=by omega
  have h0:∀ r∈rs0,Lq r:=fun r hr=>(h.rw r (by rw [eR]; exact List.mem_append_left _ hr)).rw
  have hl0:rs0.length≤60:=by rw [eR,List.length_append] at hrl; omega
  have er:rs.map rwT=rs0.map rwT++[rwT [.i n,.i (n+1),.i 1]]:=by rw [eR,List.map_append]; rfl
  have r4:Lq [.i n,.i (n+1+1),.i 1]:=⟨by simp,fun d hd=>by
    simp only [List.mem_cons,List.not_mem_nil,or_false] at hd
    rcases hd with rfl | rfl | rfl <;> exact Ai (by omega)⟩
  have r5:Lq [.i (n+1+1),.i n,.i (-1)]:=⟨by simp,fun d hd=>by
    simp only [List.mem_cons,List.not_mem_nil,or_false] at hd
    rcases hd with rfl | rfl | rfl <;> exact Ai (by omega)⟩
  have r6:Lq [.i n,.i (n+1),.i 0]:=⟨by simp,fun d hd=>by
    simp only [List.mem_cons,List.not_mem_nil,or_false] at hd
    rcases hd with rfl | rfl | rfl <;> exact Ai (by omega)⟩
  let P (x:T):T:=.tup [.str "rest",.int m,.tup (rs0.map rwT++[x])]
  have p1:oh [.lst (bs.map bdT),.lst (A.map atT),.tup [.str "rest",.int m,.lst (rs.map rwT)]] sto=some (.bl false,sto):=by
    have:=Io (sto:=sto) (c:=.i m) (xs:=[]) (P:=.lst (rs.map rwT)) Yz nd4 ok (.inr ⟨⟨_,rfl⟩,rfl⟩) (fun _ h=>by cases h) (by simp) (fun _ h=>by cases h)
    rw [show restV U4 (bounds bs++A) (.i m) (([]:List (T × List Int)).map (·.2))=Bg U4 (bounds bs++A) m [] from rfl,a3j] at this
    exact this
  have p2:oh [.lst (bs.map bdT),.lst (A.map atT),.tup [.str "rest",.int m,.tup (rs.map rwT),.tup []]] sto=some (.bl false,sto):=a0y ok
  have p3:oh [.lst (bs.map bdT),.lst (A.map atT),P (.lst [.int n,.int (n+1),.int 1])] sto=some (.bl false,sto):=Gj (x:=(.lst [.int n,.int (n+1),.int 1],[])) ok h0 hl0 a6t (fun _ h=>by cases h) rfl
  have p4:oh [.lst (bs.map bdT),.lst (A.map atT),P (rwT [.i n,.i (n+1+1),.i 1])] sto=some (.bl false,sto):=Gj (x:=tag [.i n,.i (n+1+1),.i 1]) ok h0 hl0 (N8 r4.1) (Jv r4) (by
    show (isA _ n "most" && (isA _ (n+1+1) "most" && _))=false
    rw [kr]; simp)
  have p5:oh [.lst (bs.map bdT),.lst (A.map atT),P (rwT [.i (n+1+1),.i n,.i (-1)])] sto=some (.bl false,sto):=Gj (x:=tag [.i (n+1+1),.i n,.i (-1)]) ok h0 hl0 (N8 r5.1) (Jv r5) (by
    show (isA _ (n+1+1) "most" && _)=false
    rw [kr]; rfl)
  have p6:oh [.lst (bs.map bdT),.lst (A.map atT),P (rwT [.i n,.i (n+1),.i 0])] sto=some (.bl false,sto):=Gj (x:=tag [.i n,.i (n+1),.i 0]) ok h0 hl0 (N8 r6.1) (Jv r6) (by
    show (isA _ n "most" && (isA _ (n+1) "most" && (_&&((0:Int) != 0))))=false
    simp)
  have hadd:∀ x:T,jf (.lst (rs0.map rwT)) (.lst [x])=some (.lst (rs0.map rwT++[x])):=fun x=>add_l (by rw [List.length_map,List.length_singleton]; omega)
  obtain ⟨lo,hi,b0,bs',eb⟩:∃ lo hi b0 bs',bs=(b0,lo,hi)::bs':=by
    match bs,hb.1 with
    | (b0,lo,hi)::bs',_=>exact ⟨lo,hi,b0,bs',rfl⟩
  rw [Wf]
  unfold ig
  rw [show ([T.lst (bs.map bdT),.lst (A.map atT),.int m,.lst (rs.map rwT)].map (fun t=>some (t,false))++List.replicate (12 - [T.lst (bs.map bdT),.lst (A.map atT),.int m,.lst (rs.map rwT)].length) none:List Slot)=fe bs A m rs none none none none none none none none from rfl]
  rw [j4 (s':=⟨fe bs A m rs (some (.int n,false)) (some (.int (n+1),false)) (some (.int 1,false)) none none none none none,sto⟩) (a74 (t:=rwT [.i n,.i (n+1),.i 1]) (s1:=⟨fe bs A m rs none none none none none none none none,sto⟩) (ni (x:=.lst (rs.map rwT)) (y:=.int (-1)) rfl rfl (by rw [er]; exact Lh)) (a09 (i:=4) (j:=5) (k:=6)))]
  rw [j4 (s':=⟨fe bs A m rs (some (.int n,false)) (some (.int (n+1),false)) (some (.int 1,false)) (some (.lst [.tup [.str "rest",.int m,.lst (rs.map rwT)],.tup [.str "rest",.int m,.tup (rs.map rwT),.tup []]],true)) none none none none,sto⟩) rfl]
  have mv:∀ {o4 o5 o6 o7 o8 o9 o10 o11:Slot},bh 3 ⟨fe bs A m rs o4 o5 o6 o7 o8 o9 o10 o11,sto⟩=some (.lst (rs0.map rwT++[rwT [.i n,.i (n+1),.i 1]]),⟨fe bs A m rs o4 o5 o6 o7 o8 o9 o10 o11,sto⟩):=by
    intros; rw [← er]; rfl
  have paper:∀ {x:T} {e:M T} {o4 o5 o6 o7 o8 o9 o10 o11:Slot},e ⟨fe bs A m rs o4 o5 o6 o7 o8 o9 o10 o11,sto⟩=some (x,⟨fe bs A m rs o4 o5 o6 o7 o8 o9 o10 o11,sto⟩)→(gk (fun l=>some (.tup l)) (aj (aq (.str "rest")) (aj (bh 2) (aj (gk wu (aj (mOp jf (qb (bh 3) wg (ur (mUn jt (aq (.int 1))))) (gk (fun l=>some (.lst l)) (aj e dz))) dz)) dz)))) ⟨fe bs A m rs o4 o5 o6 o7 o8 o9 o10 o11,sto⟩=some (P x,⟨fe bs A m rs o4 o5 o6 o7 o8 o9 o10 o11,sto⟩):=fun {x e o4 o5 o6 o7 o8 o9 o10 o11} he =>
    vd (gw rfl (gw rfl (gw (vd (gw (ni (a2r mv) (vd (gw he rfl) rfl) (hadd x)) rfl) rfl) rfl))) rfl
  have app7:∀ {x:T} {e:M T} {L:List T} {o4 o5 o6 o8 o9 o10 o11:Slot},L.length≤10→e ⟨fe bs A m rs o4 o5 o6 (some (.lst L,true)) o8 o9 o10 o11,sto⟩=some (x,⟨fe bs A m rs o4 o5 o6 (some (.lst L,true)) o8 o9 o10 o11,sto⟩)→cj 7 e ⟨fe bs A m rs o4 o5 o6 (some (.lst L,true)) o8 o9 o10 o11,sto⟩=some (.next,⟨fe bs A m rs o4 o5 o6 (some (.lst (L++[x]),true)) o8 o9 o10 o11,sto⟩):=fun {x e L o4 o5 o6 o8 o9 o10 o11} hL he=>by
    rw [Yr rfl he rfl (by show _<1000000; omega)]; rfl
  rw [j4 (app7 (by simp) (paper (x:=.lst [.int n,.int (n+1),.int 1]) rfl))]
  have it:(jw (gk (fun l=>some (.lst l)) (aj (gk (fun l=>some (.tup l)) (aj (bh 4) (aj (mOp jf (bh 5) (aq (.int 1))) (aj (bh 6) dz)))) (aj (gk (fun l=>some (.tup l)) (aj (mOp jf (bh 5) (aq (.int 1))) (aj (bh 4) (aj (mUn jt (bh 6)) dz)))) (aj (gk (fun l=>some (.tup l)) (aj (bh 4) (aj (bh 5) (aj (aq (.int 0)) dz)))) dz))))) ⟨fe bs A m rs (some (.int n,false)) (some (.int (n+1),false)) (some (.int 1,false)) (some (.lst ([.tup [.str "rest",.int m,.lst (rs.map rwT)],.tup [.str "rest",.int m,.tup (rs.map rwT),.tup []]]++[P (.lst [.int n,.int (n+1),.int 1])]),true)) none none none none,sto⟩=some ([rwT [.i n,.i (n+1+1),.i 1],rwT [.i (n+1+1),.i n,.i (-1)],rwT [.i n,.i (n+1),.i 0]],⟨fe bs A m rs (some (.int n,false)) (some (.int (n+1),false)) (some (.int 1,false)) (some (.lst ([.tup [.str "rest",.int m,.lst (rs.map rwT)],.tup [.str "rest",.int m,.tup (rs.map rwT),.tup []]]++[P (.lst [.int n,.int (n+1),.int 1])]),true)) none none none none,sto⟩):=rfl
  have lo8:forL (hName 8) (cj 7 (gk (fun l=>some (.tup l)) (aj (aq (.str "rest")) (aj (bh 2) (aj (gk wu (aj (mOp jf (qb (bh 3) wg (ur (mUn jt (aq (.int 1))))) (gk (fun l=>some (.lst l)) (aj (bh 8) dz))) dz)) dz))))) [rwT [.i n,.i (n+1+1),.i 1],rwT [.i (n+1+1),.i n,.i (-1)],rwT [.i n,.i (n+1),.i 0]] ⟨fe bs A m rs (some (.int n,false)) (some (.int (n+1),false)) (some (.int 1,false)) (some (.lst ([.tup [.str "rest",.int m,.lst (rs.map rwT)],.tup [.str "rest",.int m,.tup (rs.map rwT),.tup []]]++[P (.lst [.int n,.int (n+1),.int 1])]),true)) none none none none,sto⟩=some (.next,⟨fe bs A m rs (some (.int n,false)) (some (.int (n+1),false)) (some (.int 1,false)) (some (.lst ([.tup [.str "rest",.int m,.lst (rs.map rwT)],.tup [.str "rest",.int m,.tup (rs.map rwT),.tup []]]++[P (.lst [.int n,.int (n+1),.int 1])]++[P (rwT [.i n,.i (n+1+1),.i 1])]++[P (rwT [.i (n+1+1),.i n,.i (-1)])]++[P (rwT [.i n,.i (n+1),.i 0])]),true)) (some (rwT [.i n,.i (n+1),.i 0],false)) none none none,sto⟩):=by
    rw [forL]
    dsimp only [hName,cg,List.set_cons_succ,List.set_cons_zero]
    rw [app7 (by simp) (paper (x:=rwT [.i n,.i (n+1+1),.i 1]) rfl)]
    dsimp only
    rw [forL]
    dsimp only [hName,cg,List.set_cons_succ,List.set_cons_zero]
    rw [app7 (by simp) (paper (x:=rwT [.i (n+1+1),.i n,.i (-1)]) rfl)]
    dsimp only
    rw [forL]
    dsimp only [hName,cg,List.set_cons_succ,List.set_cons_zero]
    rw [app7 (by simp) (paper (x:=rwT [.i n,.i (n+1),.i 0]) rfl)]
    rfl
  rw [Dz it lo8]
  generalize hP:([.tup [.str "rest",.int m,.lst (rs.map rwT)],.tup [.str "rest",.int m,.tup (rs.map rwT),.tup []]]++[P (.lst [.int n,.int (n+1),.int 1])]++[P (rwT [.i n,.i (n+1+1),.i 1])]++[P (rwT [.i (n+1+1),.i n,.i (-1)])]++[P (rwT [.i n,.i (n+1),.i 0])]:List T)=PS
  have pall:∀ p∈PS,oh [.lst (bs.map bdT),.lst (A.map atT),p] sto=some (.bl false,sto):=fun p hp=>by
    rw [← hP] at hp
    simp only [List.cons_append,List.nil_append,List.append_assoc,List.mem_cons,List.not_mem_nil,or_false] at hp
    rcases hp with rfl | rfl | rfl | rfl | rfl | rfl
    · exact p1
    · exact p2
    · exact p3
    · exact p4
    · exact p5
    · exact p6
  have lPS:PS.length<lim:=by rw [← hP]; show _<1000000; simp
  have it9:jw (bh 7) ⟨fe bs A m rs (some (.int n,false)) (some (.int (n+1),false)) (some (.int 1,false)) (some (.lst PS,true)) (some (rwT [.i n,.i (n+1),.i 0],false)) none none none,sto⟩=some (PS,⟨fe bs A m rs (some (.int n,false)) (some (.int (n+1),false)) (some (.int 1,false)) (some (.lst PS,false)) (some (rwT [.i n,.i (n+1),.i 0],false)) none none none,sto⟩):=by simp [ig,j9,sIf,ji,sNew,jl,ju,sNx,dw,sGo,dg,kh,cj,dj,jc,fj,m7,lg,mOr,j5,mIf,mOp,mUn,bh,gk,aj,dz,aq,jd,fu,cg,hName,lq,gj,jw,ltT,leT,jz,jf,lu,jo,iw,jt,mj,j8,j7,bw,m8,lPS]
  obtain ⟨o9,lo9⟩:=a1x (bs:=bs) (A:=A) (m:=m) (rs:=rs) (sto:=sto) (o4:=some (.int n,false)) (o5:=some (.int (n+1),false)) (o6:=some (.int 1,false)) (o7:=some (.lst PS,false)) (o8:=some (rwT [.i n,.i (n+1),.i 0],false)) (o10:=none) (o11:=none) PS none pall
  rw [Dz it9 lo9]
  have s10:∀ {o4 o5 o6 o7 o8 o9 o10 o11:Slot},(ji 10 (gk (fun l=>some (.lst l)) (aj (gk (fun l=>some (.tup l)) (aj (aq (.str "x")) (aj (mOp gn (mOp gn (bh 0) (aq (.int 0))) (aq (.int 1))) (aj (mOp gn (mOp gn (bh 0) (aq (.int 0))) (aq (.int 1))) dz)))) dz))) ⟨fe bs A m rs o4 o5 o6 o7 o8 o9 o10 o11,sto⟩=some (.next,⟨fe bs A m rs o4 o5 o6 o7 o8 o9 (some (.lst ((bs1 lo).map bdT),false)) o11,sto⟩):=by
    intros
    have i0:gn (.lst (bs.map bdT)) (.int 0)=some (bdT (b0,lo,hi)):=by
      rw [eb]
      exact Hg (k:=0) rfl
    have g:=fun {o4 o5 o6 o7 o8 o9 o10 o11:Slot}=>ni (f:=gn) (b:=aq (.int 1)) (z:=.int lo) (ni (f:=gn) (a:=bh 0) (b:=aq (.int 0)) (s:=⟨fe bs A m rs o4 o5 o6 o7 o8 o9 o10 o11,sto⟩) (s1:=⟨fe bs A m rs o4 o5 o6 o7 o8 o9 o10 o11,sto⟩) (s2:=⟨fe bs A m rs o4 o5 o6 o7 o8 o9 o10 o11,sto⟩) rfl rfl i0) rfl rfl
    exact Ag (vd (gw (vd (gw rfl (gw g (gw g rfl))) rfl) rfl) rfl) rfl
  rw [j4 s10]
  rw [j4 (s':=⟨fe bs A m rs (some (.int n,false)) (some (.int (n+1),false)) (some (.int 1,false)) (some (.lst PS,false)) (some (rwT [.i n,.i (n+1),.i 0],false)) o9 (some (.lst ((bs1 lo).map bdT),false)) (some (.lst (A1.map atT),false)),sto⟩) rfl]
  have l1:=let1 (sto:=sto) (lo:=lo)
  have iff1:=a5i (a:=jl (aq (.bl false))) (b:=ju) (Et (ni (f:=Ge) (b:=aq (.bl true)) (qy (F:=oh) (s:=⟨fe bs A m rs (some (.int n,false)) (some (.int (n+1),false)) (some (.int 1,false)) (some (.lst PS,false)) (some (rwT [.i n,.i (n+1),.i 0],false)) o9 (some (.lst ((bs1 lo).map bdT),false)) (some (.lst (A1.map atT),false)),sto⟩) (gw (a:=bh 10) rfl (gw (a:=bh 11) rfl (gw (a:=(gk (fun l=>some (.tup l)) (aj (aq (.str "rest")) (aj (aq (.int 2)) (aj (gk (fun l=>some (.tup l)) (aj (gk (fun l=>some (.tup l)) (aj (aq (.int 2)) (aj (aq (.int 1)) dz))) (aj (gk (fun l=>some (.tup l)) (aj (aq (.int 0)) (aj (aq (.int 1)) (aj (aq (.int 2)) dz)))) dz))) dz))))) (b:=dz) rfl rfl))) l1) rfl rfl))
  rw [j4 (iff1.trans rfl)]
  have rb1:Lq [.b false,.i 1,.i 2]:=⟨by simp,fun d hd=>by
    simp only [List.mem_cons,List.not_mem_nil,or_false] at hd
    rcases hd with rfl | rfl | rfl
    · trivial
    · exact Ai (by decide)
    · exact Ai (by decide)⟩
  have rb2:Lq [.i 0,.b true,.i 2]:=⟨by simp,fun d hd=>by
    simp only [List.mem_cons,List.not_mem_nil,or_false] at hd
    rcases hd with rfl | rfl | rfl
    · exact Ai (by decide)
    · trivial
    · exact Ai (by decide)⟩
  have gst:∀ {r:Rw} {o4 o5 o6 o7 o9:Slot},Lq r→pr r=[]→a0z ⟨fe bs A m rs o4 o5 o6 o7 (some (rwT r,false)) o9 (some (.lst ((bs1 lo).map bdT),false)) (some (.lst (A1.map atT),false)),sto⟩=some (.next,⟨fe bs A m rs o4 o5 o6 o7 (some (rwT r,false)) o9 (some (.lst ((bs1 lo).map bdT),false)) (some (.lst (A1.map atT),false)),sto⟩):=fun {r o4 o5 o6 o7 o9} h1 h2=>by
    have l2:=a87 (sto:=sto) (lo:=lo) h1 h2
    unfold a0z
    rw [a5i (s1:=⟨fe bs A m rs o4 o5 o6 o7 (some (rwT r,false)) o9 (some (.lst ((bs1 lo).map bdT),false)) (some (.lst (A1.map atT),false)),sto⟩) (Et (ni (qy (gw rfl (gw rfl (gw rfl rfl))) l2) rfl rfl))]
    rfl
  have it8:(jw (gk (fun l=>some (.lst l)) (aj (gk (fun l=>some (.tup l)) (aj (aq (.bl false)) (aj (aq (.int 1)) (aj (aq (.int 2)) dz)))) (aj (gk (fun l=>some (.tup l)) (aj (aq (.int 0)) (aj (aq (.bl true)) (aj (aq (.int 2)) dz)))) dz)))) ⟨fe bs A m rs (some (.int n,false)) (some (.int (n+1),false)) (some (.int 1,false)) (some (.lst PS,false)) (some (rwT [.i n,.i (n+1),.i 0],false)) o9 (some (.lst ((bs1 lo).map bdT),false)) (some (.lst (A1.map atT),false)),sto⟩=some ([rwT [.b false,.i 1,.i 2],rwT [.i 0,.b true,.i 2]],⟨fe bs A m rs (some (.int n,false)) (some (.int (n+1),false)) (some (.int 1,false)) (some (.lst PS,false)) (some (rwT [.i n,.i (n+1),.i 0],false)) o9 (some (.lst ((bs1 lo).map bdT),false)) (some (.lst (A1.map atT),false)),sto⟩):=rfl
  have lo8b:forL (hName 8) a0z [rwT [.b false,.i 1,.i 2],rwT [.i 0,.b true,.i 2]] ⟨fe bs A m rs (some (.int n,false)) (some (.int (n+1),false)) (some (.int 1,false)) (some (.lst PS,false)) (some (rwT [.i n,.i (n+1),.i 0],false)) o9 (some (.lst ((bs1 lo).map bdT),false)) (some (.lst (A1.map atT),false)),sto⟩=some (.next,⟨fe bs A m rs (some (.int n,false)) (some (.int (n+1),false)) (some (.int 1,false)) (some (.lst PS,false)) (some (rwT [.i 0,.b true,.i 2],false)) o9 (some (.lst ((bs1 lo).map bdT),false)) (some (.lst (A1.map atT),false)),sto⟩):=by
    rw [forL]
    dsimp only [hName,cg,List.set_cons_succ,List.set_cons_zero]
    rw [gst rb1 rfl]
    dsimp only
    rw [forL]
    dsimp only [hName,cg,List.set_cons_succ,List.set_cons_zero]
    rw [gst rb2 rfl]
    rfl
  rw [Dz it8 lo8b]
  rfl
end
end K
end
noncomputable section
set_option linter.all false
set_option maxRecDepth 100000
set_option autoImplicit false
namespace K
open C PySem
noncomputable abbrev lB1:S:=(j9 (cj 4 (gk (fun l=>some (.tup l)) (aj (aq (.str "most")) (aj (gk (fun l=>some (.tup l)) (aj (bh 6) (aj (gk (fun l=>some (.tup l)) (aj (gk (fun l=>some (.tup l)) (aj (bh 5) (aj (mUn jt (aq (.int 1))) dz))) dz)) dz))) dz))))
  (cj 4 (gk (fun l=>some (.tup l)) (aj (aq (.str "most")) (aj (gk (fun l=>some (.tup l)) (aj (mUn jt (bh 7)) (aj (gk (fun l=>some (.tup l)) (aj (gk (fun l=>some (.tup l)) (aj (bh 5) (aj (aq (.int 1)) dz))) dz)) dz))) dz)))))
noncomputable abbrev lB2:S:=(sIf (m7 (fj (fu ou (aj (bh 2) (aj (bh 8) (aj (bh 4) (aj (bh 10) (aj (bh 9) dz))))))))
  (jl (aq (.bl false)))
  ju)
noncomputable abbrev lB3:S:=(j9 (ji 12 (mOp jo (mOp iw (bh 11) (aq (.int 15))) (gk jz (aj (bh 9) dz))))
  (j9 (ji 13 (mOp jf (mOp jf (qb (bh 9) wg (ur (bh 12))) (gk (fun l=>some (.lst l)) (aj (fu wk (aj (mOp gn (bh 9) (bh 12)) (aj (bh 11) (aj (mOp jf (qm 4) (gk jz (aj (bh 8) dz))) dz)))) dz))) (qb (bh 9) (ur (mOp jf (bh 12) (aq (.int 1)))) wg)))
  (sIf (m7 (fj (fu ou (aj (bh 2) (aj (bh 8) (aj (bh 4) (aj (bh 3) (aj (bh 13) dz))))))))
  (jl (aq (.bl false)))
  ju)))
theorem a6q:Vt=ig 15 (j9 (ji 1 (fu j6 (aj (bh 0) (aj (aq (.int 0)) dz))))
  (j9 (ji 2 (fu Bk (aj (bh 0) dz)))
  (j9 (ji 3 (mOp jf (aq (.int 2)) (mOp jo (mOp iw (fu j6 (aj (bh 0) (aj (aq (.int 4)) dz))) (aq (.int 7))) (mOp gn (gk (fun l=>some (.lst l)) (aj (aq (.int 11)) (aj (mOp Pn (aq (.int 10)) (aq (.int 6))) dz))) (mOp jo (mOp iw (bh 1) (aq (.int 72))) (aq (.int 2)))))))
  (j9 (sNew 4 (gk (fun l=>some (.lst l)) dz))
  (j9 (kh (lq [5,6,7]) (jw (bh 2))
  lB1)
  (j9 (sGo (lq [8,9]) (fu Bv (aj (bh 0) (aj (bh 2) (aj (bh 3) (aj (qm 4) dz))))))
  (j9 (sIf (m7 (fj (fu ou (aj (bh 2) (aj (bh 8) (aj (bh 4) (aj (bh 3) (aj (bh 9) dz))))))))
  (jl (aq (.bl false)))
  ju)
  (j9 (kh (hName 10) (jw (gk (fun l=>some (.lst l)) (aj (mOp jf (bh 3) (aq (.int 1))) (aj (aq (.int 1)) (aj (aq (.int 0)) (aj (mUn jt (bh 3)) (aj (aq (.bl true)) (aj (mOp Dm (aq (.int 2)) (bh 3)) (aj (aq (.int 2)) dz)))))))))
  lB2)
  (j9 (kh (hName 11) (jw (qb (bh 0) (ur (aq (.int 12))) (ur (aq (.int 50)))))
  lB3)
  (j9 (sIf (m7 (fj (fu Ad (aj (bh 2) (aj (bh 8) (aj (bh 3) (aj (bh 9) dz)))))))
  (jl (aq (.bl false)))
  ju)
  (j9 (ji 14 (mOp jf (qb (mOp gn (bh 9) (mUn jt (aq (.int 1)))) wg (ur (mUn jt (aq (.int 1))))) (gk (fun l=>some (.tup l)) (aj (aq (.int 0)) dz))))
  (jl (j5 (lg (fj (fu ou (aj (bh 2) (aj (bh 8) (aj (bh 4) (aj (bh 3) (aj (mOp jf (bh 9) (gk (fun l=>some (.lst l)) (aj (bh 14) dz))) dz))))))) (fj (fu ou (aj (bh 2) (aj (bh 8) (aj (bh 4) (aj (bh 3) (aj (gk (fun l=>some (.lst l)) dz) dz))))))))))))))))))))):=rfl
noncomputable section
variable {cs:List Int} {sto:List SO} {bs:List Bd} {m:Int} {A:List At} {rs:List Rw}
noncomputable abbrev le (cs:List Int) (bs:List Bd) (m:Int) (f:Bool) (A:List At) (rs:List Rw) (o5 o6 o7 o10 o11 o12 o13 o14:Slot):List Slot:=[some (scr cs,false),some (.int (cell cs 0),false),some (.lst (bs.map bdT),false),some (.int m,false),some (.lst ((bounds bs).map atT),f),o5,o6,o7,some (.lst (A.map atT),false),some (.lst (rs.map rwT),false),o10,o11,o12,o13,o14]
theorem Vd (hl:bs.length≤100):∃ o5 o6 o7,forL (lq [5,6,7]) lB1 (bs.map bdT) ⟨[some (scr cs,false),some (.int (cell cs 0),false),some (.lst (bs.map bdT),false),some (.int m,false),some (.lst [],true),none,none,none,none,none,none,none,none,none,none],sto⟩=some (.next,⟨[some (scr cs,false),some (.int (cell cs 0),false),some (.lst (bs.map bdT),false),some (.int m,false),some (.lst ((bounds bs).map atT),true),o5,o6,o7,none,none,none,none,none,none,none],sto⟩):=by
  generalize hF:forL (lq [5,6,7]) lB1 _ _=r
  obtain ⟨s',rfl,P⟩:=Rh hF (fun ts s=>∃ (l done:List Bd) (o5 o6 o7:Slot),ts=l.map bdT∧bs=done++l∧s=⟨[some (scr cs,false),some (.int (cell cs 0),false),some (.lst (bs.map bdT),false),some (.int m,false),some (.lst ((bounds done).map atT),true),o5,o6,o7,none,none,none,none,none,none,none],sto⟩)
    ⟨bs,[],none,none,none,rfl,rfl,rfl⟩ (by
      rintro t r s ⟨l,done,o5,o6,o7,e1,e2,rfl⟩
      cases l with
      | nil=>cases e1
      | cons x l =>
        cases e1
        have ld:done.length+l.length+1=bs.length:=by rw [e2]; simp; omega
        have hd:=Az done
        have lt:(bounds done).length<lim:=by show _<1000000; omega
        have lt1:(bounds done).length+1<lim:=by show _<1000000; omega
        refine ⟨_,⟨[some (scr cs,false),some (.int (cell cs 0),false),some (.lst (bs.map bdT),false),some (.int m,false),some (.lst ((bounds (done++[x])).map atT),true),some (.str x.1,false),some (.int x.2.1,false),some (.int x.2.2,false),none,none,none,none,none,none,none],sto⟩,by rw [bdT,a09],?_,l,done++[x],_,_,_,rfl,by rw [e2]; simp,rfl⟩
        rw [Kr]
        simp [ig,j9,sIf,ji,sNew,jl,ju,sNx,dw,sGo,dg,kh,cj,dj,jc,fj,m7,lg,mOr,j5,mIf,mOp,mUn,bh,gk,aj,dz,aq,jd,fu,cg,hName,lq,gj,jw,ltT,leT,jz,jf,lu,jo,iw,jt,mj,j8,j7,bw,m8,lt,lt1,atT,aL,aM,smT,pT])
  obtain ⟨l,done,o5,o6,o7,e1,e2,rfl⟩:=P
  cases l with
  | cons _ _=>cases e1
  | nil =>
    rw [List.append_nil] at e2
    subst e2
    exact ⟨o5,o6,o7,rfl⟩
theorem O8 {c:Cl} {rs':List Rw} (hb:Ye bs) (h:Made ((bounds bs).length) A rs) (hr:∀ r∈rs',Lq r) (hl:rs'.length≤100):ou [.lst (bs.map bdT),.lst (A.map atT),.lst ((bounds bs).map atT),clT c,.lst (rs'.map rwT)] sto=some (.bl true,sto) :=
  asked Yz nd4 (h.a9c hb) (fun r h'=>(hr r h').2) hl (fun r h'=>(hr r h').1)
theorem T6 {e:M T} {s s1:Sta} (h:e s=some (.bl true,s1)):sIf (m7 (fj e)) (jl (aq (.bl false))) ju s=some (.next,s1):=by
  unfold sIf m7 fj
  rw [h]
  rfl
theorem U3 {o5 o6 o7 o11 o12 o13 o14:Slot} (hb:Ye bs) (h:Made ((bounds bs).length) A rs):∀ (l:List Cl) (o10:Slot),∃ o,forL (hName 10) lB2 (l.map clT) ⟨le cs bs m false A rs o5 o6 o7 o10 o11 o12 o13 o14,sto⟩=some (.next,⟨le cs bs m false A rs o5 o6 o7 o o11 o12 o13 o14,sto⟩)
  | [],o10=>⟨o10,by simp [forL]⟩
  | c::l,o10=>by
    obtain ⟨o,e⟩:=U3 hb h l (some (clT c,false))
    refine ⟨o,?_⟩
    have ak:=O8 (sto:=sto) (c:=c) (rs':=rs) hb h (fun r hr=>(h.rw r hr).rw) (by have:=h.rl; omega)
    have st:lB2 ⟨le cs bs m false A rs o5 o6 o7 (some (clT c,false)) o11 o12 o13 o14,sto⟩=some (.next,⟨le cs bs m false A rs o5 o6 o7 (some (clT c,false)) o11 o12 o13 o14,sto⟩):=T6 (qy (gw rfl (gw rfl (gw rfl (gw rfl (gw rfl rfl))))) ak)
    rw [List.map_cons,forL]
    dsimp only [hName,cg,List.set_cons_succ,List.set_cons_zero]
    rw [st]
    exact e
theorem a6h {L:List T} {k:Nat} (h:k≤L.length):Wk none (some (k:Int)) (.lst L)=some (.lst (L.take k)):=by
  unfold Wk Ym
  have h0:sIx L.length 0 none=0:=rfl
  have h1:sIx L.length L.length (some (k:Int))=k:=by
    simp only [sIx]
    rw [if_neg (by omega)]
    omega
  simp only [h0,h1,List.drop_zero,Nat.sub_zero]
theorem U5 {L:List T} {k:Nat} (h:k≤L.length):Wk (some (k:Int)) none (.lst L)=some (.lst (L.drop k)):=by
  unfold Wk Ym
  have h1:sIx L.length 0 (some (k:Int))=k:=by
    simp only [sIx]
    rw [if_neg (by omega)]
    omega
  have h2:sIx L.length L.length none=L.length:=rfl
  simp only [h1,h2]
  rw [List.take_of_length_le (by rw [List.length_drop]; exact Nat.le_refl _)]
theorem a6u {c:Int} {o5 o6 o7 o10 o12 o13 o14:Slot} (hb:Ye bs) (h:Made ((bounds bs).length) A rs):∃ p12 p13,lB3 ⟨le cs bs m false A rs o5 o6 o7 o10 (some (.int c,false)) o12 o13 o14,sto⟩=some (.next,⟨le cs bs m false A rs o5 o6 o7 o10 (some (.int c,false)) p12 p13 o14,sto⟩):=by
  have hrl:=h.rl
  have hpos:0<rs.length:=by
    obtain ⟨_,rs0,_,_,e⟩:=h.split
    rw [e,List.length_append,List.length_singleton]; omega
  have a0:=Int.emod_nonneg (c / 15) (b:=(rs.length:Int)) (by omega)
  have a1:=Int.emod_lt_of_pos (c / 15) (b:=(rs.length:Int)) (by omega)
  obtain ⟨k,ek⟩:∃ k:Nat,c / 15%(rs.length:Int)=(k:Int):=⟨(c / 15%(rs.length:Int)).toNat,by omega⟩
  have hk:k<rs.length:=by omega
  have hal:=h.al
  have hbl:=Az bs
  have hb3:=hb.2.1
  obtain ⟨r',okr,er⟩:=a9q (sto:=sto) (r:=rs[k]) (c:=c) (y:=((bounds bs).length:Int)+(A.length:Int)) (h.rw _ (List.getElem_mem hk)) (by omega)
  have ia:gn (.lst (rs.map rwT)) (.int (k:Int))=some (rwT rs[k]):=Hg (by rw [List.getElem?_map,List.getElem?_eq_getElem hk]; rfl)
  let E (p12 p13:Slot):Sta:=⟨le cs bs m false A rs o5 o6 o7 o10 (some (.int c,false)) p12 p13 o14,sto⟩
  have s12:(ji 12 (mOp jo (mOp iw (bh 11) (aq (.int 15))) (gk jz (aj (bh 9) dz)))) (E o12 o13)=some (.next,E (some (.int (k:Int),false)) o13):=by
    have hp:(0:Int)<(rs.length:Int):=by omega
    refine Ag (ni (x:=.int (c / 15)) (y:=.int (rs.length:Int)) (ni rfl rfl rfl) (vd (gw rfl rfl) (by simp [jz])) ?_) rfl
    simp only [jo,if_pos hp,ek]
  have t1:qb (bh 9) wg (ur (bh 12)) (E (some (.int (k:Int),false)) o13)=some (.lst ((rs.take k).map rwT),E (some (.int (k:Int),false)) o13):=by
    have:=a6h (L:=rs.map rwT) (k:=k) (by rw [List.length_map]; omega)
    rw [List.map_take]
    unfold qb
    rw [show bh 9 (E (some (.int (k:Int),false)) o13)=some (.lst (rs.map rwT),E (some (.int (k:Int),false)) o13) from rfl]
    dsimp only [wg]
    rw [show ur (bh 12) (E (some (.int (k:Int),false)) o13)=some (some (k:Int),E (some (.int (k:Int),false)) o13) from rfl]
    dsimp only
    rw [this]
  have t2:qb (bh 9) (ur (mOp jf (bh 12) (aq (.int 1)))) wg (E (some (.int (k:Int),false)) o13)=some (.lst ((rs.drop (k+1)).map rwT),E (some (.int (k:Int),false)) o13):=by
    have:=U5 (L:=rs.map rwT) (k:=k+1) (by rw [List.length_map]; omega)
    rw [List.map_drop]
    unfold qb
    rw [show bh 9 (E (some (.int (k:Int),false)) o13)=some (.lst (rs.map rwT),E (some (.int (k:Int),false)) o13) from rfl]
    dsimp only [wg]
    rw [show ur (mOp jf (bh 12) (aq (.int 1))) (E (some (.int (k:Int),false)) o13)=some (some ((k+1:Nat):Int),E (some (.int (k:Int),false)) o13) from rfl]
    dsimp only
    rw [this]
  have ol:qm 4 (E (some (.int (k:Int),false)) o13)=some (.int ((bounds bs).length:Int),E (some (.int (k:Int),false)) o13):=by
    simp [qm,E]
  have s13:(ji 13 (mOp jf (mOp jf (qb (bh 9) wg (ur (bh 12))) (gk (fun l=>some (.lst l)) (aj (fu wk (aj (mOp gn (bh 9) (bh 12)) (aj (bh 11) (aj (mOp jf (qm 4) (gk jz (aj (bh 8) dz))) dz)))) dz))) (qb (bh 9) (ur (mOp jf (bh 12) (aq (.int 1)))) wg))) (E (some (.int (k:Int),false)) o13)=some (.next,E (some (.int (k:Int),false)) (some (.lst ((rs.take k++[r']++rs.drop (k+1)).map rwT),false))):=by
    refine Ag (t:=.lst ((rs.take k++[r']++rs.drop (k+1)).map rwT)) (ni (f:=jf) (x:=.lst ((rs.take k).map rwT++[rwT r'])) (ni t1 (vd (gw (qy (gw (ni rfl rfl ia) (gw rfl (gw (ni (f:=jf) (y:=.int (A.length:Int)) ol (vd (gw rfl rfl) (by simp [jz])) rfl) rfl))) er) rfl) rfl) (add_l (by simp only [List.length_map,List.length_take,List.length_singleton]; omega))) t2 ?_) rfl
    rw [add_l (by simp only [List.length_append,List.length_map,List.length_take,List.length_drop,List.length_singleton]; omega)]
    simp
  have ak:=O8 (sto:=sto) (c:=.i m) (rs':=rs.take k++[r']++rs.drop (k+1)) hb h (fun r hr=>by
    rcases List.mem_append.mp hr with hr | hr
    · rcases List.mem_append.mp hr with hr | hr
      · exact (h.rw r (List.mem_of_mem_take hr)).rw
      · rw [List.mem_singleton] at hr; rw [hr]; exact okr
    · exact (h.rw r (List.mem_of_mem_drop hr)).rw) (by simp only [List.length_append,List.length_take,List.length_drop,List.length_singleton]; omega)
  refine ⟨some (.int (k:Int),false),some (.lst ((rs.take k++[r']++rs.drop (k+1)).map rwT),false),?_⟩
  unfold lB3
  rw [j4 s12,j4 s13]
  exact T6 (qy (gw rfl (gw rfl (gw rfl (gw rfl (gw rfl rfl))))) ak)
theorem Ul {o5 o6 o7 o10 o14:Slot} (hb:Ye bs) (h:Made ((bounds bs).length) A rs):∀ (l:List Int) (o11 o12 o13:Slot),∃ p11 p12 p13,forL (hName 11) lB3 (l.map T.int) ⟨le cs bs m false A rs o5 o6 o7 o10 o11 o12 o13 o14,sto⟩=some (.next,⟨le cs bs m false A rs o5 o6 o7 o10 p11 p12 p13 o14,sto⟩)
  | [],o11,o12,o13=>⟨o11,o12,o13,by simp [forL]⟩
  | c::l,o11,o12,o13=>by
    obtain ⟨p12,p13,st⟩:=a6u (cs:=cs) (sto:=sto) (m:=m) (c:=c) (o5:=o5) (o6:=o6) (o7:=o7) (o10:=o10) (o12:=o12) (o13:=o13) (o14:=o14) hb h
    obtain ⟨a,b,d,e⟩:=Ul hb h l (some (.int c,false)) p12 p13
    refine ⟨a,b,d,?_⟩
    rw [List.map_cons,forL]
    dsimp only [hName,cg,List.set_cons_succ,List.set_cons_zero]
    rw [st]
    exact e
theorem a0o:Vt [scr cs] sto=some (.bl true,sto):=by
  have c0:=Hv (cs:=cs) (k:=0) (i:=0) (sto:=sto) rfl
  have c4:=Hv (cs:=cs) (k:=4) (i:=4) (sto:=sto) rfl
  obtain ⟨bs,hb,eb⟩:=Z6 (cs:=cs)
  have hb3:=hb.2.1
  rw [a6q]
  unfold ig
  rw [show ([scr cs].map (fun t=>some (t,false))++List.replicate (15 - [scr cs].length) none:List Slot)=[some (scr cs,false),none,none,none,none,none,none,none,none,none,none,none,none,none,none] from rfl]
  rw [j4 (s':=⟨[some (scr cs,false),some (.int (cell cs 0),false),none,none,none,none,none,none,none,none,none,none,none,none,none],sto⟩) (Ag (qy (gw rfl (gw rfl rfl)) c0) rfl)]
  rw [j4 (s':=⟨[some (scr cs,false),some (.int (cell cs 0),false),some (.lst (bs.map bdT),false),none,none,none,none,none,none,none,none,none,none,none,none],sto⟩) (Ag (qy (gw rfl rfl) (eb sto)) rfl)]
  obtain ⟨o,ho,eo⟩:=a2n (v:=cell cs 0 / 72) (a:=11) (b:=1000000)
  have o0:0<o:=by rcases ho with rfl | rfl <;> decide
  have g0:=Int.emod_nonneg (cell cs 4 / 7) (b:=o) (by omega)
  have g1:=Int.emod_lt_of_pos (cell cs 4 / 7) o0
  have hm:2≤2+cell cs 4 / 7%o:=by omega
  have hm2:2+cell cs 4 / 7%o<2000000:=by rcases ho with rfl | rfl <;> omega
  rw [j4 (s':=⟨[some (scr cs,false),some (.int (cell cs 0),false),some (.lst (bs.map bdT),false),some (.int (2+cell cs 4 / 7%o),false),none,none,none,none,none,none,none,none,none,none,none],sto⟩) (Ag (ni (f:=jf) (y:=.int (cell cs 4 / 7%o)) rfl (ni (f:=jo) (x:=.int (cell cs 4 / 7)) (y:=.int o) (ni (qy (gw rfl (gw rfl rfl)) c4) rfl rfl) (ni (x:=.lst [.int 11,.int 1000000]) (y:=.int (cell cs 0 / 72%2)) (vd (gw rfl (gw (ni rfl rfl p6) rfl)) rfl) (ni (x:=.int (cell cs 0 / 72)) (ni rfl rfl rfl) rfl rfl) eo) (by simp [jo,o0])) rfl) rfl)]
  generalize 2+cell cs 4 / 7%o=m at *
  rw [j4 (s':=⟨[some (scr cs,false),some (.int (cell cs 0),false),some (.lst (bs.map bdT),false),some (.int m,false),some (.lst [],true),none,none,none,none,none,none,none,none,none,none],sto⟩) rfl]
  obtain ⟨o5,o6,o7,lb⟩:=Vd (cs:=cs) (sto:=sto) (bs:=bs) (m:=m) (by omega)
  have lbs:bs.length<lim:=by show _<1000000; omega
  rw [Dz (s1:=⟨[some (scr cs,false),some (.int (cell cs 0),false),some (.lst (bs.map bdT),false),some (.int m,false),some (.lst [],true),none,none,none,none,none,none,none,none,none,none],sto⟩) (by simp [ig,j9,sIf,ji,sNew,jl,ju,sNx,dw,sGo,dg,kh,cj,dj,jc,fj,m7,lg,mOr,j5,mIf,mOp,mUn,bh,gk,aj,dz,aq,jd,fu,cg,hName,lq,gj,jw,ltT,leT,jz,jf,lu,jo,iw,jt,mj,j8,j7,bw,m8,lbs]) lb]
  obtain ⟨A,rs,h,em⟩:=made (cs:=cs) (sto:=sto) (bs:=bs) (m:=m) (y:=((bounds bs).length:Int)) hb hm hm2 (by omega) (by rw [Az]; omega)
  rw [j4 (s':=⟨le cs bs m true A rs o5 o6 o7 none none none none none,sto⟩) (a74 (s1:=⟨[some (scr cs,false),some (.int (cell cs 0),false),some (.lst (bs.map bdT),false),some (.int m,false),some (.lst ((bounds bs).map atT),true),o5,o6,o7,none,none,none,none,none,none,none],sto⟩) (qy (gw rfl (gw rfl (gw rfl (gw (x:=.int ((bounds bs).length:Int)) (by simp [qm]) rfl)))) em) a3s)]
  have hrl:=h.rl
  have okr:∀ r∈rs,Lq r:=fun r hr=>(h.rw r hr).rw
  have ak:=O8 (sto:=sto) (c:=.i m) (rs':=rs) hb h okr (by omega)
  rw [j4 (s':=⟨le cs bs m false A rs o5 o6 o7 none none none none none,sto⟩) (T6 (qy (s1:=⟨le cs bs m false A rs o5 o6 o7 none none none none none,sto⟩) (gw rfl (gw rfl (gw (s1:=⟨le cs bs m false A rs o5 o6 o7 none none none none none,sto⟩) rfl (gw rfl (gw rfl rfl))))) ak))]
  have b2:Ah 2=true:=by decide
  obtain ⟨o10,l2⟩:=U3 (cs:=cs) (sto:=sto) (m:=m) (o5:=o5) (o6:=o6) (o7:=o7) (o11:=none) (o12:=none) (o13:=none) (o14:=none) hb h [.i (m+1),.i 1,.i 0,.i (-m),.b true,.i (2 * m),.i 2] none
  rw [Dz (s1:=⟨le cs bs m false A rs o5 o6 o7 none none none none none,sto⟩) (by simp [ig,j9,sIf,ji,sNew,jl,ju,sNx,dw,sGo,dg,kh,cj,dj,jc,fj,m7,lg,mOr,j5,mIf,mOp,mUn,bh,gk,aj,dz,aq,jd,fu,cg,hName,lq,gj,jw,ltT,leT,jz,jf,lu,jo,iw,jt,mj,j8,j7,bw,m8,Dm,b2,lim,clT]) l2]
  obtain ⟨ds,ed⟩:∃ ds:List Int,Ym (cs.map T.int) (some 12) (some 50)=ds.map T.int:=⟨_,by unfold Ym; rw [← List.map_drop,← List.map_take]⟩
  have dl:ds.length<lim:=by
    have e1:(Ym (cs.map T.int) (some 12) (some 50)).length≤50:=by
      unfold Ym
      refine Nat.le_trans (List.length_take_le _ _) ?_
      simp only [sIx]
      rw [if_neg (by decide),if_neg (by decide)]
      omega
    rw [ed,List.length_map] at e1
    show _<1000000
    omega
  obtain ⟨p11,p12,p13,l3⟩:=Ul (cs:=cs) (sto:=sto) (m:=m) (o5:=o5) (o6:=o6) (o7:=o7) (o10:=o10) (o14:=none) hb h ds none none none
  have i3:jw (qb (bh 0) (ur (aq (.int 12))) (ur (aq (.int 50)))) ⟨le cs bs m false A rs o5 o6 o7 o10 none none none none,sto⟩=some (ds.map T.int,⟨le cs bs m false A rs o5 o6 o7 o10 none none none none,sto⟩):=by
    have e:qb (bh 0) (ur (aq (.int 12))) (ur (aq (.int 50))) ⟨le cs bs m false A rs o5 o6 o7 o10 none none none none,sto⟩=some (.lst (ds.map T.int),⟨le cs bs m false A rs o5 o6 o7 o10 none none none none,sto⟩):=by rw [← ed]; rfl
    unfold jw
    rw [e]
    have:(ds.map T.int).length<lim:=by rw [List.length_map]; exact dl
    simp [this,dl]
  rw [Dz i3 l3]
  have fg:=a75 (sto:=sto) (m:=m) hb h
  rw [j4 (T6 (qy (s1:=⟨le cs bs m false A rs o5 o6 o7 o10 p11 p12 p13 none,sto⟩) (gw rfl (gw rfl (gw rfl (gw rfl rfl)))) fg))]
  obtain ⟨A0,rs0,s,eA,eR⟩:=h.split
  have hal:=h.al
  have hbl:=Az bs
  have hA0:A0.length≤50:=by rw [eA,List.length_append] at hal; omega
  generalize hN:((bounds bs).length:Int)+(A0.length:Int)=n at eR
  have er:rs.map rwT=rs0.map rwT++[rwT [.i n,.i (n+1),.i 1]]:=by rw [eR,List.map_append]; rfl
  have i9:gn (.lst (rs.map rwT)) (.int (-1))=some (rwT [.i n,.i (n+1),.i 1]):=by rw [er]; exact Lh
  have s14:(ji 14 (mOp jf (qb (mOp gn (bh 9) (mUn jt (aq (.int 1)))) wg (ur (mUn jt (aq (.int 1))))) (gk (fun l=>some (.tup l)) (aj (aq (.int 0)) dz)))) ⟨le cs bs m false A rs o5 o6 o7 o10 p11 p12 p13 none,sto⟩=some (.next,⟨le cs bs m false A rs o5 o6 o7 o10 p11 p12 p13 (some (rwT [.i n,.i (n+1),.i 0],false)),sto⟩):=by
    have e:=ni (f:=gn) (a:=bh 9) (b:=mUn jt (aq (.int 1))) (s:=⟨le cs bs m false A rs o5 o6 o7 o10 p11 p12 p13 none,sto⟩) (s1:=⟨le cs bs m false A rs o5 o6 o7 o10 p11 p12 p13 none,sto⟩) (s2:=⟨le cs bs m false A rs o5 o6 o7 o10 p11 p12 p13 none,sto⟩) rfl rfl i9
    have e2:qb (mOp gn (bh 9) (mUn jt (aq (.int 1)))) wg (ur (mUn jt (aq (.int 1)))) ⟨le cs bs m false A rs o5 o6 o7 o10 p11 p12 p13 none,sto⟩=some (.tup [.int n,.int (n+1)],⟨le cs bs m false A rs o5 o6 o7 o10 p11 p12 p13 none,sto⟩):=by
      unfold qb
      rw [e]
      rfl
    exact Ag (ni e2 rfl rfl) rfl
  rw [j4 s14]
  have r0:Lq [.i n,.i (n+1),.i 0]:=⟨by simp,fun d hd=>by
    simp only [List.mem_cons,List.not_mem_nil,or_false] at hd
    rcases hd with rfl | rfl | rfl <;> exact Ai (by omega)⟩
  have k1:=O8 (sto:=sto) (c:=.i m) (rs':=rs++[[.i n,.i (n+1),.i 0]]) hb h (fun r hr=>by
    rcases List.mem_append.mp hr with hr | hr
    · exact okr r hr
    · rw [List.mem_singleton] at hr; rw [hr]; exact r0) (by rw [List.length_append,List.length_singleton]; omega)
  have k2:=O8 (sto:=sto) (c:=.i m) (rs':=[]) hb h (fun r hr=>by cases hr) (by simp)
  rw [List.map_append] at k1
  have ad:jf (.lst (rs.map rwT)) (.lst [rwT [.i n,.i (n+1),.i 0]])=some (.lst (rs.map rwT++[[.i n,.i (n+1),.i 0]].map rwT)):=add_l (by rw [List.length_map,List.length_singleton]; omega)
  have a1:=Et (qy (F:=ou) (s:=⟨le cs bs m false A rs o5 o6 o7 o10 p11 p12 p13 (some (rwT [.i n,.i (n+1),.i 0],false)),sto⟩) (s1:=⟨le cs bs m false A rs o5 o6 o7 o10 p11 p12 p13 (some (rwT [.i n,.i (n+1),.i 0],false)),sto⟩) (gw (a:=bh 2) rfl (gw (a:=bh 8) rfl (gw (a:=bh 4) rfl (gw (a:=bh 3) rfl (gw (a:=mOp jf (bh 9) (gk (fun l=>some (.lst l)) (aj (bh 14) dz))) (b:=dz) (ni rfl rfl ad) rfl))))) k1)
  have a2:=Et (qy (F:=ou) (s:=⟨le cs bs m false A rs o5 o6 o7 o10 p11 p12 p13 (some (rwT [.i n,.i (n+1),.i 0],false)),sto⟩) (s1:=⟨le cs bs m false A rs o5 o6 o7 o10 p11 p12 p13 (some (rwT [.i n,.i (n+1),.i 0],false)),sto⟩) (gw (a:=bh 2) rfl (gw (a:=bh 8) rfl (gw (a:=bh 4) rfl (gw (a:=bh 3) rfl (gw (a:=gk (fun l=>some (.lst l)) dz) (b:=dz) rfl rfl))))) k2)
  unfold jl j5 lg
  rw [a1]
  dsimp only
  rw [a2]
end
end K
end
noncomputable section
set_option linter.all false
set_option maxRecDepth 100000
set_option maxHeartbeats 1000000
namespace D
open PySem L2 C
noncomputable def top (i:Nat):Stmt:=PySem.Challenge.pw_calm_k46_rest_papers.main.body.getD i (.Pass ⟨0,0,0,0⟩)
noncomputable section
variable {P:Program} {w:World} {K:PySem.W.Frag} {mg:Str→Option Value} {base:Heap} {f:Addr} {fd:FuncData}
noncomputable abbrev Eb:Stmt:=top 1
theorem Np:nq ["number","pairs","times","box","many","parts"] ["number","pairs"] (iz Eb):=⟨rfl,rfl,rfl,by decide +kernel,rfl,by decide +kernel,by decide +kernel⟩
theorem W9 (F:Fun K "sum_of" "sum_of" Eb f fd) (b_sorted:mg "sorted" = none) (b_tuple:mg "tuple" = none):Ce P w K mg base CX0 1 f fd ["number","pairs"] (spF K (["number","pairs"]:List Str).length _root_.K.Ca):=by
  refine qe (N:=["number","pairs","times","box","many","parts"]) F Np (by decide)  fun cdv A outer s H E B hr=>?_
  have hu:=zx hr
  have hq:=hr.units
  have nd:(["number","pairs","times","box","many","parts"]:List Str).Nodup:=Np.nd
  refine gq ?_ ?_
  · exact Dt 2 (m6 nd rfl (Or.inr rfl) a2m) (fun _ _ _ h=>h)
  · refine gq ?_ ?_
    · refine Ck ?_ ?_ ?_ ?_ ?_ ?_
      · exact PassesOwn.never
      · exact rfl
      · exact yw (au 1 (pv 1))
      · exact Ef (is:=[3,4]) (Dh rfl (n6 (jr nd rfl (Or.inl rfl)) (n6 (jr nd rfl (Or.inl rfl)) Bf)))
      · exact jh (Oh 2 hu (pv 2) (au 3 (pv 3)) (jj jq (O6 2 hu (pv 2) (au 3 (pv 3)) bx ⟨rfl,rfl,rfl,rfl⟩) (au 4 (pv 4))) rfl)
      · exact yu
    · refine gq ?_ ?_
      · exact mz 5 (Ja (N:=["box","times"]) ⟨rfl,rfl,by decide +kernel,by decide +kernel⟩ rfl (yw (jx (qg (Hu (by rfl)) (by rfl) b_sorted PyProof.Rows.boot_sorted (ao (au 2 (pv 2)) dh)))) (fun C s₀ H₀ ex pn=>pgE fun B=>(wj 0 (jr (show (["box","times"]:List Str).Nodup by decide +kernel) rfl (Or.inl rfl)))) (fun C s₀ H₀ ex pn=>(Im fun B=>(u9 (Df hq) (jk hu (au 1 (pv 1)) (au 0 (pv 0)) (fun _ _=>rfl)) bx (mq _)))) (fun C s₀ H₀ ex pn=>peE fun B=>(je (ao (au 0 (pv 0)) (ao (jk hu (au 1 (pv 1)) (au 0 (pv 0)) (fun _ _=>rfl)) dh)) (iy (bf (bf gb)) (by decide)))) (jr nd rfl (Or.inl rfl)) rfl) (fun σ H Q h=>Ku ⟨rfl,fun j k h=>match j,h with | 0,h=>(by cases h; exact ⟨_,rfl,rfl,⟨.inl rfl,.inr (.inl rfl),.inl rfl⟩⟩) | _+1,h=>(by cases h)⟩ yu (Lf h))
      · exact jh (m5 (je (ao (au 0 (pv 0)) (ao (jx (qt yq (by rfl) b_tuple PyProof.Rows.boot_tuple (ao (au 5 (pv 5)) dh))) dh)) (iy (bf (bf gb)) (by decide))))
theorem Xd (F:Fun K "sum_of" "sum_of" Eb f fd) (hmg:mg "sum_of" = some (.ref f)) (b_sorted:mg "sorted" = none) (b_tuple:mg "tuple" = none):jg P w K mg base "sum_of" 1 ["number","pairs"] _root_.K.Ca :=
  ⟨f,fd,W9 F b_sorted b_tuple,F.binds (ps:=["number","pairs"]) fun _ _ _ _ _ _ us hl=>bd2 (fun _ _=>rfl) us hl,F.kp,hmg⟩
noncomputable abbrev Jb:Stmt:=top 2
theorem Yj:nq ["one","other"] ["one","other"] (iz Jb):=⟨rfl,rfl,rfl,by decide +kernel,rfl,by decide +kernel,by decide +kernel⟩
theorem a2p (F:Fun K "plus" "plus" Jb f fd) (d_sum_of:jg P w K mg base "sum_of" 1 ["number","pairs"] (_root_.K.Ca)):Ce P w K mg base CX0 2 f fd ["one","other"] (spF K (["one","other"]:List Str).length _root_.K.K3):=by
  have d_sum_of:=d_sum_of.mono (show 1≤1 by first | decide | omega)
  refine qe (N:=["one","other"]) F Yj (by decide)  fun cdv A outer s H E B hr=>?_
  have hu:=zx hr
  have hq:=hr.units
  have nd:(["one","other"]:List Str).Nodup:=Yj.nd
  refine jh ?_
  · refine m5 ?_
    · refine iu d_sum_of ?_ ?_ ?_ ?_
      · exact hr
      · exact by rfl
      · exact ao (jj jq (jk hu (au 0 (pv 0)) bx (fun _ _=>rfl)) (jk hu (au 1 (pv 1)) bx (fun _ _=>rfl))) (ao (jj jq (jk hu (au 0 (pv 0)) bx (fun _ _=>rfl)) (jk hu (au 1 (pv 1)) bx (fun _ _=>rfl))) dh)
      · exact cu (cu eq_nil)
theorem a2g (F:Fun K "plus" "plus" Jb f fd) (hmg:mg "plus" = some (.ref f)) (d_sum_of:jg P w K mg base "sum_of" 1 ["number","pairs"] (_root_.K.Ca)):jg P w K mg base "plus" 2 ["one","other"] _root_.K.K3 :=
  ⟨f,fd,a2p F d_sum_of,F.binds (ps:=["one","other"]) fun _ _ _ _ _ _ us hl=>bd2 (fun _ _=>rfl) us hl,F.kp,hmg⟩
noncomputable abbrev Cp:Stmt:=top 9
theorem Lg:nq ["lists","forms","atoms","ors","waiting","form"] ["lists","forms"] (iz Cp):=⟨rfl,rfl,rfl,by decide +kernel,rfl,by decide +kernel,by decide +kernel⟩
theorem Vb (F:Fun K "laid_in" "laid_in" Cp f fd) (b_len:mg "len" = none) (b_list:mg "list" = none):Ce P w K mg base CX0 1 f fd ["lists","forms"] (spF K (["lists","forms"]:List Str).length _root_.K.vg):=by
  refine qe (N:=["lists","forms","atoms","ors","waiting","form"]) F Lg (by decide)  fun cdv A outer s H E B hr=>?_
  have hu:=zx hr
  have hq:=hr.units
  have nd:(["lists","forms","atoms","ors","waiting","form"]:List Str).Nodup:=Lg.nd
  refine gq ?_ ?_
  · exact Dt 2 (m6 nd rfl (Or.inl rfl) (Yv (by rfl) b_list (jk hu (au 0 (pv 0)) bx (fun _ _=>rfl)))) (fun _ _ _ h=>h)
  · refine gq ?_ ?_
    · exact Dt 3 (m6 nd rfl (Or.inl rfl) (Yv (by rfl) b_list (jk hu (au 0 (pv 0)) bx (fun _ _=>rfl)))) (fun _ _ _ h=>h)
    · refine gq ?_ ?_
      · exact Dt 4 (m6 nd rfl (Or.inl rfl) (a3t (jx (qt La (by rfl) b_list PyProof.Rows.boot_list (ao (au 1 (pv 1)) dh))))) (fun _ _ _ h=>h)
      · refine gq ?_ ?_
        · refine Ud _ ?_ ?_ ?_
          · exact PassesOwn.never
          · exact u9 Um (Bc 4 b_len rfl (pv 4)) bx (mq _)
          · refine gq ?_ ?_
            · exact a1v 4 5 (Tr (a1h PySem.F.plainAttrs_list PySem.F.slot_list_pop PySem.F.type_list_pop a1q (pv 4)) (jr nd rfl (Or.inl rfl)))
            · refine jh ?_
              · refine zm ?_ ?_ ?_
                · exact u9 (Af hq) (jk hu (au 5 (pv 5)) bx (fun _ _=>rfl)) uh (mq _)
                · exact jh (Jq 4 (vp (Dl PySem.F.plainAttrs_list PySem.F.slot_list_extend PySem.F.type_list_extend Hh (pv 4) (qp (a3o (jk hu (au 5 (pv 5)) bx (fun _ _=>rfl))) vf))))
                · refine jh ?_
                  · refine zm ?_ ?_ ?_
                    · exact u9 (Af hq) (jk hu (au 5 (pv 5)) bx (fun _ _=>rfl)) uh (mq _)
                    · exact jh (tu 3 (vp (Dl PySem.F.plainAttrs_list PySem.F.slot_list_append PySem.F.type_list_append qz (pv 3) (qp (jk hu (au 5 (pv 5)) bx (fun _ _=>rfl)) vf))))
                    · exact jh (tu 2 (vp (Dl PySem.F.plainAttrs_list PySem.F.slot_list_append PySem.F.type_list_append qz (pv 2) (qp (au 5 (pv 5)) vf))))
        · exact jh (m5 (je (ao (au 2 (pv 2)) (ao (au 3 (pv 3)) dh)) (iy (bf (bf gb)) (by decide))))
theorem V8 (F:Fun K "laid_in" "laid_in" Cp f fd) (hmg:mg "laid_in" = some (.ref f)) (b_len:mg "len" = none) (b_list:mg "list" = none):jg P w K mg base "laid_in" 1 ["lists","forms"] _root_.K.vg :=
  ⟨f,fd,Vb F b_len b_list,F.binds (ps:=["lists","forms"]) fun _ _ _ _ _ _ us hl=>bd2 (fun _ _=>rfl) us hl,F.kp,hmg⟩
noncomputable abbrev yr:Stmt:=top 11
theorem Fz:nq ["thing"] ["thing"] (iz yr):=⟨rfl,rfl,rfl,by decide +kernel,rfl,by decide +kernel,by decide +kernel⟩
theorem Kc (F:Fun K "plain_tuple" "plain_tuple" yr f fd) (b_isinstance:mg "isinstance" = none) (b_tuple:mg "tuple" = none):Ce P w K mg base CX0 1 f fd ["thing"] (spF K (["thing"]:List Str).length _root_.K.jy):=by
  refine qe (N:=["thing"]) F Fz (by decide)  fun cdv A outer s H E B hr=>?_
  have hu:=zx hr
  have hq:=hr.units
  have nd:(["thing"]:List Str).Nodup:=Fz.nd
  exact jh (m5 (Tt (xu (Hs (by rfl) b_isinstance (by rfl) b_tuple (au 0 (pv 0)))) (jx (qt yq (by rfl) b_tuple PyProof.Rows.boot_tuple (ao (au 0 (pv 0)) dh))) (je dh (iy gb (by decide)))))
theorem K9 (F:Fun K "plain_tuple" "plain_tuple" yr f fd) (hmg:mg "plain_tuple" = some (.ref f)) (b_isinstance:mg "isinstance" = none) (b_tuple:mg "tuple" = none):jg P w K mg base "plain_tuple" 1 ["thing"] _root_.K.jy :=
  ⟨f,fd,Kc F b_isinstance b_tuple,F.binds (ps:=["thing"]) fun _ _ _ _ _ _ us hl=>bd1 (fun _=>rfl) us hl,F.kp,hmg⟩
noncomputable abbrev Cy:Stmt:=top 15
theorem Kv:nq ["parts","kind","length"] ["parts","kind","length"] (iz Cy):=⟨rfl,rfl,rfl,by decide +kernel,rfl,by decide +kernel,by decide +kernel⟩
theorem V0 (F:Fun K "is_kind" "is_kind" Cy f fd) (b_isinstance:mg "isinstance" = none) (b_len:mg "len" = none) (b_str:mg "str" = none):Ce P w K mg base CX0 1 f fd ["parts","kind","length"] (spF K (["parts","kind","length"]:List Str).length _root_.K.pq):=by
  refine qe (N:=["parts","kind","length"]) F Kv (by decide)  fun cdv A outer s H E B hr=>?_
  have hu:=zx hr
  have hq:=hr.units
  have nd:(["parts","kind","length"]:List Str).Nodup:=Kv.nd
  refine jh ?_
  · refine m5 ?_
    · refine Cq ?_ ?_
      · exact Am (Af hq) (jx (qg ud (by rfl) b_len PySem.boot_len (ao (au 0 (pv 0)) dh))) (au 2 (pv 2)) (mq _)
      · exact Cq (Ls (by rfl) b_isinstance (by rfl) b_str (jk hu (au 0 (pv 0)) bx (fun _ _=>rfl))) (Ei (Am (Af hq) (jk hu (au 0 (pv 0)) bx (fun _ _=>rfl)) (au 1 (pv 1)) (mq _)))
theorem Uy (F:Fun K "is_kind" "is_kind" Cy f fd) (hmg:mg "is_kind" = some (.ref f)) (b_isinstance:mg "isinstance" = none) (b_len:mg "len" = none) (b_str:mg "str" = none):jg P w K mg base "is_kind" 1 ["parts","kind","length"] _root_.K.pq :=
  ⟨f,fd,V0 F b_isinstance b_len b_str,F.binds (ps:=["parts","kind","length"]) fun _ _ _ _ _ _ us hl=>bd3 (fun _ _ _=>rfl) us hl,F.kp,hmg⟩
noncomputable abbrev Bp:Stmt:=top 14
theorem Js:nq ["thing"] ["thing"] (iz Bp):=⟨rfl,rfl,rfl,by decide +kernel,rfl,by decide +kernel,by decide +kernel⟩
theorem Rg (F:Fun K "is_whole" "is_whole" Bp f fd) (b_bool:mg "bool" = none) (b_int:mg "int" = none) (b_isinstance:mg "isinstance" = none):Ce P w K mg base CX0 1 f fd ["thing"] (spF K (["thing"]:List Str).length _root_.K.uy):=by
  refine qe (N:=["thing"]) F Js (by decide)  fun cdv A outer s H E B hr=>?_
  have hu:=zx hr
  have hq:=hr.units
  have nd:(["thing"]:List Str).Nodup:=Js.nd
  exact jh (m5 (Cq (Uu (by rfl) b_isinstance (by rfl) b_int (au 0 (pv 0))) (Ei (a5u (Bs (by rfl) b_isinstance (by rfl) b_bool (au 0 (pv 0)))))))
theorem Ry (F:Fun K "is_whole" "is_whole" Bp f fd) (hmg:mg "is_whole" = some (.ref f)) (b_bool:mg "bool" = none) (b_int:mg "int" = none) (b_isinstance:mg "isinstance" = none):jg P w K mg base "is_whole" 1 ["thing"] _root_.K.uy :=
  ⟨f,fd,Rg F b_bool b_int b_isinstance,F.binds (ps:=["thing"]) fun _ _ _ _ _ _ us hl=>bd1 (fun _=>rfl) us hl,F.kp,hmg⟩
noncomputable abbrev Bj:Stmt:=top 16
theorem J6:nq ["number","places"] ["number","places"] (iz Bj):=⟨rfl,rfl,rfl,by decide +kernel,rfl,by decide +kernel,by decide +kernel⟩
theorem Q0 (F:Fun K "is_place" "is_place" Bj f fd) (b_len:mg "len" = none):Ce P w K mg base CX0 1 f fd ["number","places"] (spF K (["number","places"]:List Str).length _root_.K.yx):=by
  refine qe (N:=["number","places"]) F J6 (by decide)  fun cdv A outer s H E B hr=>?_
  have hu:=zx hr
  have hq:=hr.units
  have nd:(["number","places"]:List Str).Nodup:=J6.nd
  exact jh (m5 (Cq (Am a1f bx (au 0 (pv 0)) (mq _)) (Ei (Am Jj (au 0 (pv 0)) (jx (qg ud (by rfl) b_len PySem.boot_len (ao (au 1 (pv 1)) dh))) (mq _)))))
theorem Rt (F:Fun K "is_place" "is_place" Bj f fd) (hmg:mg "is_place" = some (.ref f)) (b_len:mg "len" = none):jg P w K mg base "is_place" 1 ["number","places"] _root_.K.yx :=
  ⟨f,fd,Q0 F b_len,F.binds (ps:=["number","places"]) fun _ _ _ _ _ _ us hl=>bd2 (fun _ _=>rfl) us hl,F.kp,hmg⟩
noncomputable abbrev vo:Stmt:=top 17
theorem Ez:nq ["lists","number","papers","members","inner"] ["lists","number","papers"] (iz vo):=⟨rfl,rfl,rfl,by decide +kernel,rfl,by decide +kernel,by decide +kernel⟩
theorem K7 (F:Fun K "papers_of_or" "papers_of_or" vo f fd) (d_is_place:jg P w K mg base "is_place" 1 ["number","places"] (_root_.K.yx)) (d_laid_in:jg P w K mg base "laid_in" 1 ["lists","forms"] (_root_.K.vg)) (d_plain_tuple:jg P w K mg base "plain_tuple" 1 ["thing"] (_root_.K.jy)) (b_isinstance:mg "isinstance" = none) (b_len:mg "len" = none) (b_tuple:mg "tuple" = none) (b_zip:mg "zip" = none):Ce P w K mg base CX0 2 f fd ["lists","number","papers"] (spF K (["lists","number","papers"]:List Str).length _root_.K.Aj):=by
  have d_is_place:=d_is_place.mono (show 1≤1 by first | decide | omega)
  have d_laid_in:=d_laid_in.mono (show 1≤1 by first | decide | omega)
  have d_plain_tuple:=d_plain_tuple.mono (show 1≤1 by first | decide | omega)
  refine qe (N:=["lists","number","papers","members","inner"]) F Ez (by decide)  fun cdv A outer s H E B hr=>?_
  have hu:=zx hr
  have hq:=hr.units
  have nd:(["lists","number","papers","members","inner"]:List Str).Nodup:=Ez.nd
  refine gq ?_ ?_
  · refine zm ?_ ?_ ?_
    · exact PW.pt (Km (Fd (xu (iu d_is_place hr (by rfl) (ao (au 1 (pv 1)) (ao (jk hu (au 0 (pv 0)) bx (fun _ _=>rfl)) dh)) (cu (cu eq_nil))))) (Ld (Fd (xu (Hs (by rfl) b_isinstance (by rfl) b_tuple (au 2 (pv 2)))))))
    · exact jh (m5 Ed)
    · exact um
  · refine gq ?_ ?_
    · exact mz 3 (m6 nd rfl (Or.inl rfl) (jk hu (jk hu (au 0 (pv 0)) bx (fun _ _=>rfl)) (au 1 (pv 1)) (fun _ _=>rfl))) (fun _ _ _ h=>h)
    · refine gq ?_ ?_
      · exact mz 4 (m6 nd rfl (Or.inl rfl) (iu d_plain_tuple hr (by rfl) (ao (au 2 (pv 2)) dh) (cu eq_nil))) (fun _ _ _ h=>h)
      · refine gq ?_ ?_
        · exact zm (u9 (Df hq) (jx (qg ud (by rfl) b_len PySem.boot_len (ao (au 4 (pv 4)) dh))) (jx (qg ud (by rfl) b_len PySem.boot_len (ao (au 3 (pv 3)) dh))) (mq _))   (jh (m5 Ed))   um
        · refine jh ?_
          · refine m5 ?_
            · refine Bx ?_
              · refine Dj (N:=["member","one","lists"]) ?_ ?_ ?_ ?_ ?_ ?_ ?_ ?_
                · exact ⟨rfl,fun j k h=>match j,h with | 0,h=>(by cases h; exact ⟨_,rfl,rfl,⟨.inl rfl,.inr (.inl rfl),.inl rfl⟩⟩) | _+1,h=>(by cases h)⟩
                · exact ⟨rfl,rfl,by decide +kernel,by decide +kernel⟩
                · exact rfl
                · exact a7q (by rfl) b_zip (au 3 (pv 3)) (au 4 (pv 4))
                · exact a5p
                · exact fun C s₀ H₀ ex pn=>pgE fun B=>(Ef (is:=[0,1]) (Dh rfl (n6 (jr (show (["member","one","lists"]:List Str).Nodup by decide +kernel) rfl (Or.inl rfl)) (n6 (jr (show (["member","one","lists"]:List Str).Nodup by decide +kernel) rfl (Or.inl rfl)) Bf))))
                · exact fun C s₀ H₀ ex pn=>Bb
                · intro C s₀ H₀ ex pn
                  refine peE ?_
                  intro B
                  exact je (ao (iu d_laid_in hr (by rfl) (ao (au 2 (pv 2)) (ao (xr (ao (au 0 (pv 0)) dh) (iy (bf gb) (by decide))) dh)) (cu (cu eq_nil))) (ao (au 1 (pv 1)) dh)) (iy (bf (bf gb)) (by decide))
theorem J5 (F:Fun K "papers_of_or" "papers_of_or" vo f fd) (hmg:mg "papers_of_or" = some (.ref f)) (d_is_place:jg P w K mg base "is_place" 1 ["number","places"] (_root_.K.yx)) (d_laid_in:jg P w K mg base "laid_in" 1 ["lists","forms"] (_root_.K.vg)) (d_plain_tuple:jg P w K mg base "plain_tuple" 1 ["thing"] (_root_.K.jy)) (b_isinstance:mg "isinstance" = none) (b_len:mg "len" = none) (b_tuple:mg "tuple" = none) (b_zip:mg "zip" = none):jg P w K mg base "papers_of_or" 2 ["lists","number","papers"] _root_.K.Aj :=
  ⟨f,fd,K7 F d_is_place d_laid_in d_plain_tuple b_isinstance b_len b_tuple b_zip,F.binds (ps:=["lists","number","papers"]) fun _ _ _ _ _ _ us hl=>bd3 (fun _ _ _=>rfl) us hl,F.kp,hmg⟩
noncomputable abbrev Cz:Stmt:=top 7
theorem Ln:nq ["box","number"] ["box","number"] (iz Cz):=⟨rfl,rfl,rfl,by decide +kernel,rfl,by decide +kernel,by decide +kernel⟩
theorem V2 (F:Fun K "at_most" "at_most" Cz f fd):Ce P w K mg base CX0 1 f fd ["box","number"] (spF K (["box","number"]:List Str).length _root_.K.Ao):=by
  refine qe (N:=["box","number"]) F Ln (by decide)  fun cdv A outer s H E B hr=>?_
  have hu:=zx hr
  have hq:=hr.units
  have nd:(["box","number"]:List Str).Nodup:=Ln.nd
  refine jh ?_
  · refine m5 ?_
    · refine je ?_ ?_
      · refine ao ?_ ?_
        · exact uh
        · refine ao ?_ ?_
          · exact je (ao (Aq qj (au 1 (pv 1))) (ao (je (ao (je (ao (au 0 (pv 0)) (ao bx dh)) (iy (bf (bf gb)) (by decide))) dh) (iy (bf gb) (by decide))) dh)) (iy (bf (bf gb)) (by decide))
          · exact dh
      · exact iy (bf (bf gb)) (by decide)
theorem V7 (F:Fun K "at_most" "at_most" Cz f fd) (hmg:mg "at_most" = some (.ref f)):jg P w K mg base "at_most" 1 ["box","number"] _root_.K.Ao :=
  ⟨f,fd,V2 F,F.binds (ps:=["box","number"]) fun _ _ _ _ _ _ us hl=>bd2 (fun _ _=>rfl) us hl,F.kp,hmg⟩
noncomputable abbrev Bm:Stmt:=top 8
theorem Jh:nq ["box","number"] ["box","number"] (iz Bm):=⟨rfl,rfl,rfl,by decide +kernel,rfl,by decide +kernel,by decide +kernel⟩
theorem Qz (F:Fun K "at_least" "at_least" Bm f fd):Ce P w K mg base CX0 1 f fd ["box","number"] (spF K (["box","number"]:List Str).length _root_.K.zc):=by
  refine qe (N:=["box","number"]) F Jh (by decide)  fun cdv A outer s H E B hr=>?_
  have hu:=zx hr
  have hq:=hr.units
  have nd:(["box","number"]:List Str).Nodup:=Jh.nd
  refine jh ?_
  · refine m5 ?_
    · refine je ?_ ?_
      · refine ao ?_ ?_
        · exact uh
        · refine ao ?_ ?_
          · exact je (ao (au 1 (pv 1)) (ao (je (ao (je (ao (au 0 (pv 0)) (ao (Aq qj bx) dh)) (iy (bf (bf gb)) (by decide))) dh) (iy (bf gb) (by decide))) dh)) (iy (bf (bf gb)) (by decide))
          · exact dh
      · exact iy (bf (bf gb)) (by decide)
theorem Pq (F:Fun K "at_least" "at_least" Bm f fd) (hmg:mg "at_least" = some (.ref f)):jg P w K mg base "at_least" 1 ["box","number"] _root_.K.zc :=
  ⟨f,fd,Qz F,F.binds (ps:=["box","number"]) fun _ _ _ _ _ _ us hl=>bd2 (fun _ _=>rfl) us hl,F.kp,hmg⟩
noncomputable abbrev uz:Stmt:=top 18
theorem Ej:nq ["names","lists","box","number","papers","boxes","low","high"] ["names","lists","box","number","papers"] (iz uz):=⟨rfl,rfl,rfl,by decide +kernel,rfl,by decide +kernel,by decide +kernel⟩
theorem Ii (F:Fun K "papers_of_cut" "papers_of_cut" uz f fd) (d_at_least:jg P w K mg base "at_least" 1 ["box","number"] (_root_.K.zc)) (d_at_most:jg P w K mg base "at_most" 1 ["box","number"] (_root_.K.Ao)) (d_laid_in:jg P w K mg base "laid_in" 1 ["lists","forms"] (_root_.K.vg)) (b_isinstance:mg "isinstance" = none) (b_len:mg "len" = none) (b_str:mg "str" = none):Ce P w K mg base CX0 2 f fd ["names","lists","box","number","papers"] (spF K (["names","lists","box","number","papers"]:List Str).length _root_.K.zy):=by
  have d_at_least:=d_at_least.mono (show 1≤1 by first | decide | omega)
  have d_at_most:=d_at_most.mono (show 1≤1 by first | decide | omega)
  have d_laid_in:=d_laid_in.mono (show 1≤1 by first | decide | omega)
  refine qe (N:=["names","lists","box","number","papers","boxes","low","high"]) F Ej (by decide)  fun cdv A outer s H E B hr=>?_
  have hu:=zx hr
  have hq:=hr.units
  have nd:(["names","lists","box","number","papers","boxes","low","high"]:List Str).Nodup:=Ej.nd
  refine gq ?_ ?_
  · exact mz 5 (Ja (N:=["name","box"]) ⟨rfl,rfl,by decide +kernel,by decide +kernel⟩ rfl (yw (au 0 (pv 0))) (fun C s₀ H₀ ex pn=>pgE fun B=>(wj 0 (jr (show (["name","box"]:List Str).Nodup by decide +kernel) rfl (Or.inl rfl)))) (fun C s₀ H₀ ex pn=>(Im fun B=>(PW.pt (Hx (xu (Ls (by rfl) b_isinstance (by rfl) b_str (au 1 (pv 1)))) (Gy (u9 (Af hq) (au 0 (pv 0)) (au 1 (pv 1)) (mq _))))))) (fun C s₀ H₀ ex pn=>peE fun B=>(au 0 (pv 0))) (jr nd rfl (Or.inl rfl)) rfl) (fun σ H Q h=>Ku ⟨rfl,fun j k h=>match j,h with | 0,h=>(by cases h; exact ⟨_,rfl,rfl,⟨.inl rfl,.inr (.inl rfl),.inl rfl⟩⟩) | _+1,h=>(by cases h)⟩ yu (Lf h))
  · refine gq ?_ ?_
    · exact zm (u9 (Df hq) (jx (qg ud (by rfl) b_len PySem.boot_len (ao (au 5 (pv 5)) dh))) bx (mq _))   (jh (m5 Ed))   um
    · refine gq ?_ ?_
      · refine mz (te:=tOf _ _ _) _ ?_ (fun _ _ _ h=>h)
        · refine m6 ?_ ?_ ?_ ?_
          · exact nd
          · exact rfl
          · exact Or.inl rfl
          · refine iu d_laid_in ?_ ?_ ?_ ?_
            · exact hr
            · exact by rfl
            · exact ao (au 1 (pv 1)) (ao (xr (ao (iu d_at_most hr (by rfl) (ao (jk hu (au 5 (pv 5)) bx (fun _ _=>rfl)) (ao (au 3 (pv 3)) dh)) (cu (cu eq_nil))) dh) (iy (bf gb) (by decide))) dh)
            · exact cu (cu eq_nil)
      · refine gq ?_ ?_
        · refine mz (te:=tOf _ _ _) _ ?_ (fun _ _ _ h=>h)
          · refine m6 ?_ ?_ ?_ ?_
            · exact nd
            · exact rfl
            · exact Or.inl rfl
            · refine iu d_laid_in ?_ ?_ ?_ ?_
              · exact hr
              · exact by rfl
              · exact ao (au 1 (pv 1)) (ao (xr (ao (iu d_at_least hr (by rfl) (ao (jk hu (au 5 (pv 5)) bx (fun _ _=>rfl)) (ao (jj jq (au 3 (pv 3)) bx) dh)) (cu (cu eq_nil))) dh) (iy (bf gb) (by decide))) dh)
              · exact cu (cu eq_nil)
        · refine jh ?_
          · refine m5 ?_
            · refine xr ?_ ?_
              · refine ao ?_ ?_
                · exact je (ao (au 6 (pv 6)) (ao (jk hu (au 4 (pv 4)) bx (fun _ _=>rfl)) dh)) (iy (bf (bf gb)) (by decide))
                · exact ao (je (ao (au 7 (pv 7)) (ao (jk hu (au 4 (pv 4)) bx (fun _ _=>rfl)) dh)) (iy (bf (bf gb)) (by decide))) dh
              · exact iy (bf (bf gb)) (by decide)
theorem Ia (F:Fun K "papers_of_cut" "papers_of_cut" uz f fd) (hmg:mg "papers_of_cut" = some (.ref f)) (d_at_least:jg P w K mg base "at_least" 1 ["box","number"] (_root_.K.zc)) (d_at_most:jg P w K mg base "at_most" 1 ["box","number"] (_root_.K.Ao)) (d_laid_in:jg P w K mg base "laid_in" 1 ["lists","forms"] (_root_.K.vg)) (b_isinstance:mg "isinstance" = none) (b_len:mg "len" = none) (b_str:mg "str" = none):jg P w K mg base "papers_of_cut" 2 ["names","lists","box","number","papers"] _root_.K.zy :=
  ⟨f,fd,Ii F d_at_least d_at_most d_laid_in b_isinstance b_len b_str,F.binds (ps:=["names","lists","box","number","papers"]) fun _ _ _ _ _ _ us hl=>bd5 (fun _ _ _ _ _=>rfl) us hl,F.kp,hmg⟩
noncomputable abbrev Bl:Stmt:=top 22
theorem J7:nq ["atoms","rows","number","pairs","row","one"] ["atoms","rows"] (iz Bl):=⟨rfl,rfl,rfl,by decide +kernel,rfl,by decide +kernel,by decide +kernel⟩
theorem Qt (F:Fun K "added_up" "added_up" Bl f fd) (d_sum_of:jg P w K mg base "sum_of" 1 ["number","pairs"] (_root_.K.Ca)):Ce P w K mg base CX0 2 f fd ["atoms","rows"] (spF K (["atoms","rows"]:List Str).length _root_.K.zf):=by
  have d_sum_of:=d_sum_of.mono (show 1≤1 by first | decide | omega)
  refine qe (N:=["atoms","rows","number","pairs","row","one"]) F J7 (by decide)  fun cdv A outer s H E B hr=>?_
  have hu:=zx hr
  have hq:=hr.units
  have nd:(["atoms","rows","number","pairs","row","one"]:List Str).Nodup:=J7.nd
  refine gq ?_ ?_
  · exact mz 2 (m6 nd rfl (Or.inl rfl) bx) (fun _ _ _ h=>h)
  · refine gq ?_ ?_
    · exact Dt 3 (m6 nd rfl (Or.inl rfl) (Hw dh (iy gb (by decide)))) (fun _ _ _ h=>h)
    · refine gq ?_ ?_
      · refine Ck ?_ ?_ ?_ ?_ ?_ ?_
        · exact PassesOwn.never
        · exact rfl
        · exact yw (au 1 (pv 1))
        · exact wj 4 (jr nd rfl (Or.inr rfl))
        · refine gq ?_ ?_
          · exact mz 5 (m6 nd rfl (Or.inl rfl) (jk hu (jk hu (au 0 (pv 0)) (jk hu (au 4 (pv 4)) bx (fun _ _=>rfl)) (fun _ _=>rfl)) bx (fun _ _=>rfl))) (fun _ _ _ h=>h)
          · refine gq ?_ ?_
            · exact mz 2 (m6 nd rfl (Or.inl rfl) (jj jq (au 2 (pv 2)) (jj Cj (jk hu (au 4 (pv 4)) (Aq qj bx) (fun _ _=>rfl)) (jk hu (au 5 (pv 5)) bx (fun _ _=>rfl))))) (fun _ _ _ h=>h)
            · refine jh ?_
              · refine Jq _ ?_
                · refine vp ?_
                  · refine Dl PySem.F.plainAttrs_list PySem.F.slot_list_extend PySem.F.type_list_extend Hh ?_ ?_
                    · exact pv 3
                    · refine qp ?_ ?_
                      · refine Bx ?_
                        · refine Dj (N:=["box","times","row"]) ?_ ?_ ?_ ?_ ?_ ?_ ?_ ?_
                          · exact ⟨rfl,fun j k h=>match j,h with | 0,h=>(by cases h; exact ⟨_,rfl,rfl,⟨.inl rfl,.inr (.inl rfl),.inl rfl⟩⟩) | _+1,h=>(by cases h)⟩
                          · exact ⟨rfl,rfl,by decide +kernel,by decide +kernel⟩
                          · exact rfl
                          · exact yw (jk hu (au 5 (pv 5)) bx (fun _ _=>rfl))
                          · exact yu
                          · exact fun C s₀ H₀ ex pn=>pgE fun B=>(Ef (is:=[0,1]) (Dh rfl (n6 (jr (show (["box","times","row"]:List Str).Nodup by decide +kernel) rfl (Or.inl rfl)) (n6 (jr (show (["box","times","row"]:List Str).Nodup by decide +kernel) rfl (Or.inl rfl)) Bf))))
                          · exact fun C s₀ H₀ ex pn=>Bb
                          · exact fun C s₀ H₀ ex pn=>peE fun B=>(je (ao (au 0 (pv 0)) (ao (jj Cj (jk hu (au 2 (pv 2)) (Aq qj bx) (fun _ _=>rfl)) (au 1 (pv 1))) dh)) (iy (bf (bf gb)) (by decide)))
                      · exact vf
        · exact yu
      · exact jh (m5 (iu d_sum_of hr (by rfl) (ao (au 2 (pv 2)) (ao (au 3 (pv 3)) dh)) (cu (cu eq_nil))))
theorem Sv (F:Fun K "added_up" "added_up" Bl f fd) (hmg:mg "added_up" = some (.ref f)) (d_sum_of:jg P w K mg base "sum_of" 1 ["number","pairs"] (_root_.K.Ca)):jg P w K mg base "added_up" 2 ["atoms","rows"] _root_.K.zf :=
  ⟨f,fd,Qt F d_sum_of,F.binds (ps:=["atoms","rows"]) fun _ _ _ _ _ _ us hl=>bd2 (fun _ _=>rfl) us hl,F.kp,hmg⟩
noncomputable abbrev Cm:Stmt:=top 21
theorem Lb:nq ["atoms","number","kind"] ["atoms","number","kind"] (iz Cm):=⟨rfl,rfl,rfl,by decide +kernel,rfl,by decide +kernel,by decide +kernel⟩
theorem V9 (F:Fun K "is_atom" "is_atom" Cm f fd) (d_is_place:jg P w K mg base "is_place" 1 ["number","places"] (_root_.K.yx)):Ce P w K mg base CX0 2 f fd ["atoms","number","kind"] (spF K (["atoms","number","kind"]:List Str).length _root_.K.uq):=by
  have d_is_place:=d_is_place.mono (show 1≤1 by first | decide | omega)
  refine qe (N:=["atoms","number","kind"]) F Lb (by decide)  fun cdv A outer s H E B hr=>?_
  have hu:=zx hr
  have hq:=hr.units
  have nd:(["atoms","number","kind"]:List Str).Nodup:=Lb.nd
  refine jh ?_
  · exact m5 (Cq (iu d_is_place hr (by rfl) (ao (au 1 (pv 1)) (ao (au 0 (pv 0)) dh)) (cu (cu eq_nil))) (Ei (Am (Af hq) (jk hu (jk hu (au 0 (pv 0)) (au 1 (pv 1)) (fun _ _=>rfl)) bx (fun _ _=>rfl)) (au 2 (pv 2)) (mq _))))
theorem Vv (F:Fun K "is_atom" "is_atom" Cm f fd) (hmg:mg "is_atom" = some (.ref f)) (d_is_place:jg P w K mg base "is_place" 1 ["number","places"] (_root_.K.yx)):jg P w K mg base "is_atom" 2 ["atoms","number","kind"] _root_.K.uq :=
  ⟨f,fd,V9 F d_is_place,F.binds (ps:=["atoms","number","kind"]) fun _ _ _ _ _ _ us hl=>bd3 (fun _ _ _=>rfl) us hl,F.kp,hmg⟩
noncomputable abbrev Aa:Stmt:=top 20
theorem Gq:nq ["atoms","row"] ["atoms","row"] (iz Aa):=⟨rfl,rfl,rfl,by decide +kernel,rfl,by decide +kernel,by decide +kernel⟩
theorem Mv (F:Fun K "is_sum_row" "is_sum_row" Aa f fd) (d_is_atom:jg P w K mg base "is_atom" 2 ["atoms","number","kind"] (_root_.K.uq)) (b_len:mg "len" = none):Ce P w K mg base CX0 3 f fd ["atoms","row"] (spF K (["atoms","row"]:List Str).length _root_.K.Cd):=by
  have d_is_atom:=d_is_atom.mono (show 2≤2 by first | decide | omega)
  refine qe (N:=["atoms","row"]) F Gq (by decide)  fun cdv A outer s H E B hr=>?_
  have hu:=zx hr
  have hq:=hr.units
  have nd:(["atoms","row"]:List Str).Nodup:=Gq.nd
  refine jh ?_
  · refine m5 ?_
    · refine Cq ?_ ?_
      · exact Am (Af hq) (jx (qg ud (by rfl) b_len PySem.boot_len (ao (au 1 (pv 1)) dh))) bx (mq _)
      · exact Cq (iu d_is_atom hr (by rfl) (ao (au 0 (pv 0)) (ao (jk hu (au 1 (pv 1)) bx (fun _ _=>rfl)) (ao uh dh))) (cu (cu (cu eq_nil)))) (Ei (Am Um (jk hu (au 1 (pv 1)) bx (fun _ _=>rfl)) bx (mq _)))
theorem M5 (F:Fun K "is_sum_row" "is_sum_row" Aa f fd) (hmg:mg "is_sum_row" = some (.ref f)) (d_is_atom:jg P w K mg base "is_atom" 2 ["atoms","number","kind"] (_root_.K.uq)) (b_len:mg "len" = none):jg P w K mg base "is_sum_row" 3 ["atoms","row"] _root_.K.Cd :=
  ⟨f,fd,Mv F d_is_atom b_len,F.binds (ps:=["atoms","row"]) fun _ _ _ _ _ _ us hl=>bd2 (fun _ _=>rfl) us hl,F.kp,hmg⟩
noncomputable abbrev Dv:Stmt:=top 19
theorem Nv:nq ["atoms","rows","whole"] ["atoms","rows"] (iz Dv):=⟨rfl,rfl,rfl,by decide +kernel,rfl,by decide +kernel,by decide +kernel⟩
theorem Ww (F:Fun K "is_sum" "is_sum" Dv f fd) (d_added_up:jg P w K mg base "added_up" 2 ["atoms","rows"] (_root_.K.zf)) (d_is_sum_row:jg P w K mg base "is_sum_row" 3 ["atoms","row"] (_root_.K.Cd)) (b_all:mg "all" = none):Ce P w K mg base CX0 4 f fd ["atoms","rows"] (spF K (["atoms","rows"]:List Str).length _root_.K.G9):=by
  have d_added_up:=d_added_up.mono (show 2≤3 by first | decide | omega)
  have d_is_sum_row:=d_is_sum_row.mono (show 3≤3 by first | decide | omega)
  refine qe (N:=["atoms","rows","whole"]) F Nv (by decide)  fun cdv A outer s H E B hr=>?_
  have hu:=zx hr
  have hq:=hr.units
  have nd:(["atoms","rows","whole"]:List Str).Nodup:=Nv.nd
  refine gq ?_ ?_
  · refine zm ?_ ?_ ?_
    · refine Fd ?_
      · refine xu ?_
        · refine jx ?_
          · refine qg (Gg (by rfl)) ?_ ?_ PyProof.Rows.boot_all ?_
            · exact by rfl
            · exact b_all
            · refine ao ?_ ?_
              · refine Bx ?_
                · refine Dj (N:=["row","atoms"]) ?_ ?_ ?_ ?_ ?_ ?_ ?_ ?_
                  · exact ⟨rfl,fun j k h=>match j,h with | 0,h=>(by cases h; exact ⟨_,rfl,rfl,⟨.inl rfl,.inr (.inl rfl),.inl rfl⟩⟩) | _+1,h=>(by cases h)⟩
                  · exact ⟨rfl,rfl,by decide +kernel,by decide +kernel⟩
                  · exact rfl
                  · exact yw (au 1 (pv 1))
                  · exact yu
                  · exact fun C s₀ H₀ ex pn=>pgE fun B=>(wj 0 (jr (show (["row","atoms"]:List Str).Nodup by decide +kernel) rfl (Or.inl rfl)))
                  · exact fun C s₀ H₀ ex pn=>Bb
                  · exact fun C s₀ H₀ ex pn=>peE fun B=>(iu d_is_sum_row hr (by rfl) (ao (au 1 (pv 1)) (ao (au 0 (pv 0)) dh)) (cu (cu eq_nil)))
              · exact dh
    · exact jh (m5 Cv)
    · exact um
  · refine gq ?_ ?_
    · exact mz 2 (m6 nd rfl (Or.inl rfl) (iu d_added_up hr (by rfl) (ao (au 0 (pv 0)) (ao (au 1 (pv 1)) dh)) (cu (cu eq_nil)))) (fun _ _ _ h=>h)
    · exact jh (m5 (Cq (Am (Af hq) (jk hu (au 2 (pv 2)) bx (fun _ _=>rfl)) (je dh (iy gb (by decide))) (mq _)) (Ei (Am Um (jk hu (au 2 (pv 2)) bx (fun _ _=>rfl)) bx (mq _)))))
theorem Wm (F:Fun K "is_sum" "is_sum" Dv f fd) (hmg:mg "is_sum" = some (.ref f)) (d_added_up:jg P w K mg base "added_up" 2 ["atoms","rows"] (_root_.K.zf)) (d_is_sum_row:jg P w K mg base "is_sum_row" 3 ["atoms","row"] (_root_.K.Cd)) (b_all:mg "all" = none):jg P w K mg base "is_sum" 4 ["atoms","rows"] _root_.K.G9 :=
  ⟨f,fd,Ww F d_added_up d_is_sum_row b_all,F.binds (ps:=["atoms","rows"]) fun _ _ _ _ _ _ us hl=>bd2 (fun _ _=>rfl) us hl,F.kp,hmg⟩
noncomputable abbrev vm:Stmt:=top 25
theorem Ey:nq ["atoms","one","other"] ["atoms","one","other"] (iz vm):=⟨rfl,rfl,rfl,by decide +kernel,rfl,by decide +kernel,by decide +kernel⟩
theorem Jy (F:Fun K "is_zero_pair" "is_zero_pair" vm f fd) (d_is_atom:jg P w K mg base "is_atom" 2 ["atoms","number","kind"] (_root_.K.uq)) (d_plus:jg P w K mg base "plus" 2 ["one","other"] (_root_.K.K3)):Ce P w K mg base CX0 3 f fd ["atoms","one","other"] (spF K (["atoms","one","other"]:List Str).length _root_.K.uc):=by
  have d_is_atom:=d_is_atom.mono (show 2≤2 by first | decide | omega)
  have d_plus:=d_plus.mono (show 2≤2 by first | decide | omega)
  refine qe (N:=["atoms","one","other"]) F Ey (by decide)  fun cdv A outer s H E B hr=>?_
  have hu:=zx hr
  have hq:=hr.units
  have nd:(["atoms","one","other"]:List Str).Nodup:=Ey.nd
  refine gq ?_ ?_
  · refine zm ?_ ?_ ?_
    · refine PW.pt ?_
      · refine Km ?_ ?_
        · exact Fd (xu (iu d_is_atom hr (by rfl) (ao (au 0 (pv 0)) (ao (au 1 (pv 1)) (ao uh dh))) (cu (cu (cu eq_nil)))))
        · exact Ld (Fd (xu (iu d_is_atom hr (by rfl) (ao (au 0 (pv 0)) (ao (au 2 (pv 2)) (ao uh dh))) (cu (cu (cu eq_nil))))))
    · exact jh (m5 Cv)
    · exact um
  · refine jh ?_
    · refine m5 ?_
      · refine Am (Af hq) ?_ ?_ ?_
        · exact iu d_plus hr (by rfl) (ao (jk hu (jk hu (au 0 (pv 0)) (au 1 (pv 1)) (fun _ _=>rfl)) bx (fun _ _=>rfl)) (ao (jk hu (jk hu (au 0 (pv 0)) (au 2 (pv 2)) (fun _ _=>rfl)) bx (fun _ _=>rfl)) dh)) (cu (cu eq_nil))
        · exact je (ao bx (ao (je dh (iy gb (by decide))) dh)) (iy (bf (bf gb)) (by decide))
        · exact mq _
theorem J1 (F:Fun K "is_zero_pair" "is_zero_pair" vm f fd) (hmg:mg "is_zero_pair" = some (.ref f)) (d_is_atom:jg P w K mg base "is_atom" 2 ["atoms","number","kind"] (_root_.K.uq)) (d_plus:jg P w K mg base "plus" 2 ["one","other"] (_root_.K.K3)):jg P w K mg base "is_zero_pair" 3 ["atoms","one","other"] _root_.K.uc :=
  ⟨f,fd,Jy F d_is_atom d_plus,F.binds (ps:=["atoms","one","other"]) fun _ _ _ _ _ _ us hl=>bd3 (fun _ _ _=>rfl) us hl,F.kp,hmg⟩
noncomputable abbrev yd:Stmt:=top 24
theorem G4:nq ["atoms","divisor","row"] ["atoms","divisor","row"] (iz yd):=⟨rfl,rfl,rfl,by decide +kernel,rfl,by decide +kernel,by decide +kernel⟩
theorem Kd (F:Fun K "is_rest_row" "is_rest_row" yd f fd) (d_is_atom:jg P w K mg base "is_atom" 2 ["atoms","number","kind"] (_root_.K.uq)) (d_is_zero_pair:jg P w K mg base "is_zero_pair" 3 ["atoms","one","other"] (_root_.K.uc)) (b_len:mg "len" = none):Ce P w K mg base CX0 4 f fd ["atoms","divisor","row"] (spF K (["atoms","divisor","row"]:List Str).length _root_.K.nj):=by
  have d_is_atom:=d_is_atom.mono (show 2≤3 by first | decide | omega)
  have d_is_zero_pair:=d_is_zero_pair.mono (show 3≤3 by first | decide | omega)
  refine qe (N:=["atoms","divisor","row"]) F G4 (by decide)  fun cdv A outer s H E B hr=>?_
  have hu:=zx hr
  have hq:=hr.units
  have nd:(["atoms","divisor","row"]:List Str).Nodup:=G4.nd
  refine gq ?_ ?_
  · refine zm ?_ ?_ ?_
    · exact u9 (Af hq) (jx (qg ud (by rfl) b_len PySem.boot_len (ao (au 2 (pv 2)) dh))) bx (mq _)
    · refine jh ?_
      · refine m5 ?_
        · refine Cq ?_ ?_
          · exact iu d_is_zero_pair hr (by rfl) (ao (au 0 (pv 0)) (ao (jk hu (au 2 (pv 2)) bx (fun _ _=>rfl)) (ao (jk hu (au 2 (pv 2)) bx (fun _ _=>rfl)) dh))) (cu (cu (cu eq_nil)))
          · exact Ei (Am (Df hq) (jk hu (au 2 (pv 2)) bx (fun _ _=>rfl)) bx (mq _))
    · exact um
  · refine gq ?_ ?_
    · refine zm ?_ ?_ ?_
      · exact u9 (Af hq) (jx (qg ud (by rfl) b_len PySem.boot_len (ao (au 2 (pv 2)) dh))) bx (mq _)
      · refine jh ?_
        · refine m5 ?_
          · refine Cq ?_ ?_
            · exact iu d_is_atom hr (by rfl) (ao (au 0 (pv 0)) (ao (jk hu (au 2 (pv 2)) bx (fun _ _=>rfl)) (ao uh dh))) (cu (cu (cu eq_nil)))
            · refine Cq ?_ ?_
              · exact Am (Df hq) (jk hu (au 2 (pv 2)) bx (fun _ _=>rfl)) bx (mq _)
              · exact Ei (Am (Af hq) (jj qx (jj Cj (jk hu (au 2 (pv 2)) bx (fun _ _=>rfl)) (jk hu (jk hu (au 0 (pv 0)) (jk hu (au 2 (pv 2)) bx (fun _ _=>rfl)) (fun _ _=>rfl)) bx (fun _ _=>rfl))) (au 1 (pv 1))) bx (mq _))
      · exact um
    · exact jh (m5 Cv)
theorem Kg (F:Fun K "is_rest_row" "is_rest_row" yd f fd) (hmg:mg "is_rest_row" = some (.ref f)) (d_is_atom:jg P w K mg base "is_atom" 2 ["atoms","number","kind"] (_root_.K.uq)) (d_is_zero_pair:jg P w K mg base "is_zero_pair" 3 ["atoms","one","other"] (_root_.K.uc)) (b_len:mg "len" = none):jg P w K mg base "is_rest_row" 4 ["atoms","divisor","row"] _root_.K.nj :=
  ⟨f,fd,Kd F d_is_atom d_is_zero_pair b_len,F.binds (ps:=["atoms","divisor","row"]) fun _ _ _ _ _ _ us hl=>bd3 (fun _ _ _=>rfl) us hl,F.kp,hmg⟩
noncomputable abbrev Cw:Stmt:=top 23
theorem Li:nq ["atoms","divisor","rows","whole"] ["atoms","divisor","rows"] (iz Cw):=⟨rfl,rfl,rfl,by decide +kernel,rfl,by decide +kernel,by decide +kernel⟩
theorem Ux (F:Fun K "is_rest" "is_rest" Cw f fd) (d_added_up:jg P w K mg base "added_up" 2 ["atoms","rows"] (_root_.K.zf)) (d_is_rest_row:jg P w K mg base "is_rest_row" 4 ["atoms","divisor","row"] (_root_.K.nj)) (b_all:mg "all" = none):Ce P w K mg base CX0 5 f fd ["atoms","divisor","rows"] (spF K (["atoms","divisor","rows"]:List Str).length _root_.K.Cg):=by
  have d_added_up:=d_added_up.mono (show 2≤4 by first | decide | omega)
  have d_is_rest_row:=d_is_rest_row.mono (show 4≤4 by first | decide | omega)
  refine qe (N:=["atoms","divisor","rows","whole"]) F Li (by decide)  fun cdv A outer s H E B hr=>?_
  have hu:=zx hr
  have hq:=hr.units
  have nd:(["atoms","divisor","rows","whole"]:List Str).Nodup:=Li.nd
  refine gq ?_ ?_
  · refine zm ?_ ?_ ?_
    · refine PW.pt ?_
      · refine Km ?_ ?_
        · exact u9 Jj (au 1 (pv 1)) bx (mq _)
        · refine Ld ?_
          · refine Fd ?_
            · refine xu ?_
              · refine jx ?_
                · refine qg (Gg (by rfl)) ?_ ?_ PyProof.Rows.boot_all ?_
                  · exact by rfl
                  · exact b_all
                  · refine ao ?_ ?_
                    · refine Bx ?_
                      · refine Dj (N:=["row","atoms","divisor"]) ?_ ?_ ?_ ?_ ?_ ?_ ?_ ?_
                        · exact ⟨rfl,fun j k h=>match j,h with | 0,h=>(by cases h; exact ⟨_,rfl,rfl,⟨.inl rfl,.inr (.inl rfl),.inl rfl⟩⟩) | 1,h=>(by cases h; exact ⟨_,rfl,rfl,⟨.inl rfl,.inr (.inl rfl),.inl rfl⟩⟩) | _+2,h=>(by cases h)⟩
                        · exact ⟨rfl,rfl,by decide +kernel,by decide +kernel⟩
                        · exact rfl
                        · exact yw (au 2 (pv 2))
                        · exact yu
                        · exact fun C s₀ H₀ ex pn=>pgE fun B=>(wj 0 (jr (show (["row","atoms","divisor"]:List Str).Nodup by decide +kernel) rfl (Or.inl rfl)))
                        · exact fun C s₀ H₀ ex pn=>Bb
                        · exact fun C s₀ H₀ ex pn=>peE fun B=>(iu d_is_rest_row hr (by rfl) (ao (au 1 (pv 1)) (ao (au 2 (pv 2)) (ao (au 0 (pv 0)) dh))) (cu (cu (cu eq_nil))))
                    · exact dh
    · exact jh (m5 Cv)
    · exact um
  · refine gq ?_ ?_
    · exact mz 3 (m6 nd rfl (Or.inl rfl) (iu d_added_up hr (by rfl) (ao (au 0 (pv 0)) (ao (au 2 (pv 2)) dh)) (cu (cu eq_nil)))) (fun _ _ _ h=>h)
    · refine jh ?_
      · refine m5 ?_
        · refine Cq ?_ ?_
          · exact Am (Df hq) (jj qx (jk hu (au 3 (pv 3)) bx (fun _ _=>rfl)) (au 1 (pv 1))) bx (mq _)
          · refine Ei ?_
            · refine jx ?_
              · refine qg (Gg (by rfl)) ?_ ?_ PyProof.Rows.boot_all ?_
                · exact by rfl
                · exact b_all
                · refine ao ?_ ?_
                  · refine Bx ?_
                    · refine Dj (N:=["box","times","divisor"]) ?_ ?_ ?_ ?_ ?_ ?_ ?_ ?_
                      · exact ⟨rfl,fun j k h=>match j,h with | 0,h=>(by cases h; exact ⟨_,rfl,rfl,⟨.inl rfl,.inr (.inl rfl),.inl rfl⟩⟩) | _+1,h=>(by cases h)⟩
                      · exact ⟨rfl,rfl,by decide +kernel,by decide +kernel⟩
                      · exact rfl
                      · exact yw (jk hu (au 3 (pv 3)) bx (fun _ _=>rfl))
                      · exact yu
                      · exact fun C s₀ H₀ ex pn=>pgE fun B=>(Ef (is:=[0,1]) (Dh rfl (n6 (jr (show (["box","times","divisor"]:List Str).Nodup by decide +kernel) rfl (Or.inl rfl)) (n6 (jr (show (["box","times","divisor"]:List Str).Nodup by decide +kernel) rfl (Or.inl rfl)) Bf))))
                      · exact fun C s₀ H₀ ex pn=>Bb
                      · exact fun C s₀ H₀ ex pn=>peE fun B=>(Am (Af hq) (jj qx (au 1 (pv 1)) (au 2 (pv 2))) bx (mq _))
                  · exact dh
theorem Uw (F:Fun K "is_rest" "is_rest" Cw f fd) (hmg:mg "is_rest" = some (.ref f)) (d_added_up:jg P w K mg base "added_up" 2 ["atoms","rows"] (_root_.K.zf)) (d_is_rest_row:jg P w K mg base "is_rest_row" 4 ["atoms","divisor","row"] (_root_.K.nj)) (b_all:mg "all" = none):jg P w K mg base "is_rest" 5 ["atoms","divisor","rows"] _root_.K.Cg :=
  ⟨f,fd,Ux F d_added_up d_is_rest_row b_all,F.binds (ps:=["atoms","divisor","rows"]) fun _ _ _ _ _ _ us hl=>bd3 (fun _ _ _=>rfl) us hl,F.kp,hmg⟩
noncomputable abbrev Aw:Stmt:=top 13
theorem Ht:nq ["thing","parts"] ["thing"] (iz Aw):=⟨rfl,rfl,rfl,by decide +kernel,rfl,by decide +kernel,by decide +kernel⟩
theorem Ov (F:Fun K "plain_row" "plain_row" Aw f fd) (d_is_whole:jg P w K mg base "is_whole" 1 ["thing"] (_root_.K.uy)) (d_plain_tuple:jg P w K mg base "plain_tuple" 1 ["thing"] (_root_.K.jy)) (b_all:mg "all" = none) (b_int:mg "int" = none) (b_tuple:mg "tuple" = none):Ce P w K mg base CX0 2 f fd ["thing"] (spF K (["thing"]:List Str).length _root_.K.yg):=by
  have d_is_whole:=d_is_whole.mono (show 1≤1 by first | decide | omega)
  have d_plain_tuple:=d_plain_tuple.mono (show 1≤1 by first | decide | omega)
  refine qe (N:=["thing","parts"]) F Ht (by decide)  fun cdv A outer s H E B hr=>?_
  have hu:=zx hr
  have hq:=hr.units
  have nd:(["thing","parts"]:List Str).Nodup:=Ht.nd
  refine gq ?_ ?_
  · exact mz 1 (m6 nd rfl (Or.inl rfl) (iu d_plain_tuple hr (by rfl) (ao (au 0 (pv 0)) dh) (cu eq_nil))) (fun _ _ _ h=>h)
  · refine jh ?_
    · refine m5 ?_
      · refine Tt ?_ ?_ ?_
        · refine xu ?_
          · refine jx ?_
            · refine qg (Gg (by rfl)) ?_ ?_ PyProof.Rows.boot_all ?_
              · exact by rfl
              · exact b_all
              · refine ao ?_ ?_
                · refine Bx ?_
                  · refine Dj (N:=["part"]) ?_ ?_ ?_ ?_ ?_ ?_ ?_ ?_
                    · exact ⟨rfl,fun j k h=>match j,h with | _+0,h=>(by cases h)⟩
                    · exact ⟨rfl,rfl,by decide +kernel,by decide +kernel⟩
                    · exact rfl
                    · exact yw (au 1 (pv 1))
                    · exact yu
                    · exact fun C s₀ H₀ ex pn=>pgE fun B=>(wj 0 (jr (show (["part"]:List Str).Nodup by decide +kernel) rfl (Or.inl rfl)))
                    · exact fun C s₀ H₀ ex pn=>Bb
                    · exact fun C s₀ H₀ ex pn=>peE fun B=>(iu d_is_whole hr (by rfl) (ao (au 0 (pv 0)) dh) (cu eq_nil))
                · exact dh
        · refine jx ?_
          · refine qt yq ?_ ?_ PyProof.Rows.boot_tuple ?_
            · exact by rfl
            · exact b_tuple
            · refine ao ?_ ?_
              · refine Bx ?_
                · refine Dj (N:=["part"]) ?_ ?_ ?_ ?_ ?_ ?_ ?_ ?_
                  · exact ⟨rfl,fun j k h=>match j,h with | _+0,h=>(by cases h)⟩
                  · exact ⟨rfl,rfl,by decide +kernel,by decide +kernel⟩
                  · exact rfl
                  · exact yw (au 1 (pv 1))
                  · exact yu
                  · exact fun C s₀ H₀ ex pn=>pgE fun B=>(wj 0 (jr (show (["part"]:List Str).Nodup by decide +kernel) rfl (Or.inl rfl)))
                  · exact fun C s₀ H₀ ex pn=>Bb
                  · exact fun C s₀ H₀ ex pn=>peE fun B=>(jx (qt Cr (by rfl) b_int PyProof.Rows.boot_int (ao (au 0 (pv 0)) dh)))
              · exact dh
        · exact je dh (iy gb (by decide))
theorem Nb (F:Fun K "plain_row" "plain_row" Aw f fd) (hmg:mg "plain_row" = some (.ref f)) (d_is_whole:jg P w K mg base "is_whole" 1 ["thing"] (_root_.K.uy)) (d_plain_tuple:jg P w K mg base "plain_tuple" 1 ["thing"] (_root_.K.jy)) (b_all:mg "all" = none) (b_int:mg "int" = none) (b_tuple:mg "tuple" = none):jg P w K mg base "plain_row" 2 ["thing"] _root_.K.yg :=
  ⟨f,fd,Ov F d_is_whole d_plain_tuple b_all b_int b_tuple,F.binds (ps:=["thing"]) fun _ _ _ _ _ _ us hl=>bd1 (fun _=>rfl) us hl,F.kp,hmg⟩
noncomputable abbrev zu:Stmt:=top 12
theorem Gp:nq ["thing"] ["thing"] (iz zu):=⟨rfl,rfl,rfl,by decide +kernel,rfl,by decide +kernel,by decide +kernel⟩
theorem Mh (F:Fun K "plain_rows" "plain_rows" zu f fd) (d_plain_row:jg P w K mg base "plain_row" 2 ["thing"] (_root_.K.yg)) (d_plain_tuple:jg P w K mg base "plain_tuple" 1 ["thing"] (_root_.K.jy)):Ce P w K mg base CX0 3 f fd ["thing"] (spF K (["thing"]:List Str).length _root_.K.su):=by
  have d_plain_row:=d_plain_row.mono (show 2≤2 by first | decide | omega)
  have d_plain_tuple:=d_plain_tuple.mono (show 1≤2 by first | decide | omega)
  refine qe (N:=["thing"]) F Gp (by decide)  fun cdv A outer s H E B hr=>?_
  have hu:=zx hr
  have hq:=hr.units
  have nd:(["thing"]:List Str).Nodup:=Gp.nd
  refine jh ?_
  · refine m5 ?_
    · refine Bx ?_
      · refine Dj (N:=["row"]) ?_ ?_ ?_ ?_ ?_ ?_ ?_ ?_
        · exact ⟨rfl,fun j k h=>match j,h with | _+0,h=>(by cases h)⟩
        · exact ⟨rfl,rfl,by decide +kernel,by decide +kernel⟩
        · exact rfl
        · exact yw (iu d_plain_tuple hr (by rfl) (ao (au 0 (pv 0)) dh) (cu eq_nil))
        · exact yu
        · exact fun C s₀ H₀ ex pn=>pgE fun B=>(wj 0 (jr (show (["row"]:List Str).Nodup by decide +kernel) rfl (Or.inl rfl)))
        · exact fun C s₀ H₀ ex pn=>Bb
        · exact fun C s₀ H₀ ex pn=>peE fun B=>(iu d_plain_row hr (by rfl) (ao (au 0 (pv 0)) dh) (cu eq_nil))
theorem Ms (F:Fun K "plain_rows" "plain_rows" zu f fd) (hmg:mg "plain_rows" = some (.ref f)) (d_plain_row:jg P w K mg base "plain_row" 2 ["thing"] (_root_.K.yg)) (d_plain_tuple:jg P w K mg base "plain_tuple" 1 ["thing"] (_root_.K.jy)):jg P w K mg base "plain_rows" 3 ["thing"] _root_.K.su :=
  ⟨f,fd,Mh F d_plain_row d_plain_tuple,F.binds (ps:=["thing"]) fun _ _ _ _ _ _ us hl=>bd1 (fun _=>rfl) us hl,F.kp,hmg⟩
noncomputable abbrev v7:Stmt:=top 10
theorem Ec:nq ["names","lists","paper","parts"] ["names","lists","paper"] (iz v7):=⟨rfl,rfl,rfl,by decide +kernel,rfl,by decide +kernel,by decide +kernel⟩
theorem Ib (F:Fun K "papers_within" "papers_within" v7 f fd) (d_is_kind:jg P w K mg base "is_kind" 1 ["parts","kind","length"] (_root_.K.pq)) (d_is_rest:jg P w K mg base "is_rest" 5 ["atoms","divisor","rows"] (_root_.K.Cg)) (d_is_sum:jg P w K mg base "is_sum" 4 ["atoms","rows"] (_root_.K.G9)) (d_is_whole:jg P w K mg base "is_whole" 1 ["thing"] (_root_.K.uy)) (d_papers_of_cut:jg P w K mg base "papers_of_cut" 2 ["names","lists","box","number","papers"] (_root_.K.zy)) (d_papers_of_or:jg P w K mg base "papers_of_or" 2 ["lists","number","papers"] (_root_.K.Aj)) (d_plain_rows:jg P w K mg base "plain_rows" 3 ["thing"] (_root_.K.su)) (d_plain_tuple:jg P w K mg base "plain_tuple" 1 ["thing"] (_root_.K.jy)) (b_int:mg "int" = none):Ce P w K mg base CX0 6 f fd ["names","lists","paper"] (spF K (["names","lists","paper"]:List Str).length _root_.K.nu):=by
  have d_is_kind:=d_is_kind.mono (show 1≤5 by first | decide | omega)
  have d_is_rest:=d_is_rest.mono (show 5≤5 by first | decide | omega)
  have d_is_sum:=d_is_sum.mono (show 4≤5 by first | decide | omega)
  have d_is_whole:=d_is_whole.mono (show 1≤5 by first | decide | omega)
  have d_papers_of_cut:=d_papers_of_cut.mono (show 2≤5 by first | decide | omega)
  have d_papers_of_or:=d_papers_of_or.mono (show 2≤5 by first | decide | omega)
  have d_plain_rows:=d_plain_rows.mono (show 3≤5 by first | decide | omega)
  have d_plain_tuple:=d_plain_tuple.mono (show 1≤5 by first | decide | omega)
  refine qe (N:=["names","lists","paper","parts"]) F Ec (by decide)  fun cdv A outer s H E B hr=>?_
  have hu:=zx hr
  have hq:=hr.units
  have nd:(["names","lists","paper","parts"]:List Str).Nodup:=Ec.nd
  refine gq ?_ ?_
  · exact mz 3 (m6 nd rfl (Or.inl rfl) (iu d_plain_tuple hr (by rfl) (ao (au 2 (pv 2)) dh) (cu eq_nil))) (fun _ _ _ h=>h)
  · refine gq ?_ ?_
    · refine zm ?_ ?_ ?_
      · refine PW.pt ?_
        · exact Hx (xu (iu d_is_kind hr (by rfl) (ao (au 3 (pv 3)) (ao uh (ao bx dh))) (cu (cu (cu eq_nil))))) (Gy (xu (iu d_is_whole hr (by rfl) (ao (jk hu (au 3 (pv 3)) bx (fun _ _=>rfl)) dh) (cu eq_nil))))
      · refine jh ?_
        · refine m5 ?_
          · refine iu d_papers_of_or ?_ ?_ ?_ ?_
            · exact hr
            · exact by rfl
            · exact ao (au 1 (pv 1)) (ao (jx (qt Cr (by rfl) b_int PyProof.Rows.boot_int (ao (jk hu (au 3 (pv 3)) bx (fun _ _=>rfl)) dh))) (ao (jk hu (au 3 (pv 3)) bx (fun _ _=>rfl)) dh))
            · exact cu (cu (cu eq_nil))
      · exact um
    · refine gq ?_ ?_
      · refine zm ?_ ?_ ?_
        · refine PW.pt ?_
          · exact Hx (xu (iu d_is_kind hr (by rfl) (ao (au 3 (pv 3)) (ao uh (ao bx dh))) (cu (cu (cu eq_nil))))) (Gy (xu (iu d_is_whole hr (by rfl) (ao (jk hu (au 3 (pv 3)) bx (fun _ _=>rfl)) dh) (cu eq_nil))))
        · refine jh ?_
          · refine m5 ?_
            · refine iu d_papers_of_cut ?_ ?_ ?_ ?_
              · exact hr
              · exact by rfl
              · refine ao ?_ ?_
                · exact au 0 (pv 0)
                · refine ao ?_ ?_
                  · exact au 1 (pv 1)
                  · exact ao (jk hu (au 3 (pv 3)) bx (fun _ _=>rfl)) (ao (jx (qt Cr (by rfl) b_int PyProof.Rows.boot_int (ao (jk hu (au 3 (pv 3)) bx (fun _ _=>rfl)) dh))) (ao (ux (au 3 (pv 3)) (w6 bx) zj) dh))
              · exact cu (cu (cu (cu (cu eq_nil))))
        · exact um
      · refine gq ?_ ?_
        · refine zm ?_ ?_ ?_
          · refine PW.pt ?_
            · refine Hx ?_ ?_
              · exact xu (iu d_is_kind hr (by rfl) (ao (au 3 (pv 3)) (ao uh (ao bx dh))) (cu (cu (cu eq_nil))))
              · exact Gy (xu (iu d_is_sum hr (by rfl) (ao (jk hu (au 1 (pv 1)) bx (fun _ _=>rfl)) (ao (iu d_plain_rows hr (by rfl) (ao (jk hu (au 3 (pv 3)) bx (fun _ _=>rfl)) dh) (cu eq_nil)) dh)) (cu (cu eq_nil))))
          · exact jh (m5 (xr dh (iy gb (by decide))))
          · exact um
        · refine gq ?_ ?_
          · refine zm ?_ ?_ ?_
            · refine PW.pt ?_
              · refine Hx ?_ ?_
                · exact xu (iu d_is_kind hr (by rfl) (ao (au 3 (pv 3)) (ao uh (ao bx dh))) (cu (cu (cu eq_nil))))
                · refine Hx ?_ ?_
                  · exact xu (iu d_is_whole hr (by rfl) (ao (jk hu (au 3 (pv 3)) bx (fun _ _=>rfl)) dh) (cu eq_nil))
                  · refine Gy ?_
                    · refine xu ?_
                      · refine iu d_is_rest ?_ ?_ ?_ ?_
                        · exact hr
                        · exact by rfl
                        · refine ao ?_ ?_
                          · exact jk hu (au 1 (pv 1)) bx (fun _ _=>rfl)
                          · exact ao (jx (qt Cr (by rfl) b_int PyProof.Rows.boot_int (ao (jk hu (au 3 (pv 3)) bx (fun _ _=>rfl)) dh))) (ao (iu d_plain_rows hr (by rfl) (ao (jk hu (au 3 (pv 3)) bx (fun _ _=>rfl)) dh) (cu eq_nil)) dh)
                        · exact cu (cu (cu eq_nil))
            · exact jh (m5 (xr dh (iy gb (by decide))))
            · exact um
          · exact jh (m5 Ed)
theorem Ij (F:Fun K "papers_within" "papers_within" v7 f fd) (hmg:mg "papers_within" = some (.ref f)) (d_is_kind:jg P w K mg base "is_kind" 1 ["parts","kind","length"] (_root_.K.pq)) (d_is_rest:jg P w K mg base "is_rest" 5 ["atoms","divisor","rows"] (_root_.K.Cg)) (d_is_sum:jg P w K mg base "is_sum" 4 ["atoms","rows"] (_root_.K.G9)) (d_is_whole:jg P w K mg base "is_whole" 1 ["thing"] (_root_.K.uy)) (d_papers_of_cut:jg P w K mg base "papers_of_cut" 2 ["names","lists","box","number","papers"] (_root_.K.zy)) (d_papers_of_or:jg P w K mg base "papers_of_or" 2 ["lists","number","papers"] (_root_.K.Aj)) (d_plain_rows:jg P w K mg base "plain_rows" 3 ["thing"] (_root_.K.su)) (d_plain_tuple:jg P w K mg base "plain_tuple" 1 ["thing"] (_root_.K.jy)) (b_int:mg "int" = none):jg P w K mg base "papers_within" 6 ["names","lists","paper"] _root_.K.nu :=
  ⟨f,fd,Ib F d_is_kind d_is_rest d_is_sum d_is_whole d_papers_of_cut d_papers_of_or d_plain_rows d_plain_tuple b_int,F.binds (ps:=["names","lists","paper"]) fun _ _ _ _ _ _ us hl=>bd3 (fun _ _ _=>rfl) us hl,F.kp,hmg⟩
noncomputable abbrev yh:Stmt:=top 6
theorem G3:nq ["rows","atoms","box","low","high"] ["rows"] (iz yh):=⟨rfl,rfl,rfl,by decide +kernel,rfl,by decide +kernel,by decide +kernel⟩
theorem Ka (F:Fun K "first_lists" "first_lists" yh f fd) (d_at_least:jg P w K mg base "at_least" 1 ["box","number"] (_root_.K.zc)) (d_at_most:jg P w K mg base "at_most" 1 ["box","number"] (_root_.K.Ao)):Ce P w K mg base CX0 2 f fd ["rows"] (spF K (["rows"]:List Str).length _root_.K.yj):=by
  have d_at_least:=d_at_least.mono (show 1≤1 by first | decide | omega)
  have d_at_most:=d_at_most.mono (show 1≤1 by first | decide | omega)
  refine qe (N:=["rows","atoms","box","low","high"]) F G3 (by decide)  fun cdv A outer s H E B hr=>?_
  have hu:=zx hr
  have hq:=hr.units
  have nd:(["rows","atoms","box","low","high"]:List Str).Nodup:=G3.nd
  refine gq ?_ ?_
  · exact Dt 1 (m6 nd rfl (Or.inl rfl) (Hw dh (iy gb (by decide)))) (fun _ _ _ h=>h)
  · refine gq ?_ ?_
    · refine Ck ?_ ?_ ?_ ?_ ?_ ?_
      · exact PassesOwn.never
      · exact rfl
      · exact yw (au 0 (pv 0))
      · exact Ef (is:=[2,3,4]) (Dh rfl (n6 (jr nd rfl (Or.inl rfl)) (n6 (jr nd rfl (Or.inl rfl)) (n6 (jr nd rfl (Or.inl rfl)) Bf))))
      · refine gq ?_ ?_
        · exact tu 1 (vp (Dl PySem.F.plainAttrs_list PySem.F.slot_list_append PySem.F.type_list_append qz (pv 1) (qp (iu d_at_least hr (by rfl) (ao (au 2 (pv 2)) (ao (au 3 (pv 3)) dh)) (cu (cu eq_nil))) vf)))
        · exact jh (tu 1 (vp (Dl PySem.F.plainAttrs_list PySem.F.slot_list_append PySem.F.type_list_append qz (pv 1) (qp (iu d_at_most hr (by rfl) (ao (au 2 (pv 2)) (ao (au 4 (pv 4)) dh)) (cu (cu eq_nil))) vf))))
      · exact yu
    · exact jh (m5 (je (ao (au 1 (pv 1)) (ao (xr dh (iy gb (by decide))) dh)) (iy (bf (bf gb)) (by decide))))
theorem Kf (F:Fun K "first_lists" "first_lists" yh f fd) (hmg:mg "first_lists" = some (.ref f)) (d_at_least:jg P w K mg base "at_least" 1 ["box","number"] (_root_.K.zc)) (d_at_most:jg P w K mg base "at_most" 1 ["box","number"] (_root_.K.Ao)):jg P w K mg base "first_lists" 2 ["rows"] _root_.K.yj :=
  ⟨f,fd,Ka F d_at_least d_at_most,F.binds (ps:=["rows"]) fun _ _ _ _ _ _ us hl=>bd1 (fun _=>rfl) us hl,F.kp,hmg⟩
noncomputable abbrev Ea:Stmt:=top 5
theorem O2:nq ["rows","forms","paper","names","waiting","reading","inner"] ["rows","forms","paper"] (iz Ea):=⟨rfl,rfl,rfl,by decide +kernel,rfl,by decide +kernel,by decide +kernel⟩
theorem Wd (F:Fun K "let_by" "let_by" Ea f fd) (d_first_lists:jg P w K mg base "first_lists" 2 ["rows"] (_root_.K.yj)) (d_laid_in:jg P w K mg base "laid_in" 1 ["lists","forms"] (_root_.K.vg)) (d_papers_within:jg P w K mg base "papers_within" 6 ["names","lists","paper"] (_root_.K.nu)) (b_len:mg "len" = none) (c_MOST_DEEP:∃ tk,mg "MOST_DEEP" = some (.int 90 tk)):Ce P w K mg base CX0 7 f fd ["rows","forms","paper"] (spF K (["rows","forms","paper"]:List Str).length _root_.K.oh):=by
  have d_first_lists:=d_first_lists.mono (show 2≤6 by first | decide | omega)
  have d_laid_in:=d_laid_in.mono (show 1≤6 by first | decide | omega)
  have d_papers_within:=d_papers_within.mono (show 6≤6 by first | decide | omega)
  refine qe (N:=["rows","forms","paper","names","waiting","reading","inner"]) F O2 (by decide)  fun cdv A outer s H E B hr=>?_
  have hu:=zx hr
  have hq:=hr.units
  have nd:(["rows","forms","paper","names","waiting","reading","inner"]:List Str).Nodup:=O2.nd
  refine gq ?_ ?_
  · exact mz 3 (Ja (N:=["box","low","high"]) ⟨rfl,rfl,by decide +kernel,by decide +kernel⟩ rfl (yw (au 0 (pv 0))) (fun C s₀ H₀ ex pn=>pgE fun B=>(Ef (is:=[0,1,2]) (Dh rfl (n6 (jr (show (["box","low","high"]:List Str).Nodup by decide +kernel) rfl (Or.inl rfl)) (n6 (jr (show (["box","low","high"]:List Str).Nodup by decide +kernel) rfl (Or.inl rfl)) (n6 (jr (show (["box","low","high"]:List Str).Nodup by decide +kernel) rfl (Or.inl rfl)) Bf)))))) (fun C s₀ H₀ ex pn=>Bb) (fun C s₀ H₀ ex pn=>peE fun B=>(au 0 (pv 0))) (jr nd rfl (Or.inl rfl)) rfl) (fun σ H Q h=>Ku ⟨rfl,fun j k h=>match j,h with | _+0,h=>(by cases h)⟩ yu (Lf h))
  · refine gq ?_ ?_
    · refine @Dt _ _ _ _ (fOf _ _ _) _ ?_ (fun _ _ _ h=>h)
      · refine m6 ?_ ?_ ?_ ?_
        · exact nd
        · exact rfl
        · exact Or.inl rfl
        · refine Hw ?_ ?_
          · refine ao ?_ ?_
            · refine je ?_ ?_
              · exact ao (iu d_laid_in hr (by rfl) (ao (iu d_first_lists hr (by rfl) (ao (au 0 (pv 0)) dh) (cu eq_nil)) (ao (au 1 (pv 1)) dh)) (cu (cu eq_nil))) (ao (au 2 (pv 2)) (ao bx dh))
              · exact iy (bf (bf (bf gb))) (by decide)
            · exact dh
          · exact iy (bf gb) (by decide)
    · refine gq ?_ ?_
      · refine Ud _ ?_ ?_ ?_
        · exact PassesOwn.never
        · exact u9 Um (Bc 4 b_len rfl (pv 4)) bx (mq _)
        · refine gq ?_ ?_
          · exact a1v 4 5 (Tr (a1h PySem.F.plainAttrs_list PySem.F.slot_list_pop PySem.F.type_list_pop a1q (pv 4)) (jr nd rfl (Or.inr rfl)))
          · refine gq ?_ ?_
            · exact mz 6 (m6 nd rfl (Or.inl rfl) Ed) (fun _ _ _ h=>h)
            · refine gq ?_ ?_
              · refine zm ?_ ?_ ?_
                · exact u9 a1f (jk hu (au 5 (pv 5)) bx (fun _ _=>rfl)) (Z9 (by rfl) c_MOST_DEEP) (mq _)
                · refine jh ?_
                  · exact mz 6 (m6 nd rfl (Or.inl rfl) (iu d_papers_within hr (by rfl) (ao (au 3 (pv 3)) (ao (jk hu (au 5 (pv 5)) bx (fun _ _=>rfl)) (ao (jk hu (au 5 (pv 5)) bx (fun _ _=>rfl)) dh))) (cu (cu (cu eq_nil))))) (fun _ _ _ h=>h)
                · exact um
              · refine gq ?_ ?_
                · exact zm (u9 a1n (au 6 (pv 6)) Ed (mq _))   (jh (m5 Cv))   um
                · refine jh ?_
                  · refine Jq _ ?_
                    · refine vp ?_
                      · refine Dl PySem.F.plainAttrs_list PySem.F.slot_list_extend PySem.F.type_list_extend Hh ?_ ?_
                        · exact pv 4
                        · refine qp ?_ ?_
                          · refine Bx ?_
                            · refine Dj (N:=["lists","one","reading"]) ?_ ?_ ?_ ?_ ?_ ?_ ?_ ?_
                              · exact ⟨rfl,fun j k h=>match j,h with | 0,h=>(by cases h; exact ⟨_,rfl,rfl,⟨.inl rfl,.inr (.inl rfl),.inl rfl⟩⟩) | _+1,h=>(by cases h)⟩
                              · exact ⟨rfl,rfl,by decide +kernel,by decide +kernel⟩
                              · exact rfl
                              · exact yw (au 6 (pv 6))
                              · exact yu
                              · exact fun C s₀ H₀ ex pn=>pgE fun B=>(Ef (is:=[0,1]) (Dh rfl (n6 (jr (show (["lists","one","reading"]:List Str).Nodup by decide +kernel) rfl (Or.inl rfl)) (n6 (jr (show (["lists","one","reading"]:List Str).Nodup by decide +kernel) rfl (Or.inl rfl)) Bf))))
                              · exact fun C s₀ H₀ ex pn=>Bb
                              · exact fun C s₀ H₀ ex pn=>peE fun B=>(je (ao (au 0 (pv 0)) (ao (au 1 (pv 1)) (ao (jj jq (jk hu (au 2 (pv 2)) bx (fun _ _=>rfl)) bx) dh))) (iy (bf (bf (bf gb))) (by decide)))
                          · exact vf
      · exact jh (m5 Cv)
theorem Wx (F:Fun K "let_by" "let_by" Ea f fd) (hmg:mg "let_by" = some (.ref f)) (d_first_lists:jg P w K mg base "first_lists" 2 ["rows"] (_root_.K.yj)) (d_laid_in:jg P w K mg base "laid_in" 1 ["lists","forms"] (_root_.K.vg)) (d_papers_within:jg P w K mg base "papers_within" 6 ["names","lists","paper"] (_root_.K.nu)) (b_len:mg "len" = none) (c_MOST_DEEP:∃ tk,mg "MOST_DEEP" = some (.int 90 tk)):jg P w K mg base "let_by" 7 ["rows","forms","paper"] _root_.K.oh :=
  ⟨f,fd,Wd F d_first_lists d_laid_in d_papers_within b_len c_MOST_DEEP,F.binds (ps:=["rows","forms","paper"]) fun _ _ _ _ _ _ us hl=>bd3 (fun _ _ _=>rfl) us hl,F.kp,hmg⟩
noncomputable abbrev yc:Stmt:=top 27
theorem G5:nq ["_law_script","_law_k"] ["_law_script","_law_k"] (iz yc):=⟨rfl,rfl,rfl,by decide +kernel,rfl,by decide +kernel,by decide +kernel⟩
theorem Kl (F:Fun K "_law_cell_at" "_law_cell_at" yc f fd) (b_len:mg "len" = none):Ce P w K mg base CX0 1 f fd ["_law_script","_law_k"] (spF K (["_law_script","_law_k"]:List Str).length _root_.K.j6):=by
  refine qe (N:=["_law_script","_law_k"]) F G5 (by decide)  fun cdv A outer s H E B hr=>?_
  have hu:=zx hr
  have hq:=hr.units
  have nd:(["_law_script","_law_k"]:List Str).Nodup:=G5.nd
  exact gq (zm (u9 Jj (au 1 (pv 1)) (jx (qg ud (by rfl) b_len PySem.boot_len (ao (au 0 (pv 0)) dh))) (mq _))   (jh (m5 (jk hu (au 0 (pv 0)) (au 1 (pv 1)) (fun _ _=>rfl))))   um)   (jh (m5 bx))
theorem Kh (F:Fun K "_law_cell_at" "_law_cell_at" yc f fd) (hmg:mg "_law_cell_at" = some (.ref f)) (b_len:mg "len" = none):jg P w K mg base "_law_cell_at" 1 ["_law_script","_law_k"] _root_.K.j6 :=
  ⟨f,fd,Kl F b_len,F.binds (ps:=["_law_script","_law_k"]) fun _ _ _ _ _ _ us hl=>bd2 (fun _ _=>rfl) us hl,F.kp,hmg⟩
noncomputable abbrev zq:Stmt:=top 28
theorem Gf:nq ["_law_cell","_law_most"] ["_law_cell","_law_most"] (iz zq):=⟨rfl,rfl,rfl,by decide +kernel,rfl,by decide +kernel,by decide +kernel⟩
theorem Mi (F:Fun K "_law_signed" "_law_signed" zq f fd):Ce P w K mg base CX0 1 f fd ["_law_cell","_law_most"] (spF K (["_law_cell","_law_most"]:List Str).length _root_.K.qu):=by
  refine qe (N:=["_law_cell","_law_most"]) F Gf (by decide)  fun cdv A outer s H E B hr=>?_
  have hu:=zx hr
  have hq:=hr.units
  have nd:(["_law_cell","_law_most"]:List Str).Nodup:=Gf.nd
  exact gq (zm (u9 Jj (au 0 (pv 0)) bx (mq _))   (jh (m5 (Aq qj (jj qx (Aq qj (au 0 (pv 0))) (au 1 (pv 1))))))   um)   (jh (m5 (jj qx (au 0 (pv 0)) (au 1 (pv 1)))))
theorem M4 (F:Fun K "_law_signed" "_law_signed" zq f fd) (hmg:mg "_law_signed" = some (.ref f)):jg P w K mg base "_law_signed" 1 ["_law_cell","_law_most"] _root_.K.qu :=
  ⟨f,fd,Mi F,F.binds (ps:=["_law_cell","_law_most"]) fun _ _ _ _ _ _ us hl=>bd2 (fun _ _=>rfl) us hl,F.kp,hmg⟩
noncomputable abbrev Bw:Stmt:=top 29
theorem K4:nq ["_law_one","_law_other","_law_times","_law_book","_law_box","_law_many","_law_parts"] ["_law_one","_law_other","_law_times"] (iz Bw):=⟨rfl,rfl,rfl,by decide +kernel,rfl,by decide +kernel,by decide +kernel⟩
theorem Qq (F:Fun K "_law_plus" "_law_plus" Bw f fd) (b_dict:mg "dict" = none) (b_sorted:mg "sorted" = none) (b_tuple:mg "tuple" = none):Ce P w K mg base CX0 1 f fd ["_law_one","_law_other","_law_times"] (spF K (["_law_one","_law_other","_law_times"]:List Str).length _root_.K.jm):=by
  refine qe (N:=["_law_one","_law_other","_law_times","_law_book","_law_box","_law_many","_law_parts"]) F K4 (by decide)  fun cdv A outer s H E B hr=>?_
  have hu:=zx hr
  have hq:=hr.units
  have nd:(["_law_one","_law_other","_law_times","_law_book","_law_box","_law_many","_law_parts"]:List Str).Nodup:=K4.nd
  refine gq ?_ ?_
  · exact Dt 3 (m6 nd rfl (Or.inr rfl) (a4r rfl (by rfl) b_dict (jk hu (au 0 (pv 0)) bx (fun _ _=>rfl)))) (fun _ _ _ h=>h)
  · refine gq ?_ ?_
    · refine Ck ?_ ?_ ?_ ?_ ?_ ?_
      · exact PassesOwn.never
      · exact rfl
      · exact yw (jk hu (au 1 (pv 1)) bx (fun _ _=>rfl))
      · exact Ef (is:=[4,5]) (Dh rfl (n6 (jr nd rfl (Or.inl rfl)) (n6 (jr nd rfl (Or.inl rfl)) Bf)))
      · exact jh (Oh 3 hu (pv 3) (au 4 (pv 4)) (jj jq (O6 3 hu (pv 3) (au 4 (pv 4)) bx ⟨rfl,rfl,rfl,rfl⟩) (jj Cj (au 5 (pv 5)) (au 2 (pv 2)))) rfl)
      · exact yu
    · refine gq ?_ ?_
      · exact mz 6 (Ja (N:=["_law_box","_law_book"]) ⟨rfl,rfl,by decide +kernel,by decide +kernel⟩ rfl (yw (jx (qg (Hu (by rfl)) (by rfl) b_sorted PyProof.Rows.boot_sorted (ao (au 3 (pv 3)) dh)))) (fun C s₀ H₀ ex pn=>pgE fun B=>(wj 0 (jr (show (["_law_box","_law_book"]:List Str).Nodup by decide +kernel) rfl (Or.inl rfl)))) (fun C s₀ H₀ ex pn=>(Im fun B=>(u9 (Df hq) (jk hu (au 1 (pv 1)) (au 0 (pv 0)) (fun _ _=>rfl)) bx (mq _)))) (fun C s₀ H₀ ex pn=>peE fun B=>(je (ao (au 0 (pv 0)) (ao (jk hu (au 1 (pv 1)) (au 0 (pv 0)) (fun _ _=>rfl)) dh)) (iy (bf (bf gb)) (by decide)))) (jr nd rfl (Or.inl rfl)) rfl) (fun σ H Q h=>Ku ⟨rfl,fun j k h=>match j,h with | 0,h=>(by cases h; exact ⟨_,rfl,rfl,⟨.inl rfl,.inr (.inl rfl),.inl rfl⟩⟩) | _+1,h=>(by cases h)⟩ yu (Lf h))
      · refine jh ?_
        · refine m5 ?_
          · refine je ?_ ?_
            · exact ao (jj jq (jk hu (au 0 (pv 0)) bx (fun _ _=>rfl)) (jj Cj (jk hu (au 1 (pv 1)) bx (fun _ _=>rfl)) (au 2 (pv 2)))) (ao (jx (qt yq (by rfl) b_tuple PyProof.Rows.boot_tuple (ao (au 6 (pv 6)) dh))) dh)
            · exact iy (bf (bf gb)) (by decide)
theorem Ra (F:Fun K "_law_plus" "_law_plus" Bw f fd) (hmg:mg "_law_plus" = some (.ref f)) (b_dict:mg "dict" = none) (b_sorted:mg "sorted" = none) (b_tuple:mg "tuple" = none):jg P w K mg base "_law_plus" 1 ["_law_one","_law_other","_law_times"] _root_.K.jm :=
  ⟨f,fd,Qq F b_dict b_sorted b_tuple,F.binds (ps:=["_law_one","_law_other","_law_times"]) fun _ _ _ _ _ _ us hl=>bd3 (fun _ _ _=>rfl) us hl,F.kp,hmg⟩
noncomputable abbrev Bq:Stmt:=top 30
theorem J2:nq ["_law_script","_law_rows_here","_law_k","_law_cell","_law_low"] ["_law_script"] (iz Bq):=⟨rfl,rfl,rfl,by decide +kernel,rfl,by decide +kernel,by decide +kernel⟩
theorem Rn (F:Fun K "_law_rows" "_law_rows" Bq f fd) (d_law_cell_at:jg P w K mg base "_law_cell_at" 1 ["_law_script","_law_k"] (_root_.K.j6)) (d_law_signed:jg P w K mg base "_law_signed" 1 ["_law_cell","_law_most"] (_root_.K.qu)) (b_abs:mg "abs" = none) (b_range:mg "range" = none):Ce P w K mg base CX0 2 f fd ["_law_script"] (spF K (["_law_script"]:List Str).length _root_.K.Bk):=by
  have d_law_cell_at:=d_law_cell_at.mono (show 1≤1 by first | decide | omega)
  have d_law_signed:=d_law_signed.mono (show 1≤1 by first | decide | omega)
  refine qe (N:=["_law_script","_law_rows_here","_law_k","_law_cell","_law_low"]) F J2 (by decide)  fun cdv A outer s H E B hr=>?_
  have hu:=zx hr
  have hq:=hr.units
  have nd:(["_law_script","_law_rows_here","_law_k","_law_cell","_law_low"]:List Str).Nodup:=J2.nd
  refine gq ?_ ?_
  · exact Dt 1 (m6 nd rfl (Or.inl rfl) (Hw dh (iy gb (by decide)))) (fun _ _ _ h=>h)
  · refine gq ?_ ?_
    · refine Ck ?_ ?_ ?_ ?_ ?_ ?_
      · exact PassesOwn.never
      · exact rfl
      · exact Ir (by rfl) b_range (jj jq bx (jj qx (iu d_law_cell_at hr (by rfl) (ao (au 0 (pv 0)) (ao bx dh)) (cu (cu eq_nil))) bx))
      · exact wj 2 (jr nd rfl (Or.inl rfl))
      · refine gq ?_ ?_
        · exact mz 3 (m6 nd rfl (Or.inl rfl) (iu d_law_cell_at hr (by rfl) (ao (au 0 (pv 0)) (ao (jj jq bx (au 2 (pv 2))) dh)) (cu (cu eq_nil)))) (fun _ _ _ h=>h)
        · refine gq ?_ ?_
          · exact mz 4 (m6 nd rfl (Or.inl rfl) (iu d_law_signed hr (by rfl) (ao (au 3 (pv 3)) (ao (jj Ji bx bx) dh)) (cu (cu eq_nil)))) (fun _ _ _ h=>h)
          · refine jh ?_
            · refine tu _ ?_
              · refine vp ?_
                · refine Dl PySem.F.plainAttrs_list PySem.F.slot_list_append PySem.F.type_list_append qz ?_ ?_
                  · exact pv 1
                  · refine qp ?_ ?_
                    · refine je ?_ ?_
                      · refine ao ?_ ?_
                        · exact jk hu (xr (ao uh (ao uh (ao uh dh))) (iy (bf (bf (bf gb))) (by decide))) (au 2 (pv 2)) (fun _ _=>rfl)
                        · exact ao (au 4 (pv 4)) (ao (jj jq (au 4 (pv 4)) (jj qx (jj yp (jx (qg W7 (by rfl) b_abs PyProof.Rows.boot_abs (ao (au 3 (pv 3)) dh))) bx) (jj Ji bx bx))) dh)
                      · exact iy (bf (bf (bf gb))) (by decide)
                    · exact vf
      · exact Ik
    · exact jh (m5 (au 1 (pv 1)))
theorem Qv (F:Fun K "_law_rows" "_law_rows" Bq f fd) (hmg:mg "_law_rows" = some (.ref f)) (d_law_cell_at:jg P w K mg base "_law_cell_at" 1 ["_law_script","_law_k"] (_root_.K.j6)) (d_law_signed:jg P w K mg base "_law_signed" 1 ["_law_cell","_law_most"] (_root_.K.qu)) (b_abs:mg "abs" = none) (b_range:mg "range" = none):jg P w K mg base "_law_rows" 2 ["_law_script"] _root_.K.Bk :=
  ⟨f,fd,Rn F d_law_cell_at d_law_signed b_abs b_range,F.binds (ps:=["_law_script"]) fun _ _ _ _ _ _ us hl=>bd1 (fun _=>rfl) us hl,F.kp,hmg⟩
noncomputable abbrev Dc:Stmt:=top 31
theorem Lw:nq ["_law_cell","_law_rows_here","_law_total","_law_j","_law_many"] ["_law_cell","_law_rows_here"] (iz Dc):=⟨rfl,rfl,rfl,by decide +kernel,rfl,by decide +kernel,by decide +kernel⟩
theorem Vp (F:Fun K "_law_sum" "_law_sum" Dc f fd) (d_law_plus:jg P w K mg base "_law_plus" 1 ["_law_one","_law_other","_law_times"] (_root_.K.jm)) (d_law_signed:jg P w K mg base "_law_signed" 1 ["_law_cell","_law_most"] (_root_.K.qu)) (b_len:mg "len" = none) (b_range:mg "range" = none):Ce P w K mg base CX0 2 f fd ["_law_cell","_law_rows_here"] (spF K (["_law_cell","_law_rows_here"]:List Str).length _root_.K.Ak):=by
  have d_law_plus:=d_law_plus.mono (show 1≤1 by first | decide | omega)
  have d_law_signed:=d_law_signed.mono (show 1≤1 by first | decide | omega)
  refine qe (N:=["_law_cell","_law_rows_here","_law_total","_law_j","_law_many"]) F Lw (by decide)  fun cdv A outer s H E B hr=>?_
  have hu:=zx hr
  have hq:=hr.units
  have nd:(["_law_cell","_law_rows_here","_law_total","_law_j","_law_many"]:List Str).Nodup:=Lw.nd
  refine gq ?_ ?_
  · refine mz (te:=tOf _ _ _) _ ?_ (fun _ _ _ h=>h)
    · refine m6 ?_ ?_ ?_ ?_
      · exact nd
      · exact rfl
      · exact Or.inl rfl
      · exact je (ao (iu d_law_signed hr (by rfl) (ao (jj yp (au 0 (pv 0)) bx) (ao (jj Ji bx bx) dh)) (cu (cu eq_nil))) (ao (je dh (iy gb (by decide))) dh)) (iy (bf (bf gb)) (by decide))
  · refine gq ?_ ?_
    · refine Ck ?_ ?_ ?_ ?_ ?_ ?_
      · exact PassesOwn.never
      · exact rfl
      · exact Ir (by rfl) b_range (jx (qg ud (by rfl) b_len PySem.boot_len (ao (au 1 (pv 1)) dh)))
      · exact wj 3 (jr nd rfl (Or.inl rfl))
      · refine gq ?_ ?_
        · refine mz (te:=tOf _ _ _) _ ?_ (fun _ _ _ h=>h)
          · refine m6 ?_ ?_ ?_ ?_
            · exact nd
            · exact rfl
            · exact Or.inl rfl
            · refine jk ?_ ?_ ?_ ?_
              · exact hu
              · refine xr ?_ ?_
                · refine ao ?_ ?_
                  · exact jj Cu (jj qx (jj yp (au 0 (pv 0)) (jj jq bx (jj Cj bx (au 3 (pv 3))))) bx) bx
                  · exact ao (iu d_law_signed hr (by rfl) (ao (jj yp (au 0 (pv 0)) (jj jq bx (au 3 (pv 3)))) (ao (jj Ji bx bx) dh)) (cu (cu eq_nil))) dh
                · exact iy (bf (bf gb)) (by decide)
              · exact jj qx (jj yp (au 0 (pv 0)) bx) bx
              · exact fun _ _=>rfl
        · refine jh ?_
          · refine mz (te:=tOf _ _ _) _ ?_ (fun _ _ _ h=>h)
            · refine m6 ?_ ?_ ?_ ?_
              · exact nd
              · exact rfl
              · exact Or.inl rfl
              · refine iu d_law_plus ?_ ?_ ?_ ?_
                · exact hr
                · exact by rfl
                · refine ao ?_ ?_
                  · exact au 2 (pv 2)
                  · refine ao ?_ ?_
                    · refine je ?_ ?_
                      · exact ao bx (ao (je (ao (je (ao (jk hu (jk hu (au 1 (pv 1)) (au 3 (pv 3)) (fun _ _=>rfl)) bx (fun _ _=>rfl)) (ao bx dh)) (iy (bf (bf gb)) (by decide))) dh) (iy (bf gb) (by decide))) dh)
                      · exact iy (bf (bf gb)) (by decide)
                    · exact ao (au 4 (pv 4)) dh
                · exact cu (cu (cu eq_nil))
      · exact Ik
    · exact jh (m5 (au 2 (pv 2)))
theorem Va (F:Fun K "_law_sum" "_law_sum" Dc f fd) (hmg:mg "_law_sum" = some (.ref f)) (d_law_plus:jg P w K mg base "_law_plus" 1 ["_law_one","_law_other","_law_times"] (_root_.K.jm)) (d_law_signed:jg P w K mg base "_law_signed" 1 ["_law_cell","_law_most"] (_root_.K.qu)) (b_len:mg "len" = none) (b_range:mg "range" = none):jg P w K mg base "_law_sum" 2 ["_law_cell","_law_rows_here"] _root_.K.Ak :=
  ⟨f,fd,Vp F d_law_plus d_law_signed b_len b_range,F.binds (ps:=["_law_cell","_law_rows_here"]) fun _ _ _ _ _ _ us hl=>bd2 (fun _ _=>rfl) us hl,F.kp,hmg⟩
noncomputable abbrev Br:Stmt:=top 32
theorem Iz:nq ["_law_atoms","_law_m","_law_row","_law_place"] ["_law_atoms","_law_m","_law_row"] (iz Br):=⟨rfl,rfl,rfl,by decide +kernel,rfl,by decide +kernel,by decide +kernel⟩
theorem R8 (F:Fun K "_law_part" "_law_part" Br f fd) (d_law_plus:jg P w K mg base "_law_plus" 1 ["_law_one","_law_other","_law_times"] (_root_.K.jm)) (b_bool:mg "bool" = none) (b_isinstance:mg "isinstance" = none) (b_len:mg "len" = none):Ce P w K mg base CX0 2 f fd ["_law_atoms","_law_m","_law_row"] (spF K (["_law_atoms","_law_m","_law_row"]:List Str).length _root_.K.u6):=by
  have d_law_plus:=d_law_plus.mono (show 1≤1 by first | decide | omega)
  refine qe (N:=["_law_atoms","_law_m","_law_row","_law_place"]) F Iz (by decide)  fun cdv A outer s H E B hr=>?_
  have hu:=zx hr
  have hq:=hr.units
  have nd:(["_law_atoms","_law_m","_law_row","_law_place"]:List Str).Nodup:=Iz.nd
  refine gq ?_ ?_
  · refine zm ?_ ?_ ?_
    · exact u9 (Af hq) (jx (qg ud (by rfl) b_len PySem.boot_len (ao (au 2 (pv 2)) dh))) bx (mq _)
    · refine gq ?_ ?_
      · refine zm ?_ ?_ ?_
        · refine PW.pt ?_
          · refine Km ?_ ?_
            · exact xu (Bs (by rfl) b_isinstance (by rfl) b_bool (jk hu (au 2 (pv 2)) bx (fun _ _=>rfl)))
            · refine Km ?_ ?_
              · exact u9 Jj (jk hu (au 2 (pv 2)) bx (fun _ _=>rfl)) bx (mq _)
              · refine Km ?_ ?_
                · exact u9 a1l (jk hu (au 2 (pv 2)) bx (fun _ _=>rfl)) (jx (qg ud (by rfl) b_len PySem.boot_len (ao (au 0 (pv 0)) dh))) (mq _)
                · exact Ld (u9 (Df hq) (jk hu (jk hu (au 0 (pv 0)) (jk hu (au 2 (pv 2)) bx (fun _ _=>rfl)) (fun _ _=>rfl)) bx (fun _ _=>rfl)) uh (mq _))
        · exact jh (m5 Ed)
        · exact um
      · refine gq ?_ ?_
        · refine zm ?_ ?_ ?_
          · exact u9 (Df hq) (jj qx (jj Cj (jk hu (au 2 (pv 2)) bx (fun _ _=>rfl)) (jk hu (jk hu (au 0 (pv 0)) (jk hu (au 2 (pv 2)) bx (fun _ _=>rfl)) (fun _ _=>rfl)) bx (fun _ _=>rfl))) (au 1 (pv 1))) bx (mq _)
          · exact jh (m5 Ed)
          · exact um
        · refine jh ?_
          · refine m5 ?_
            · refine iu d_law_plus ?_ ?_ ?_ ?_
              · exact hr
              · exact by rfl
              · refine ao ?_ ?_
                · exact je (ao bx (ao (je dh (iy gb (by decide))) dh)) (iy (bf (bf gb)) (by decide))
                · exact ao (jk hu (jk hu (au 0 (pv 0)) (jk hu (au 2 (pv 2)) bx (fun _ _=>rfl)) (fun _ _=>rfl)) bx (fun _ _=>rfl)) (ao (jk hu (au 2 (pv 2)) bx (fun _ _=>rfl)) dh)
              · exact cu (cu (cu eq_nil))
    · exact um
  · refine gq ?_ ?_
    · refine Ck ?_ ?_ ?_ ?_ ?_ ?_
      · exact PassesOwn.never
      · exact rfl
      · exact yw (ux (au 2 (pv 2)) zj (w6 bx))
      · exact wj 3 (jr nd rfl (Or.inl rfl))
      · refine jh ?_
        · refine zm ?_ ?_ ?_
          · refine PW.pt ?_
            · refine Km ?_ ?_
              · exact xu (Bs (by rfl) b_isinstance (by rfl) b_bool (au 3 (pv 3)))
              · refine Km ?_ ?_
                · exact u9 Jj (au 3 (pv 3)) bx (mq _)
                · exact Km (u9 a1l (au 3 (pv 3)) (jx (qg ud (by rfl) b_len PySem.boot_len (ao (au 0 (pv 0)) dh))) (mq _)) (Ld (u9 (Df hq) (jk hu (jk hu (au 0 (pv 0)) (au 3 (pv 3)) (fun _ _=>rfl)) bx (fun _ _=>rfl)) uh (mq _)))
          · exact jh (m5 Ed)
          · exact um
      · exact yu
    · refine gq ?_ ?_
      · refine zm ?_ ?_ ?_
        · refine u9 (Df hq) ?_ ?_ ?_
          · refine iu d_law_plus ?_ ?_ ?_ ?_
            · exact hr
            · exact by rfl
            · refine ao ?_ ?_
              · exact jk hu (jk hu (au 0 (pv 0)) (jk hu (au 2 (pv 2)) bx (fun _ _=>rfl)) (fun _ _=>rfl)) bx (fun _ _=>rfl)
              · exact ao (jk hu (jk hu (au 0 (pv 0)) (jk hu (au 2 (pv 2)) bx (fun _ _=>rfl)) (fun _ _=>rfl)) bx (fun _ _=>rfl)) (ao bx dh)
            · exact cu (cu (cu eq_nil))
          · exact je (ao bx (ao (je dh (iy gb (by decide))) dh)) (iy (bf (bf gb)) (by decide))
          · exact mq _
        · exact jh (m5 Ed)
        · exact um
      · refine jh ?_
        · refine m5 ?_
          · refine iu d_law_plus ?_ ?_ ?_ ?_
            · exact hr
            · exact by rfl
            · refine ao ?_ ?_
              · exact je (ao bx (ao (je dh (iy gb (by decide))) dh)) (iy (bf (bf gb)) (by decide))
              · exact ao (jk hu (jk hu (au 0 (pv 0)) (jk hu (au 2 (pv 2)) bx (fun _ _=>rfl)) (fun _ _=>rfl)) bx (fun _ _=>rfl)) (ao (jk hu (au 2 (pv 2)) bx (fun _ _=>rfl)) dh)
            · exact cu (cu (cu eq_nil))
theorem R9 (F:Fun K "_law_part" "_law_part" Br f fd) (hmg:mg "_law_part" = some (.ref f)) (d_law_plus:jg P w K mg base "_law_plus" 1 ["_law_one","_law_other","_law_times"] (_root_.K.jm)) (b_bool:mg "bool" = none) (b_isinstance:mg "isinstance" = none) (b_len:mg "len" = none):jg P w K mg base "_law_part" 2 ["_law_atoms","_law_m","_law_row"] _root_.K.u6 :=
  ⟨f,fd,R8 F d_law_plus b_bool b_isinstance b_len,F.binds (ps:=["_law_atoms","_law_m","_law_row"]) fun _ _ _ _ _ _ us hl=>bd3 (fun _ _ _=>rfl) us hl,F.kp,hmg⟩
noncomputable abbrev Bu:Stmt:=top 33
theorem Jw:nq ["_law_atoms","_law_m","_law_rows_here","_law_total","_law_row","_law_part_here"] ["_law_atoms","_law_m","_law_rows_here"] (iz Bu):=⟨rfl,rfl,rfl,by decide +kernel,rfl,by decide +kernel,by decide +kernel⟩
theorem Qf (F:Fun K "_law_says" "_law_says" Bu f fd) (d_law_part:jg P w K mg base "_law_part" 2 ["_law_atoms","_law_m","_law_row"] (_root_.K.u6)) (d_law_plus:jg P w K mg base "_law_plus" 1 ["_law_one","_law_other","_law_times"] (_root_.K.jm)) (b_bool:mg "bool" = none) (b_isinstance:mg "isinstance" = none) (b_len:mg "len" = none):Ce P w K mg base CX0 3 f fd ["_law_atoms","_law_m","_law_rows_here"] (spF K (["_law_atoms","_law_m","_law_rows_here"]:List Str).length _root_.K.za):=by
  have d_law_part:=d_law_part.mono (show 2≤2 by first | decide | omega)
  have d_law_plus:=d_law_plus.mono (show 1≤2 by first | decide | omega)
  refine qe (N:=["_law_atoms","_law_m","_law_rows_here","_law_total","_law_row","_law_part_here"]) F Jw (by decide)  fun cdv A outer s H E B hr=>?_
  have hu:=zx hr
  have hq:=hr.units
  have nd:(["_law_atoms","_law_m","_law_rows_here","_law_total","_law_row","_law_part_here"]:List Str).Nodup:=Jw.nd
  refine gq ?_ ?_
  · exact zm (PW.pt (Km (xu (Bs (by rfl) b_isinstance (by rfl) b_bool (au 1 (pv 1)))) (Ld (u9 Jj (au 1 (pv 1)) bx (mq _)))))   (jh (m5 Cv))   um
  · refine gq ?_ ?_
    · exact mz 3 (m6 nd rfl (Or.inl rfl) (je (ao bx (ao (je dh (iy gb (by decide))) dh)) (iy (bf (bf gb)) (by decide)))) (fun _ _ _ h=>h)
    · refine gq ?_ ?_
      · refine Ck ?_ ?_ ?_ ?_ ?_ ?_
        · exact PassesOwn.never
        · exact rfl
        · exact yw (au 2 (pv 2))
        · exact wj 4 (jr nd rfl (Or.inl rfl))
        · refine gq ?_ ?_
          · exact mz 5 (m6 nd rfl (Or.inl rfl) Ed) (fun _ _ _ h=>h)
          · refine gq ?_ ?_
            · refine zm ?_ ?_ ?_
              · refine PW.pt ?_
                · refine Hx ?_ ?_
                  · exact u9 (a5y hq) (jx (qg ud (by rfl) b_len PySem.boot_len (ao (au 4 (pv 4)) dh))) (je (ao bx (ao bx dh)) (iy (bf (bf gb)) (by decide))) rfl
                  · exact Hx (Fd (xu (Bs (by rfl) b_isinstance (by rfl) b_bool (jk hu (au 4 (pv 4)) (Aq qj bx) (fun _ _=>rfl))))) (Gy (u9 (Df hq) (jk hu (au 4 (pv 4)) (Aq qj bx) (fun _ _=>rfl)) bx (mq _)))
              · exact jh (mz 5 (m6 nd rfl (Or.inl rfl) (iu d_law_part hr (by rfl) (ao (au 0 (pv 0)) (ao (au 1 (pv 1)) (ao (au 4 (pv 4)) dh))) (cu (cu (cu eq_nil))))) (fun _ _ _ h=>h))
              · exact um
            · refine gq ?_ ?_
              · exact zm (u9 a1n (au 5 (pv 5)) Ed (mq _))   (jh (m5 Cv))   um
              · exact jh (mz 3 (m6 nd rfl (Or.inl rfl) (iu d_law_plus hr (by rfl) (ao (au 3 (pv 3)) (ao (au 5 (pv 5)) (ao bx dh))) (cu (cu (cu eq_nil))))) (fun _ _ _ h=>h))
        · exact yu
      · refine jh ?_
        · refine m5 ?_
          · refine Cq ?_ ?_
            · exact Am (Df hq) (jj qx (jk hu (au 3 (pv 3)) bx (fun _ _=>rfl)) (au 1 (pv 1))) bx (mq _)
            · refine Ei ?_
              · refine Am (Af hq) ?_ ?_ ?_
                · refine jx ?_
                  · refine qg ud ?_ ?_ PySem.boot_len ?_
                    · exact by rfl
                    · exact b_len
                    · refine ao ?_ ?_
                      · refine Bx ?_
                        · refine Dj (N:=["_law_box","_law_times","_law_m"]) ?_ ?_ ?_ ?_ ?_ ?_ ?_ ?_
                          · exact ⟨rfl,fun j k h=>match j,h with | 0,h=>(by cases h; exact ⟨_,rfl,rfl,⟨.inl rfl,.inr (.inl rfl),.inl rfl⟩⟩) | _+1,h=>(by cases h)⟩
                          · exact ⟨rfl,rfl,by decide +kernel,by decide +kernel⟩
                          · exact rfl
                          · exact yw (jk hu (au 3 (pv 3)) bx (fun _ _=>rfl))
                          · exact yu
                          · intro C s₀ H₀ ex pn
                            exact pgE fun B=>(Ef (is:=[0,1]) (Dh rfl (n6 (jr (show (["_law_box","_law_times","_law_m"]:List Str).Nodup by decide +kernel) rfl (Or.inl rfl)) (n6 (jr (show (["_law_box","_law_times","_law_m"]:List Str).Nodup by decide +kernel) rfl (Or.inl rfl)) Bf))))
                          · exact fun C s₀ H₀ ex pn=>(Im fun B=>(u9 (Df hq) (jj qx (au 1 (pv 1)) (au 2 (pv 2))) bx (mq _)))
                          · exact fun C s₀ H₀ ex pn=>peE fun B=>bx
                      · exact dh
                · exact bx
                · exact mq _
theorem Sd (F:Fun K "_law_says" "_law_says" Bu f fd) (hmg:mg "_law_says" = some (.ref f)) (d_law_part:jg P w K mg base "_law_part" 2 ["_law_atoms","_law_m","_law_row"] (_root_.K.u6)) (d_law_plus:jg P w K mg base "_law_plus" 1 ["_law_one","_law_other","_law_times"] (_root_.K.jm)) (b_bool:mg "bool" = none) (b_isinstance:mg "isinstance" = none) (b_len:mg "len" = none):jg P w K mg base "_law_says" 3 ["_law_atoms","_law_m","_law_rows_here"] _root_.K.za :=
  ⟨f,fd,Qf F d_law_part d_law_plus b_bool b_isinstance b_len,F.binds (ps:=["_law_atoms","_law_m","_law_rows_here"]) fun _ _ _ _ _ _ us hl=>bd3 (fun _ _ _=>rfl) us hl,F.kp,hmg⟩
noncomputable abbrev Av:Stmt:=top 34
theorem Ho:nq ["_law_rows_here","_law_atoms","_law_bounds","_law_m","_law_paper_rows","_law_found"] ["_law_rows_here","_law_atoms","_law_bounds","_law_m","_law_paper_rows"] (iz Av):=⟨rfl,rfl,rfl,by decide +kernel,rfl,by decide +kernel,by decide +kernel⟩
theorem P0 (F:Fun K "_law_asked" "_law_asked" Av f fd) (d_law_says:jg P w K mg base "_law_says" 3 ["_law_atoms","_law_m","_law_rows_here"] (_root_.K.za)) (d_let_by:jg P w K mg base "let_by" 7 ["rows","forms","paper"] (_root_.K.oh)) (b_bool:mg "bool" = none) (b_isinstance:mg "isinstance" = none) (b_tuple:mg "tuple" = none):Ce P w K mg base CX0 8 f fd ["_law_rows_here","_law_atoms","_law_bounds","_law_m","_law_paper_rows"] (spF K (["_law_rows_here","_law_atoms","_law_bounds","_law_m","_law_paper_rows"]:List Str).length _root_.K.ou):=by
  have d_law_says:=d_law_says.mono (show 3≤7 by first | decide | omega)
  have d_let_by:=d_let_by.mono (show 7≤7 by first | decide | omega)
  refine qe (N:=["_law_rows_here","_law_atoms","_law_bounds","_law_m","_law_paper_rows","_law_found"]) F Ho (by decide)  fun cdv A outer s H E B hr=>?_
  have hu:=zx hr
  have hq:=hr.units
  have nd:(["_law_rows_here","_law_atoms","_law_bounds","_law_m","_law_paper_rows","_law_found"]:List Str).Nodup:=Ho.nd
  refine gq ?_ ?_
  · refine mz (te:=tOf _ _ _) _ ?_ (fun _ _ _ h=>h)
    · refine m6 ?_ ?_ ?_ ?_
      · exact nd
      · exact rfl
      · exact Or.inl rfl
      · refine iu d_let_by ?_ ?_ ?_ ?_
        · exact hr
        · exact by rfl
        · refine ao ?_ ?_
          · exact au 0 (pv 0)
          · exact ao (au 1 (pv 1)) (ao (je (ao uh (ao (au 3 (pv 3)) (ao (jx (qt yq (by rfl) b_tuple PyProof.Rows.boot_tuple (ao (au 4 (pv 4)) dh))) dh))) (iy (bf (bf (bf gb))) (by decide))) dh)
        · exact cu (cu (cu eq_nil))
  · refine jh ?_
    · refine m5 ?_
      · refine Cq ?_ ?_
        · exact Bs (by rfl) b_isinstance (by rfl) b_bool (au 5 (pv 5))
        · exact Ei (Am (Af hq) (au 5 (pv 5)) (iu d_law_says hr (by rfl) (ao (jj jq (au 2 (pv 2)) (au 1 (pv 1))) (ao (au 3 (pv 3)) (ao (au 4 (pv 4)) dh))) (cu (cu (cu eq_nil)))) (mq _))
theorem Ol (F:Fun K "_law_asked" "_law_asked" Av f fd) (hmg:mg "_law_asked" = some (.ref f)) (d_law_says:jg P w K mg base "_law_says" 3 ["_law_atoms","_law_m","_law_rows_here"] (_root_.K.za)) (d_let_by:jg P w K mg base "let_by" 7 ["rows","forms","paper"] (_root_.K.oh)) (b_bool:mg "bool" = none) (b_isinstance:mg "isinstance" = none) (b_tuple:mg "tuple" = none):jg P w K mg base "_law_asked" 8 ["_law_rows_here","_law_atoms","_law_bounds","_law_m","_law_paper_rows"] _root_.K.ou :=
  ⟨f,fd,P0 F d_law_says d_let_by b_bool b_isinstance b_tuple,F.binds (ps:=["_law_rows_here","_law_atoms","_law_bounds","_law_m","_law_paper_rows"]) fun _ _ _ _ _ _ us hl=>bd5 (fun _ _ _ _ _=>rfl) us hl,F.kp,hmg⟩
noncomputable abbrev Bt:Stmt:=top 35
theorem Jx:nq ["_law_script","_law_rows_here","_law_m","_law_many","_law_atoms","_law_paper_rows","_law_total","_law_k","_law_cell","_law_one","_law_factor","_law_times","_law_rest","_law_off","_law_grown","_law_last"] ["_law_script","_law_rows_here","_law_m","_law_many"] (iz Bt):=⟨rfl,rfl,rfl,by decide +kernel,rfl,by decide +kernel,by decide +kernel⟩
theorem Qk (F:Fun K "_law_made" "_law_made" Bt f fd) (d_law_cell_at:jg P w K mg base "_law_cell_at" 1 ["_law_script","_law_k"] (_root_.K.j6)) (d_law_plus:jg P w K mg base "_law_plus" 1 ["_law_one","_law_other","_law_times"] (_root_.K.jm)) (d_law_sum:jg P w K mg base "_law_sum" 2 ["_law_cell","_law_rows_here"] (_root_.K.Ak)) (b_enumerate:mg "enumerate" = none) (b_int:mg "int" = none) (b_len:mg "len" = none) (b_range:mg "range" = none) (b_tuple:mg "tuple" = none):Ce P w K mg base CX0 3 f fd ["_law_script","_law_rows_here","_law_m","_law_many"] (spF K (["_law_script","_law_rows_here","_law_m","_law_many"]:List Str).length _root_.K.Bv):=by
  have d_law_cell_at:=d_law_cell_at.mono (show 1≤2 by first | decide | omega)
  have d_law_plus:=d_law_plus.mono (show 1≤2 by first | decide | omega)
  have d_law_sum:=d_law_sum.mono (show 2≤2 by first | decide | omega)
  refine qe (N:=["_law_script","_law_rows_here","_law_m","_law_many","_law_atoms","_law_paper_rows","_law_total","_law_k","_law_cell","_law_one","_law_factor","_law_times","_law_rest","_law_off","_law_grown","_law_last"]) F Jx (by decide)  fun cdv A outer s H E B hr=>?_
  have hu:=zx hr
  have hq:=hr.units
  have nd:(["_law_script","_law_rows_here","_law_m","_law_many","_law_atoms","_law_paper_rows","_law_total","_law_k","_law_cell","_law_one","_law_factor","_law_times","_law_rest","_law_off","_law_grown","_law_last"]:List Str).Nodup:=Jx.nd
  refine gq ?_ ?_
  · exact Dt 4 (m6 nd rfl (Or.inl rfl) (Hw dh (iy gb (by decide)))) (fun _ _ _ h=>h)
  · refine gq ?_ ?_
    · exact Dt 5 (m6 nd rfl (Or.inl rfl) (Hw dh (iy gb (by decide)))) (fun _ _ _ h=>h)
    · refine gq ?_ ?_
      · exact mz 6 (m6 nd rfl (Or.inl rfl) (je (ao bx (ao (je dh (iy gb (by decide))) dh)) (iy (bf (bf gb)) (by decide)))) (fun _ _ _ h=>h)
      · refine gq ?_ ?_
        · refine Ck ?_ ?_ ?_ ?_ ?_ ?_
          · exact PassesOwn.never
          · exact rfl
          · exact Ir (by rfl) b_range (jj qx (jj yp (iu d_law_cell_at hr (by rfl) (ao (au 0 (pv 0)) (ao bx dh)) (cu (cu eq_nil))) bx) bx)
          · exact wj 7 (jr nd rfl (Or.inl rfl))
          · refine gq ?_ ?_
            · exact mz 8 (m6 nd rfl (Or.inl rfl) (iu d_law_cell_at hr (by rfl) (ao (au 0 (pv 0)) (ao (jj jq bx (au 7 (pv 7))) dh)) (cu (cu eq_nil)))) (fun _ _ _ h=>h)
            · refine gq ?_ ?_
              · exact mz 9 (m6 nd rfl (Or.inl rfl) (iu d_law_sum hr (by rfl) (ao (au 8 (pv 8)) (ao (au 1 (pv 1)) dh)) (cu (cu eq_nil)))) (fun _ _ _ h=>h)
              · refine gq ?_ ?_
                · exact mz 10 (m6 nd rfl (Or.inl rfl) (jj jq bx (jj qx (au 8 (pv 8)) bx))) (fun _ _ _ h=>h)
                · refine gq ?_ ?_
                  · exact mz 11 (m6 nd rfl (Or.inl rfl) (jj Cj (au 2 (pv 2)) (jj jq bx (jj qx (au 8 (pv 8)) bx)))) (fun _ _ _ h=>h)
                  · refine gq ?_ ?_
                    · refine zm ?_ ?_ ?_
                      · exact u9 (Af hq) (jj qx (au 2 (pv 2)) (au 10 (pv 10))) bx (mq _)
                      · exact jh (mz 11 (m6 nd rfl (Or.inl rfl) (jj Cj (jj yp (au 2 (pv 2)) (au 10 (pv 10))) (jj Cu (jj qx (jj yp (au 8 (pv 8)) bx) bx) bx))) (fun _ _ _ h=>h))
                      · exact um
                    · refine gq ?_ ?_
                      · exact zm (u9 (Af hq) (au 11 (pv 11)) bx (mq _))   (jh (mz 11 (m6 nd rfl (Or.inl rfl) (Aq qj (au 2 (pv 2)))) (fun _ _ _ h=>h)))   um
                      · refine gq ?_ ?_
                        · refine zm ?_ ?_ ?_
                          · exact u9 (Af hq) (jj qx (jj yp (au 8 (pv 8)) bx) bx) bx (mq _)
                          · exact jh (mz 11 (m6 nd rfl (Or.inl rfl) (jj jq (jj jq (au 11 (pv 11)) bx) (jx (qt Cr (by rfl) b_int PyProof.Rows.boot_int (ao (Am (Af hq) (au 11 (pv 11)) (Aq qj bx) (mq _)) dh))))) (fun _ _ _ h=>h))
                          · exact um
                        · refine gq ?_ ?_
                          · exact tu 4 (vp (Dl PySem.F.plainAttrs_list PySem.F.slot_list_append PySem.F.type_list_append qz (pv 4) (qp (je (ao uh (ao (au 9 (pv 9)) (ao (au 10 (pv 10)) dh))) (iy (bf (bf (bf gb))) (by decide))) vf)))
                          · refine gq ?_ ?_
                            · refine tu _ ?_
                              · refine vp ?_
                                · refine Dl PySem.F.plainAttrs_list PySem.F.slot_list_append PySem.F.type_list_append qz ?_ ?_
                                  · exact pv 5
                                  · exact qp (je (ao (jj Cu (jj jq (au 3 (pv 3)) (Bc 4 b_len rfl (pv 4))) bx) (ao (au 11 (pv 11)) dh)) (iy (bf (bf gb)) (by decide))) vf
                            · exact jh (mz 6 (m6 nd rfl (Or.inl rfl) (iu d_law_plus hr (by rfl) (ao (au 6 (pv 6)) (ao (au 9 (pv 9)) (ao (au 11 (pv 11)) dh))) (cu (cu (cu eq_nil))))) (fun _ _ _ h=>h))
          · exact Ik
        · refine gq ?_ ?_
          · refine Ck ?_ ?_ ?_ ?_ ?_ ?_
            · exact PassesOwn.never
            · exact rfl
            · exact Ir (by rfl) b_range (jj qx (jj yp (iu d_law_cell_at hr (by rfl) (ao (au 0 (pv 0)) (ao bx dh)) (cu (cu eq_nil))) bx) bx)
            · exact wj 7 (jr nd rfl (Or.inl rfl))
            · refine gq ?_ ?_
              · exact mz 8 (m6 nd rfl (Or.inl rfl) (iu d_law_cell_at hr (by rfl) (ao (au 0 (pv 0)) (ao (jj jq bx (au 7 (pv 7))) dh)) (cu (cu eq_nil)))) (fun _ _ _ h=>h)
              · refine gq ?_ ?_
                · exact mz 9 (m6 nd rfl (Or.inl rfl) (iu d_law_sum hr (by rfl) (ao (au 8 (pv 8)) (ao (au 1 (pv 1)) dh)) (cu (cu eq_nil)))) (fun _ _ _ h=>h)
                · refine gq ?_ ?_
                  · exact tu 4 (vp (Dl PySem.F.plainAttrs_list PySem.F.slot_list_append PySem.F.type_list_append qz (pv 4) (qp (je (ao uh (ao (au 9 (pv 9)) dh)) (iy (bf (bf gb)) (by decide))) vf)))
                  · refine gq ?_ ?_
                    · refine tu _ ?_
                      · refine vp ?_
                        · refine Dl PySem.F.plainAttrs_list PySem.F.slot_list_append PySem.F.type_list_append qz ?_ ?_
                          · exact pv 4
                          · refine qp ?_ ?_
                            · refine je ?_ ?_
                              · refine ao ?_ ?_
                                · exact uh
                                · refine ao ?_ ?_
                                  · exact iu d_law_plus hr (by rfl) (ao (je (ao bx (ao (je dh (iy gb (by decide))) dh)) (iy (bf (bf gb)) (by decide))) (ao (au 9 (pv 9)) (ao (Aq qj bx) dh))) (cu (cu (cu eq_nil)))
                                  · exact dh
                              · exact iy (bf (bf gb)) (by decide)
                            · exact vf
                    · refine gq ?_ ?_
                      · refine tu _ ?_
                        · refine vp ?_
                          · refine Dl PySem.F.plainAttrs_list PySem.F.slot_list_append PySem.F.type_list_append qz ?_ ?_
                            · exact pv 5
                            · refine qp ?_ ?_
                              · refine je ?_ ?_
                                · exact ao (jj Cu (jj jq (au 3 (pv 3)) (Bc 4 b_len rfl (pv 4))) bx) (ao (jj Cu (jj jq (au 3 (pv 3)) (Bc 4 b_len rfl (pv 4))) bx) (ao (jj jq bx (jj qx (au 8 (pv 8)) bx)) dh))
                                · exact iy (bf (bf (bf gb))) (by decide)
                              · exact vf
                      · exact jh (mz 6 (m6 nd rfl (Or.inl rfl) (iu d_law_plus hr (by rfl) (ao (au 6 (pv 6)) (ao (au 9 (pv 9)) (ao (jj jq bx (jj qx (au 8 (pv 8)) bx)) dh))) (cu (cu (cu eq_nil))))) (fun _ _ _ h=>h))
            · exact Ik
          · refine gq ?_ ?_
            · refine mz (te:=tOf _ _ _) _ ?_ (fun _ _ _ h=>h)
              · refine m6 ?_ ?_ ?_ ?_
                · exact nd
                · exact rfl
                · exact Or.inl rfl
                · refine jj ?_ ?_ ?_
                  · exact qx
                  · exact iu d_law_cell_at hr (by rfl) (ao (au 0 (pv 0)) (ao bx dh)) (cu (cu eq_nil))
                  · exact jk hu (xr (ao (au 2 (pv 2)) (ao bx dh)) (iy (bf (bf gb)) (by decide))) (jj qx (jj yp (iu d_law_cell_at hr (by rfl) (ao (au 0 (pv 0)) (ao bx dh)) (cu (cu eq_nil))) bx) bx) (fun _ _=>rfl)
            · refine gq ?_ ?_
              · refine mz (te:=tOf _ _ _) _ ?_ (fun _ _ _ h=>h)
                · refine m6 ?_ ?_ ?_ ?_
                  · exact nd
                  · exact rfl
                  · exact Or.inr rfl
                  · exact jx (qt Cr (by rfl) b_int PyProof.Rows.boot_int (ao (Am (Af hq) (jj qx (jj yp (iu d_law_cell_at hr (by rfl) (ao (au 0 (pv 0)) (ao bx dh)) (cu (cu eq_nil))) bx) bx) bx (mq _)) dh))
              · refine gq ?_ ?_
                · exact mz 14 (Ja (N:=["_law_k","_law_box","_law_times","_law_off","_law_m"]) ⟨rfl,rfl,by decide +kernel,by decide +kernel⟩ rfl (Ze (by rfl) b_enumerate (jk hu (au 6 (pv 6)) bx (fun _ _=>rfl))) (fun C s₀ H₀ ex pn=>pgE fun B=>(a3w (Dh rfl (n6 (jr (show (["_law_k","_law_box","_law_times","_law_off","_law_m"]:List Str).Nodup by decide +kernel) rfl (Or.inl rfl)) (n6 (Dh rfl (n6 (jr (show (["_law_k","_law_box","_law_times","_law_off","_law_m"]:List Str).Nodup by decide +kernel) rfl (Or.inl rfl)) (n6 (jr (show (["_law_k","_law_box","_law_times","_law_off","_law_m"]:List Str).Nodup by decide +kernel) rfl (Or.inl rfl)) Bf))) Bf))))) (fun C s₀ H₀ ex pn=>Bb) (fun C s₀ H₀ ex pn=>peE fun B=>(je (ao (au 1 (pv 1)) (ao (jj jq (jj Cu (jj Cj (au 4 (pv 4)) (jj jq bx (jj qx (au 0 (pv 0)) bx))) (au 2 (pv 2))) (jj Cj (au 3 (pv 3)) (jx (qt Cr (by rfl) b_int PyProof.Rows.boot_int (ao (Am (Af hq) (au 0 (pv 0)) bx (mq _)) dh))))) dh)) (iy (bf (bf gb)) (by decide)))) (jr nd rfl (Or.inl rfl)) rfl) (fun σ H Q h=>Ku ⟨rfl,fun j k h=>match j,h with | 0,h=>(by cases h; exact ⟨_,rfl,rfl,⟨.inl rfl,.inr (.inl rfl),.inl rfl⟩⟩) | 1,h=>(by cases h; exact ⟨_,rfl,rfl,⟨.inl rfl,.inr (.inl rfl),.inl rfl⟩⟩) | _+2,h=>(by cases h)⟩ Zw (Lf h))
                · refine gq ?_ ?_
                  · refine mz (te:=tOf _ _ _) _ ?_ (fun _ _ _ h=>h)
                    · refine m6 ?_ ?_ ?_ ?_
                      · exact nd
                      · exact rfl
                      · exact Or.inl rfl
                      · exact je (ao (jj Cu (au 12 (pv 12)) (jk hu (au 6 (pv 6)) bx (fun _ _=>rfl))) (ao (jx (qt yq (by rfl) b_tuple PyProof.Rows.boot_tuple (ao (au 14 (pv 14)) dh))) dh)) (iy (bf (bf gb)) (by decide))
                  · refine gq ?_ ?_
                    · refine mz (te:=tOf _ _ _) _ ?_ (fun _ _ _ h=>h)
                      · exact m6 nd rfl (Or.inl rfl) (iu d_law_plus hr (by rfl) (ao (je (ao bx (ao (je dh (iy gb (by decide))) dh)) (iy (bf (bf gb)) (by decide))) (ao (au 15 (pv 15)) (ao bx dh))) (cu (cu (cu eq_nil))))
                    · refine gq ?_ ?_
                      · exact tu 4 (vp (Dl PySem.F.plainAttrs_list PySem.F.slot_list_append PySem.F.type_list_append qz (pv 4) (qp (je (ao uh (ao (au 15 (pv 15)) dh)) (iy (bf (bf gb)) (by decide))) vf)))
                      · refine gq ?_ ?_
                        · refine tu _ ?_
                          · refine vp ?_
                            · refine Dl PySem.F.plainAttrs_list PySem.F.slot_list_append PySem.F.type_list_append qz ?_ ?_
                              · exact pv 4
                              · refine qp ?_ ?_
                                · refine je ?_ ?_
                                  · refine ao ?_ ?_
                                    · exact uh
                                    · refine ao ?_ ?_
                                      · exact iu d_law_plus hr (by rfl) (ao (je (ao bx (ao (je dh (iy gb (by decide))) dh)) (iy (bf (bf gb)) (by decide))) (ao (au 15 (pv 15)) (ao (Aq qj bx) dh))) (cu (cu (cu eq_nil)))
                                      · exact dh
                                  · exact iy (bf (bf gb)) (by decide)
                                · exact vf
                        · refine gq ?_ ?_
                          · refine tu _ ?_
                            · refine vp ?_
                              · refine Dl PySem.F.plainAttrs_list PySem.F.slot_list_append PySem.F.type_list_append qz ?_ ?_
                                · exact pv 5
                                · refine qp ?_ ?_
                                  · exact je (ao (jj Cu (jj jq (au 3 (pv 3)) (Bc 4 b_len rfl (pv 4))) bx) (ao (jj Cu (jj jq (au 3 (pv 3)) (Bc 4 b_len rfl (pv 4))) bx) (ao bx dh))) (iy (bf (bf (bf gb))) (by decide))
                                  · exact vf
                          · refine gq ?_ ?_
                            · refine tu _ ?_
                              · refine vp ?_
                                · refine Dl PySem.F.plainAttrs_list PySem.F.slot_list_append PySem.F.type_list_append qz ?_ ?_
                                  · exact pv 4
                                  · refine qp ?_ ?_
                                    · refine je ?_ ?_
                                      · refine ao ?_ ?_
                                        · exact uh
                                        · refine ao ?_ ?_
                                          · exact iu d_law_plus hr (by rfl) (ao (je (ao bx (ao (je dh (iy gb (by decide))) dh)) (iy (bf (bf gb)) (by decide))) (ao (au 15 (pv 15)) (ao (Aq qj bx) dh))) (cu (cu (cu eq_nil)))
                                          · exact ao bx dh
                                      · exact iy (bf (bf (bf gb))) (by decide)
                                    · exact vf
                            · exact jh (m5 (je (ao (au 4 (pv 4)) (ao (au 5 (pv 5)) dh)) (iy (bf (bf gb)) (by decide))))
theorem Qg (F:Fun K "_law_made" "_law_made" Bt f fd) (hmg:mg "_law_made" = some (.ref f)) (d_law_cell_at:jg P w K mg base "_law_cell_at" 1 ["_law_script","_law_k"] (_root_.K.j6)) (d_law_plus:jg P w K mg base "_law_plus" 1 ["_law_one","_law_other","_law_times"] (_root_.K.jm)) (d_law_sum:jg P w K mg base "_law_sum" 2 ["_law_cell","_law_rows_here"] (_root_.K.Ak)) (b_enumerate:mg "enumerate" = none) (b_int:mg "int" = none) (b_len:mg "len" = none) (b_range:mg "range" = none) (b_tuple:mg "tuple" = none):jg P w K mg base "_law_made" 3 ["_law_script","_law_rows_here","_law_m","_law_many"] _root_.K.Bv :=
  ⟨f,fd,Qk F d_law_cell_at d_law_plus d_law_sum b_enumerate b_int b_len b_range b_tuple,F.binds (ps:=["_law_script","_law_rows_here","_law_m","_law_many"]) fun _ _ _ _ _ _ us hl=>bd4 (fun _ _ _ _=>rfl) us hl,F.kp,hmg⟩
noncomputable abbrev Bo:Stmt:=top 36
theorem Jk:nq ["_law_row","_law_cell","_law_many","_law_some"] ["_law_row","_law_cell","_law_many"] (iz Bo):=⟨rfl,rfl,rfl,by decide +kernel,rfl,by decide +kernel,by decide +kernel⟩
theorem Qx (F:Fun K "_law_bent" "_law_bent" Bo f fd):Ce P w K mg base CX0 1 f fd ["_law_row","_law_cell","_law_many"] (spF K (["_law_row","_law_cell","_law_many"]:List Str).length _root_.K.wk):=by
  refine qe (N:=["_law_row","_law_cell","_law_many","_law_some"]) F Jk (by decide)  fun cdv A outer s H E B hr=>?_
  have hu:=zx hr
  have hq:=hr.units
  have nd:(["_law_row","_law_cell","_law_many","_law_some"]:List Str).Nodup:=Jk.nd
  refine gq ?_ ?_
  · refine mz (te:=tOf _ _ _) _ ?_ (fun _ _ _ h=>h)
    · refine m6 ?_ ?_ ?_ ?_
      · exact nd
      · exact rfl
      · exact Or.inl rfl
      · refine xr ?_ ?_
        · refine ao ?_ ?_
          · exact jj jq (ux (au 0 (pv 0)) zj (w6 (Aq qj bx))) (je (ao (jj jq (jk hu (au 0 (pv 0)) (Aq qj bx) (fun _ _=>rfl)) bx) dh) (iy (bf gb) (by decide)))
          · refine ao ?_ ?_
            · exact jj jq (ux (au 0 (pv 0)) zj (w6 (Aq qj bx))) (je (ao (Aq qj (jk hu (au 0 (pv 0)) (Aq qj bx) (fun _ _=>rfl))) dh) (iy (bf gb) (by decide)))
            · refine ao ?_ ?_
              · exact jj jq (ux (au 0 (pv 0)) zj (w6 (Aq qj bx))) (je (ao bx dh) (iy (bf gb) (by decide)))
              · exact ao (jj jq (ux (au 0 (pv 0)) zj (w6 (Aq qj bx))) (je (ao Cv dh) (iy (bf gb) (by decide)))) (ao (jj jq (au 0 (pv 0)) (je (ao bx dh) (iy (bf gb) (by decide)))) dh)
        · exact iy (bf (bf (bf (bf (bf gb))))) (by decide)
  · refine gq ?_ ?_
    · refine mz (te:=tOf _ _ _) _ ?_ (fun _ _ _ h=>h)
      · refine m6 ?_ ?_ ?_ ?_
        · exact nd
        · exact rfl
        · exact Or.inl rfl
        · refine jj ?_ ?_ ?_
          · exact jq
          · exact au 3 (pv 3)
          · refine xr ?_ ?_
            · refine ao ?_ ?_
              · exact jj jq (je (ao (jj jq (jk hu (au 0 (pv 0)) bx (fun _ _=>rfl)) bx) dh) (iy (bf gb) (by decide))) (ux (au 0 (pv 0)) (w6 bx) zj)
              · refine ao ?_ ?_
                · exact jj jq (je (ao (Aq qj bx) dh) (iy (bf gb) (by decide))) (ux (au 0 (pv 0)) (w6 bx) zj)
                · refine ao ?_ ?_
                  · exact jj jq (je (ao (au 2 (pv 2)) dh) (iy (bf gb) (by decide))) (ux (au 0 (pv 0)) (w6 bx) zj)
                  · exact ao (ux (au 0 (pv 0)) zj (w6 bx)) (ao (je (ao (jk hu (au 0 (pv 0)) bx (fun _ _=>rfl)) (ao (jk hu (au 0 (pv 0)) bx (fun _ _=>rfl)) (ao bx dh))) (iy (bf (bf (bf gb))) (by decide))) dh)
            · exact iy (bf (bf (bf (bf (bf gb))))) (by decide)
    · refine gq ?_ ?_
      · refine mz (te:=tOf _ _ _) _ ?_ (fun _ _ _ h=>h)
        · refine m6 ?_ ?_ ?_ ?_
          · exact nd
          · exact rfl
          · exact Or.inl rfl
          · refine jj ?_ ?_ ?_
            · exact jq
            · exact au 3 (pv 3)
            · refine xr ?_ ?_
              · refine ao ?_ ?_
                · refine je ?_ ?_
                  · exact ao (jk hu (au 0 (pv 0)) bx (fun _ _=>rfl)) (ao (jj jq (jk hu (au 0 (pv 0)) bx (fun _ _=>rfl)) bx) (ao (jk hu (au 0 (pv 0)) (Aq qj bx) (fun _ _=>rfl)) dh))
                  · exact iy (bf (bf (bf gb))) (by decide)
                · refine ao ?_ ?_
                  · refine je ?_ ?_
                    · exact ao (jj jq (jk hu (au 0 (pv 0)) bx (fun _ _=>rfl)) bx) (ao (jk hu (au 0 (pv 0)) bx (fun _ _=>rfl)) (ao (jk hu (au 0 (pv 0)) (Aq qj bx) (fun _ _=>rfl)) dh))
                    · exact iy (bf (bf (bf gb))) (by decide)
                  · exact ao (je (ao bx (ao bx (ao bx dh))) (iy (bf (bf (bf gb))) (by decide))) dh
              · exact iy (bf (bf (bf gb))) (by decide)
      · refine jh ?_
        · refine m5 ?_
          · refine jk ?_ ?_ ?_ ?_
            · exact hu
            · refine jj ?_ ?_ ?_
              · exact jq
              · exact au 3 (pv 3)
              · refine xr ?_ ?_
                · refine ao ?_ ?_
                  · exact jj jq (je (ao (jj Cu (jk hu (au 0 (pv 0)) bx (fun _ _=>rfl)) (au 2 (pv 2))) dh) (iy (bf gb) (by decide))) (ux (au 0 (pv 0)) (w6 bx) zj)
                  · refine ao ?_ ?_
                    · exact jj jq (jj jq (ux (au 0 (pv 0)) zj (w6 bx)) (je (ao (jj Cu (jk hu (au 0 (pv 0)) bx (fun _ _=>rfl)) (au 2 (pv 2))) dh) (iy (bf gb) (by decide)))) (ux (au 0 (pv 0)) (w6 bx) zj)
                    · exact dh
                · exact iy (bf (bf gb)) (by decide)
            · exact jj qx (au 1 (pv 1)) bx
            · exact fun _ _=>rfl
theorem Rk (F:Fun K "_law_bent" "_law_bent" Bo f fd) (hmg:mg "_law_bent" = some (.ref f)):jg P w K mg base "_law_bent" 1 ["_law_row","_law_cell","_law_many"] _root_.K.wk :=
  ⟨f,fd,Qx F,F.binds (ps:=["_law_row","_law_cell","_law_many"]) fun _ _ _ _ _ _ us hl=>bd3 (fun _ _ _=>rfl) us hl,F.kp,hmg⟩
noncomputable abbrev Ab:Stmt:=top 37
theorem Gd:nq ["_law_rows_here","_law_atoms","_law_m","_law_paper_rows","_law_one","_law_other","_law_times","_law_some","_law_row","_law_paper","_law_single","_law_odd"] ["_law_rows_here","_law_atoms","_law_m","_law_paper_rows"] (iz Ab):=⟨rfl,rfl,rfl,by decide +kernel,rfl,by decide +kernel,by decide +kernel⟩
theorem M9 (F:Fun K "_law_forged" "_law_forged" Ab f fd) (d_let_by:jg P w K mg base "let_by" 7 ["rows","forms","paper"] (_root_.K.oh)) (b_list:mg "list" = none) (b_tuple:mg "tuple" = none):Ce P w K mg base CX0 8 f fd ["_law_rows_here","_law_atoms","_law_m","_law_paper_rows"] (spF K (["_law_rows_here","_law_atoms","_law_m","_law_paper_rows"]:List Str).length _root_.K.Ad):=by
  have d_let_by:=d_let_by.mono (show 7≤7 by first | decide | omega)
  refine qe (N:=["_law_rows_here","_law_atoms","_law_m","_law_paper_rows","_law_one","_law_other","_law_times","_law_some","_law_row","_law_paper","_law_single","_law_odd"]) F Gd (by decide)  fun cdv A outer s H E B hr=>?_
  have hu:=zx hr
  have hq:=hr.units
  have nd:(["_law_rows_here","_law_atoms","_law_m","_law_paper_rows","_law_one","_law_other","_law_times","_law_some","_law_row","_law_paper","_law_single","_law_odd"]:List Str).Nodup:=Gd.nd
  refine gq ?_ ?_
  · exact a7e (Tr (jk hu (au 3 (pv 3)) (Aq qj bx) (fun _ _=>rfl)) (Ef (is:=[4,5,6]) (Dh rfl (n6 (jr nd rfl (Or.inl rfl)) (n6 (jr nd rfl (Or.inl rfl)) (n6 (jr nd rfl (Or.inl rfl)) Bf))))))
  · refine gq ?_ ?_
    · refine @Dt _ _ _ _ (fOf _ _ _) _ ?_ (fun _ _ _ h=>h)
      · refine m6 ?_ ?_ ?_ ?_
        · exact nd
        · exact rfl
        · exact Or.inl rfl
        · refine Hw ?_ ?_
          · refine ao ?_ ?_
            · exact je (ao uh (ao (au 2 (pv 2)) (ao (jx (qt La (by rfl) b_list PyProof.Rows.boot_list (ao (au 3 (pv 3)) dh))) dh))) (iy (bf (bf (bf gb))) (by decide))
            · refine ao ?_ ?_
              · refine je ?_ ?_
                · exact ao uh (ao (au 2 (pv 2)) (ao (jx (qt yq (by rfl) b_tuple PyProof.Rows.boot_tuple (ao (au 3 (pv 3)) dh))) (ao (je dh (iy gb (by decide))) dh)))
                · exact iy (bf (bf (bf (bf gb)))) (by decide)
              · exact dh
          · exact iy (bf (bf gb)) (by decide)
    · refine gq ?_ ?_
      · refine tu _ ?_
        · refine vp ?_
          · refine Dl PySem.F.plainAttrs_list PySem.F.slot_list_append PySem.F.type_list_append qz ?_ ?_
            · exact pv 7
            · refine qp ?_ ?_
              · refine je ?_ ?_
                · refine ao ?_ ?_
                  · exact uh
                  · refine ao ?_ ?_
                    · exact au 2 (pv 2)
                    · refine ao ?_ ?_
                      · refine jx ?_
                        · refine qt yq ?_ ?_ PyProof.Rows.boot_tuple ?_
                          · exact by rfl
                          · exact b_tuple
                          · refine ao ?_ ?_
                            · refine jj ?_ ?_ ?_
                              · exact jq
                              · exact ux (au 3 (pv 3)) zj (w6 (Aq qj bx))
                              · exact xr (ao (xr (ao (au 4 (pv 4)) (ao (au 5 (pv 5)) (ao (au 6 (pv 6)) dh))) (iy (bf (bf (bf gb))) (by decide))) dh) (iy (bf gb) (by decide))
                            · exact dh
                      · exact dh
                · exact iy (bf (bf (bf gb))) (by decide)
              · exact vf
      · refine gq ?_ ?_
        · refine Ck ?_ ?_ ?_ ?_ ?_ ?_
          · exact PassesOwn.never
          · exact rfl
          · refine yw ?_
            · refine xr ?_ ?_
              · refine ao ?_ ?_
                · exact je (ao (au 4 (pv 4)) (ao (jj jq (au 5 (pv 5)) bx) (ao (au 6 (pv 6)) dh))) (iy (bf (bf (bf gb))) (by decide))
                · refine ao ?_ ?_
                  · exact je (ao (jj jq (au 5 (pv 5)) bx) (ao (au 4 (pv 4)) (ao (Aq qj (au 6 (pv 6))) dh))) (iy (bf (bf (bf gb))) (by decide))
                  · exact ao (je (ao (au 4 (pv 4)) (ao (au 5 (pv 5)) (ao bx dh))) (iy (bf (bf (bf gb))) (by decide))) dh
              · exact iy (bf (bf (bf gb))) (by decide)
          · exact wj 8 (jr nd rfl (Or.inl rfl))
          · refine jh ?_
            · refine tu _ ?_
              · refine vp ?_
                · refine Dl PySem.F.plainAttrs_list PySem.F.slot_list_append PySem.F.type_list_append qz ?_ ?_
                  · exact pv 7
                  · refine qp ?_ ?_
                    · refine je ?_ ?_
                      · refine ao ?_ ?_
                        · exact uh
                        · refine ao ?_ ?_
                          · exact au 2 (pv 2)
                          · exact ao (jx (qt yq (by rfl) b_tuple PyProof.Rows.boot_tuple (ao (jj jq (ux (au 3 (pv 3)) zj (w6 (Aq qj bx))) (xr (ao (au 8 (pv 8)) dh) (iy (bf gb) (by decide)))) dh))) dh
                      · exact iy (bf (bf (bf gb))) (by decide)
                    · exact vf
          · exact yu
        · refine gq ?_ ?_
          · refine Ck ?_ ?_ ?_ ?_ ?_ ?_
            · exact PassesOwn.never
            · exact rfl
            · exact yw (au 7 (pv 7))
            · exact wj 9 (jr nd rfl (Or.inl rfl))
            · exact jh (zm (u9 Hi (iu d_let_by hr (by rfl) (ao (au 0 (pv 0)) (ao (au 1 (pv 1)) (ao (au 9 (pv 9)) dh))) (cu (cu (cu eq_nil)))) Cv (mq _))   (jh (m5 Cv))   um)
            · exact yu
          · refine gq ?_ ?_
            · refine mz (te:=tOf _ _ _) _ ?_ (fun _ _ _ h=>h)
              · refine m6 ?_ ?_ ?_ ?_
                · exact nd
                · exact rfl
                · exact Or.inl rfl
                · refine xr ?_ ?_
                  · refine ao ?_ ?_
                    · exact je (ao uh (ao (jk hu (jk hu (au 0 (pv 0)) bx (fun _ _=>rfl)) bx (fun _ _=>rfl)) (ao (jk hu (jk hu (au 0 (pv 0)) bx (fun _ _=>rfl)) bx (fun _ _=>rfl)) dh))) (iy (bf (bf (bf gb))) (by decide))
                    · exact dh
                  · exact iy (bf gb) (by decide)
            · refine gq ?_ ?_
              · refine mz (te:=tOf _ _ _) _ ?_ (fun _ _ _ h=>h)
                · refine m6 ?_ ?_ ?_ ?_
                  · exact nd
                  · exact rfl
                  · exact Or.inl rfl
                  · refine xr ?_ ?_
                    · exact ao (je (ao uh (ao (je (ao bx (ao (je dh (iy gb (by decide))) dh)) (iy (bf (bf gb)) (by decide))) (ao bx dh))) (iy (bf (bf (bf gb))) (by decide))) dh
                    · exact iy (bf gb) (by decide)
              · refine gq ?_ ?_
                · refine zm ?_ ?_ ?_
                  · refine u9 Hi ?_ ?_ ?_
                    · refine iu d_let_by ?_ ?_ ?_ ?_
                      · exact hr
                      · exact by rfl
                      · refine ao ?_ ?_
                        · exact au 10 (pv 10)
                        · refine ao ?_ ?_
                          · exact au 11 (pv 11)
                          · refine ao ?_ ?_
                            · refine je ?_ ?_
                              · refine ao ?_ ?_
                                · exact uh
                                · refine ao ?_ ?_
                                  · exact bx
                                  · refine ao ?_ ?_
                                    · refine je ?_ ?_
                                      · exact ao (je (ao bx (ao bx dh)) (iy (bf (bf gb)) (by decide))) (ao (je (ao bx (ao bx (ao bx dh))) (iy (bf (bf (bf gb))) (by decide))) dh)
                                      · exact iy (bf (bf gb)) (by decide)
                                    · exact dh
                              · exact iy (bf (bf (bf gb))) (by decide)
                            · exact dh
                      · exact cu (cu (cu eq_nil))
                    · exact Cv
                    · exact mq _
                  · exact jh (m5 Cv)
                  · exact um
                · refine gq ?_ ?_
                  · refine Ck ?_ ?_ ?_ ?_ ?_ ?_
                    · exact PassesOwn.never
                    · exact rfl
                    · refine yw ?_
                      · refine xr ?_ ?_
                        · exact ao (je (ao Cv (ao bx (ao bx dh))) (iy (bf (bf (bf gb))) (by decide))) (ao (je (ao bx (ao Cv (ao bx dh))) (iy (bf (bf (bf gb))) (by decide))) dh)
                        · exact iy (bf (bf gb)) (by decide)
                    · exact wj 8 (jr nd rfl (Or.inl rfl))
                    · refine jh ?_
                      · refine zm ?_ ?_ ?_
                        · refine u9 Hi ?_ ?_ ?_
                          · refine iu d_let_by ?_ ?_ ?_ ?_
                            · exact hr
                            · exact by rfl
                            · refine ao ?_ ?_
                              · exact au 10 (pv 10)
                              · refine ao ?_ ?_
                                · exact au 11 (pv 11)
                                · refine ao ?_ ?_
                                  · refine je ?_ ?_
                                    · exact ao uh (ao bx (ao (je (ao (je (ao bx (ao bx dh)) (iy (bf (bf gb)) (by decide))) (ao (au 8 (pv 8)) dh)) (iy (bf (bf gb)) (by decide))) dh))
                                    · exact iy (bf (bf (bf gb))) (by decide)
                                  · exact dh
                            · exact cu (cu (cu eq_nil))
                          · exact Cv
                          · exact mq _
                        · exact jh (m5 Cv)
                        · exact um
                    · exact yu
                  · exact jh (m5 Cv)
theorem Mw (F:Fun K "_law_forged" "_law_forged" Ab f fd) (hmg:mg "_law_forged" = some (.ref f)) (d_let_by:jg P w K mg base "let_by" 7 ["rows","forms","paper"] (_root_.K.oh)) (b_list:mg "list" = none) (b_tuple:mg "tuple" = none):jg P w K mg base "_law_forged" 8 ["_law_rows_here","_law_atoms","_law_m","_law_paper_rows"] _root_.K.Ad :=
  ⟨f,fd,M9 F d_let_by b_list b_tuple,F.binds (ps:=["_law_rows_here","_law_atoms","_law_m","_law_paper_rows"]) fun _ _ _ _ _ _ us hl=>bd4 (fun _ _ _ _=>rfl) us hl,F.kp,hmg⟩
noncomputable abbrev Lx:Stmt:=top 38
theorem a1t:nq ["_law_script","_law_first","_law_rows_here","_law_m","_law_bounds","_law_box","_law_low","_law_high","_law_atoms","_law_paper_rows","_law_other","_law_cell","_law_at","_law_bent_here","_law_nothing"] ["_law_script"] (iz Lx):=⟨rfl,rfl,rfl,by decide +kernel,rfl,by decide +kernel,by decide +kernel⟩
theorem a6j (F:Fun K "law" "law" Lx f fd) (d_law_asked:jg P w K mg base "_law_asked" 8 ["_law_rows_here","_law_atoms","_law_bounds","_law_m","_law_paper_rows"] (_root_.K.ou)) (d_law_bent:jg P w K mg base "_law_bent" 1 ["_law_row","_law_cell","_law_many"] (_root_.K.wk)) (d_law_cell_at:jg P w K mg base "_law_cell_at" 1 ["_law_script","_law_k"] (_root_.K.j6)) (d_law_forged:jg P w K mg base "_law_forged" 8 ["_law_rows_here","_law_atoms","_law_m","_law_paper_rows"] (_root_.K.Ad)) (d_law_made:jg P w K mg base "_law_made" 3 ["_law_script","_law_rows_here","_law_m","_law_many"] (_root_.K.Bv)) (d_law_rows:jg P w K mg base "_law_rows" 2 ["_law_script"] (_root_.K.Bk)) (b_len:mg "len" = none):Ce P w K mg base CX0 9 f fd ["_law_script"] (spF K (["_law_script"]:List Str).length _root_.K.Vt):=by
  have d_law_asked:=d_law_asked.mono (show 8≤8 by first | decide | omega)
  have d_law_bent:=d_law_bent.mono (show 1≤8 by first | decide | omega)
  have d_law_cell_at:=d_law_cell_at.mono (show 1≤8 by first | decide | omega)
  have d_law_forged:=d_law_forged.mono (show 8≤8 by first | decide | omega)
  have d_law_made:=d_law_made.mono (show 3≤8 by first | decide | omega)
  have d_law_rows:=d_law_rows.mono (show 2≤8 by first | decide | omega)
  refine qe (N:=["_law_script","_law_first","_law_rows_here","_law_m","_law_bounds","_law_box","_law_low","_law_high","_law_atoms","_law_paper_rows","_law_other","_law_cell","_law_at","_law_bent_here","_law_nothing"]) F a1t (by decide)  fun cdv A outer s H E B hr=>?_
  have hu:=zx hr
  have hq:=hr.units
  have nd:(["_law_script","_law_first","_law_rows_here","_law_m","_law_bounds","_law_box","_law_low","_law_high","_law_atoms","_law_paper_rows","_law_other","_law_cell","_law_at","_law_bent_here","_law_nothing"]:List Str).Nodup:=a1t.nd
  refine gq ?_ ?_
  · exact mz 1 (m6 nd rfl (Or.inl rfl) (iu d_law_cell_at hr (by rfl) (ao (au 0 (pv 0)) (ao bx dh)) (cu (cu eq_nil)))) (fun _ _ _ h=>h)
  · refine gq ?_ ?_
    · exact mz 2 (m6 nd rfl (Or.inl rfl) (iu d_law_rows hr (by rfl) (ao (au 0 (pv 0)) dh) (cu eq_nil))) (fun _ _ _ h=>h)
    · refine gq ?_ ?_
      · refine mz (te:=tOf _ _ _) _ ?_ (fun _ _ _ h=>h)
        · refine m6 ?_ ?_ ?_ ?_
          · exact nd
          · exact rfl
          · exact Or.inl rfl
          · refine jj ?_ ?_ ?_
            · exact jq
            · exact bx
            · refine jj ?_ ?_ ?_
              · exact qx
              · exact jj yp (iu d_law_cell_at hr (by rfl) (ao (au 0 (pv 0)) (ao bx dh)) (cu (cu eq_nil))) bx
              · exact jk hu (xr (ao bx (ao (jj Ji bx bx) dh)) (iy (bf (bf gb)) (by decide))) (jj qx (jj yp (au 1 (pv 1)) bx) bx) (fun _ _=>rfl)
      · refine gq ?_ ?_
        · exact Dt 4 (m6 nd rfl (Or.inl rfl) (Hw dh (iy gb (by decide)))) (fun _ _ _ h=>h)
        · refine gq ?_ ?_
          · refine Ck ?_ ?_ ?_ ?_ ?_ ?_
            · exact PassesOwn.never
            · exact rfl
            · exact yw (au 2 (pv 2))
            · exact Ef (is:=[5,6,7]) (Dh rfl (n6 (jr nd rfl (Or.inl rfl)) (n6 (jr nd rfl (Or.inl rfl)) (n6 (jr nd rfl (Or.inl rfl)) Bf))))
            · refine gq ?_ ?_
              · refine tu _ ?_
                · refine vp ?_
                  · refine Dl PySem.F.plainAttrs_list PySem.F.slot_list_append PySem.F.type_list_append qz ?_ ?_
                    · exact pv 4
                    · refine qp ?_ ?_
                      · refine je ?_ ?_
                        · refine ao ?_ ?_
                          · exact uh
                          · refine ao ?_ ?_
                            · exact je (ao (au 6 (pv 6)) (ao (je (ao (je (ao (au 5 (pv 5)) (ao (Aq qj bx) dh)) (iy (bf (bf gb)) (by decide))) dh) (iy (bf gb) (by decide))) dh)) (iy (bf (bf gb)) (by decide))
                            · exact dh
                        · exact iy (bf (bf gb)) (by decide)
                      · exact vf
              · refine jh ?_
                · refine tu _ ?_
                  · refine vp ?_
                    · refine Dl PySem.F.plainAttrs_list PySem.F.slot_list_append PySem.F.type_list_append qz ?_ ?_
                      · exact pv 4
                      · refine qp ?_ ?_
                        · refine je ?_ ?_
                          · refine ao ?_ ?_
                            · exact uh
                            · refine ao ?_ ?_
                              · exact je (ao (Aq qj (au 7 (pv 7))) (ao (je (ao (je (ao (au 5 (pv 5)) (ao bx dh)) (iy (bf (bf gb)) (by decide))) dh) (iy (bf gb) (by decide))) dh)) (iy (bf (bf gb)) (by decide))
                              · exact dh
                          · exact iy (bf (bf gb)) (by decide)
                        · exact vf
            · exact yu
          · refine gq ?_ ?_
            · refine a7e ?_
              · refine Tr ?_ ?_
                · exact iu d_law_made hr (by rfl) (ao (au 0 (pv 0)) (ao (au 2 (pv 2)) (ao (au 3 (pv 3)) (ao (Bc 4 b_len rfl (pv 4)) dh)))) (cu (cu (cu (cu eq_nil))))
                · exact Ef (is:=[8,9]) (Dh rfl (n6 (jr nd rfl (Or.inl rfl)) (n6 (jr nd rfl (Or.inl rfl)) Bf)))
            · refine gq ?_ ?_
              · exact zm (Fd (xu (iu d_law_asked hr (by rfl) (ao (au 2 (pv 2)) (ao (au 8 (pv 8)) (ao (au 4 (pv 4)) (ao (au 3 (pv 3)) (ao (au 9 (pv 9)) dh))))) (cu (cu (cu (cu (cu eq_nil))))))))   (jh (m5 Cv))   um
              · refine gq ?_ ?_
                · refine Ck ?_ ?_ ?_ ?_ ?_ ?_
                  · exact PassesOwn.never
                  · exact rfl
                  · refine yw ?_
                    · refine xr ?_ ?_
                      · exact ao (jj jq (au 3 (pv 3)) bx) (ao bx (ao bx (ao (Aq qj (au 3 (pv 3))) (ao Cv (ao (jj Cj bx (au 3 (pv 3))) (ao bx dh))))))
                      · exact iy (bf (bf (bf (bf (bf (bf (bf gb))))))) (by decide)
                  · exact wj 10 (jr nd rfl (Or.inl rfl))
                  · refine jh ?_
                    · exact zm (Fd (xu (iu d_law_asked hr (by rfl) (ao (au 2 (pv 2)) (ao (au 8 (pv 8)) (ao (au 4 (pv 4)) (ao (au 10 (pv 10)) (ao (au 9 (pv 9)) dh))))) (cu (cu (cu (cu (cu eq_nil))))))))   (jh (m5 Cv))   um
                  · exact yu
                · refine gq ?_ ?_
                  · refine Ck ?_ ?_ ?_ ?_ ?_ ?_
                    · exact PassesOwn.never
                    · exact rfl
                    · exact yw (ux (au 0 (pv 0)) (w6 bx) (w6 bx))
                    · exact wj 11 (jr nd rfl (Or.inl rfl))
                    · refine gq ?_ ?_
                      · exact mz 12 (m6 nd rfl (Or.inl rfl) (jj qx (jj yp (au 11 (pv 11)) bx) (jx (qg ud (by rfl) b_len PySem.boot_len (ao (au 9 (pv 9)) dh))))) (fun _ _ _ h=>h)
                      · refine gq ?_ ?_
                        · refine mz (te:=tOf _ _ _) _ ?_ (fun _ _ _ h=>h)
                          · refine m6 ?_ ?_ ?_ ?_
                            · exact nd
                            · exact rfl
                            · exact Or.inl rfl
                            · refine jj ?_ ?_ ?_
                              · exact jq
                              · refine jj ?_ ?_ ?_
                                · exact jq
                                · exact ux (au 9 (pv 9)) zj (w6 (au 12 (pv 12)))
                                · refine xr ?_ ?_
                                  · refine ao ?_ ?_
                                    · refine iu d_law_bent ?_ ?_ ?_ ?_
                                      · exact hr
                                      · exact by rfl
                                      · exact ao (jk hu (au 9 (pv 9)) (au 12 (pv 12)) (fun _ _=>rfl)) (ao (au 11 (pv 11)) (ao (jj jq (Bc 4 b_len rfl (pv 4)) (jx (qg ud (by rfl) b_len PySem.boot_len (ao (au 8 (pv 8)) dh)))) dh))
                                      · exact cu (cu (cu eq_nil))
                                    · exact dh
                                  · exact iy (bf gb) (by decide)
                              · exact ux (au 9 (pv 9)) (w6 (jj jq (au 12 (pv 12)) bx)) zj
                        · refine jh ?_
                          · exact zm (Fd (xu (iu d_law_asked hr (by rfl) (ao (au 2 (pv 2)) (ao (au 8 (pv 8)) (ao (au 4 (pv 4)) (ao (au 3 (pv 3)) (ao (au 13 (pv 13)) dh))))) (cu (cu (cu (cu (cu eq_nil))))))))   (jh (m5 Cv))   um
                    · exact yu
                  · refine gq ?_ ?_
                    · exact zm (Fd (xu (iu d_law_forged hr (by rfl) (ao (au 2 (pv 2)) (ao (au 8 (pv 8)) (ao (au 3 (pv 3)) (ao (au 9 (pv 9)) dh)))) (cu (cu (cu (cu eq_nil)))))))   (jh (m5 Cv))   um
                    · refine gq ?_ ?_
                      · exact mz 14 (m6 nd rfl (Or.inl rfl) (jj jq (ux (jk hu (au 9 (pv 9)) (Aq qj bx) (fun _ _=>rfl)) zj (w6 (Aq qj bx))) (je (ao bx dh) (iy (bf gb) (by decide))))) (fun _ _ _ h=>h)
                      · refine jh ?_
                        · refine m5 ?_
                          · refine Cq ?_ ?_
                            · refine iu d_law_asked ?_ ?_ ?_ ?_
                              · exact hr
                              · exact by rfl
                              · exact ao (au 2 (pv 2)) (ao (au 8 (pv 8)) (ao (au 4 (pv 4)) (ao (au 3 (pv 3)) (ao (jj jq (au 9 (pv 9)) (xr (ao (au 14 (pv 14)) dh) (iy (bf gb) (by decide)))) dh))))
                              · exact cu (cu (cu (cu (cu eq_nil))))
                            · exact Ei (iu d_law_asked hr (by rfl) (ao (au 2 (pv 2)) (ao (au 8 (pv 8)) (ao (au 4 (pv 4)) (ao (au 3 (pv 3)) (ao (xr dh (iy gb (by decide))) dh))))) (cu (cu (cu (cu (cu eq_nil))))))
end
end D
end
noncomputable section
set_option linter.all false
set_option maxRecDepth 100000
set_option maxHeartbeats 1000000
namespace D
open PySem L2 C
theorem all_mk {l:PySem.W.OpenLaw} {w:World} {K:PySem.W.Frag} {h:Heap} {mg:Str→Option Value} {fa f1 f2 f3 f4 f5 f6 f7 f8 f9 f10 f11 f12 f13 f14 f15 f16 f17 f18 f19 f20 f21 f22 f23 f24 f25 f26 f27 f28 f29 f30 f31 f32 f33 f34 f35:Addr} (X:K.In h) (G:h.Ns mainGlobals mg) (hfa:mg "law" = some (.ref fa))
    {od1 an1 od2 an2 od3 an3 od4 an4 od5 an5 od6 an6 od7 an7 od8 an8 od9 an9 od10 an10 od11 an11 od12 an12 od13 an13 od14 an14 od15 an15 od16 an16 od17 an17 od18 an18 od19 an19 od20 an20 od21 an21 od22 an22 od23 an23 od24 an24 od25 an25 od26 an26 od27 an27 od28 an28 od29 an29 od30 an30 od31 an31 od32 an32 od33 an33 od34 an34 od35 an35:Option Addr} {sl1 sl2 sl3 sl4 sl5 sl6 sl7 sl8 sl9 sl10 sl11 sl12 sl13 sl14 sl15 sl16 sl17 sl18 sl19 sl20 sl21 sl22 sl23 sl24 sl25 sl26 sl27 sl28 sl29 sl30 sl31 sl32 sl33 sl34 sl35:Array (Option Value)} {oc1 kV1 dc1 pm1 cd1 ct1 oc2 kV2 dc2 pm2 cd2 ct2 oc3 kV3 dc3 pm3 cd3 ct3 oc4 kV4 dc4 pm4 cd4 ct4 oc5 kV5 dc5 pm5 cd5 ct5 oc6 kV6 dc6 pm6 cd6 ct6 oc7 kV7 dc7 pm7 cd7 ct7 oc8 kV8 dc8 pm8 cd8 ct8 oc9 kV9 dc9 pm9 cd9 ct9 oc10 kV10 dc10 pm10 cd10 ct10 oc11 kV11 dc11 pm11 cd11 ct11 oc12 kV12 dc12 pm12 cd12 ct12 oc13 kV13 dc13 pm13 cd13 ct13 oc14 kV14 dc14 pm14 cd14 ct14 oc15 kV15 dc15 pm15 cd15 ct15 oc16 kV16 dc16 pm16 cd16 ct16 oc17 kV17 dc17 pm17 cd17 ct17 oc18 kV18 dc18 pm18 cd18 ct18 oc19 kV19 dc19 pm19 cd19 ct19 oc20 kV20 dc20 pm20 cd20 ct20 oc21 kV21 dc21 pm21 cd21 ct21 oc22 kV22 dc22 pm22 cd22 ct22 oc23 kV23 dc23 pm23 cd23 ct23 oc24 kV24 dc24 pm24 cd24 ct24 oc25 kV25 dc25 pm25 cd25 ct25 oc26 kV26 dc26 pm26 cd26 ct26 oc27 kV27 dc27 pm27 cd27 ct27 oc28 kV28 dc28 pm28 cd28 ct28 oc29 kV29 dc29 pm29 cd29 ct29 oc30 kV30 dc30 pm30 cd30 ct30 oc31 kV31 dc31 pm31 cd31 ct31 oc32 kV32 dc32 pm32 cd32 ct32 oc33 kV33 dc33 pm33 cd33 ct33 oc34 kV34 dc34 pm34 cd34 ct34 oc35 kV35 dc35 pm35 cd35 ct35:Value}
    (a1:PySem.W.nsIn K mainGlobals "sum_of" = some (some (.ref f1))) (l1:K.lookup f1=some ⟨oc1,od1,.func (PySem.W.fnOf "sum_of" "sum_of" (n8 Eb) (m9 Eb) (iz Eb) .none kV1 dc1 pm1 an1 cd1 ct1),sl1⟩) (c1:PySem.W.codeIn K cd1 "sum_of" = true) (k1:PySem.W.keepIn K (.ref f1)=true)
    (a2:PySem.W.nsIn K mainGlobals "plus" = some (some (.ref f2))) (l2:K.lookup f2=some ⟨oc2,od2,.func (PySem.W.fnOf "plus" "plus" (n8 Jb) (m9 Jb) (iz Jb) .none kV2 dc2 pm2 an2 cd2 ct2),sl2⟩) (c2:PySem.W.codeIn K cd2 "plus" = true) (k2:PySem.W.keepIn K (.ref f2)=true)
    (a3:PySem.W.nsIn K mainGlobals "laid_in" = some (some (.ref f3))) (l3:K.lookup f3=some ⟨oc3,od3,.func (PySem.W.fnOf "laid_in" "laid_in" (n8 Cp) (m9 Cp) (iz Cp) .none kV3 dc3 pm3 an3 cd3 ct3),sl3⟩) (c3:PySem.W.codeIn K cd3 "laid_in" = true) (k3:PySem.W.keepIn K (.ref f3)=true)
    (a4:PySem.W.nsIn K mainGlobals "plain_tuple" = some (some (.ref f4))) (l4:K.lookup f4=some ⟨oc4,od4,.func (PySem.W.fnOf "plain_tuple" "plain_tuple" (n8 yr) (m9 yr) (iz yr) .none kV4 dc4 pm4 an4 cd4 ct4),sl4⟩) (c4:PySem.W.codeIn K cd4 "plain_tuple" = true) (k4:PySem.W.keepIn K (.ref f4)=true)
    (a5:PySem.W.nsIn K mainGlobals "is_kind" = some (some (.ref f5))) (l5:K.lookup f5=some ⟨oc5,od5,.func (PySem.W.fnOf "is_kind" "is_kind" (n8 Cy) (m9 Cy) (iz Cy) .none kV5 dc5 pm5 an5 cd5 ct5),sl5⟩) (c5:PySem.W.codeIn K cd5 "is_kind" = true) (k5:PySem.W.keepIn K (.ref f5)=true)
    (a6:PySem.W.nsIn K mainGlobals "is_whole" = some (some (.ref f6))) (l6:K.lookup f6=some ⟨oc6,od6,.func (PySem.W.fnOf "is_whole" "is_whole" (n8 Bp) (m9 Bp) (iz Bp) .none kV6 dc6 pm6 an6 cd6 ct6),sl6⟩) (c6:PySem.W.codeIn K cd6 "is_whole" = true) (k6:PySem.W.keepIn K (.ref f6)=true)
    (a7:PySem.W.nsIn K mainGlobals "is_place" = some (some (.ref f7))) (l7:K.lookup f7=some ⟨oc7,od7,.func (PySem.W.fnOf "is_place" "is_place" (n8 Bj) (m9 Bj) (iz Bj) .none kV7 dc7 pm7 an7 cd7 ct7),sl7⟩) (c7:PySem.W.codeIn K cd7 "is_place" = true) (k7:PySem.W.keepIn K (.ref f7)=true)
    (a8:PySem.W.nsIn K mainGlobals "papers_of_or" = some (some (.ref f8))) (l8:K.lookup f8=some ⟨oc8,od8,.func (PySem.W.fnOf "papers_of_or" "papers_of_or" (n8 vo) (m9 vo) (iz vo) .none kV8 dc8 pm8 an8 cd8 ct8),sl8⟩) (c8:PySem.W.codeIn K cd8 "papers_of_or" = true) (k8:PySem.W.keepIn K (.ref f8)=true)
    (a9:PySem.W.nsIn K mainGlobals "at_most" = some (some (.ref f9))) (l9:K.lookup f9=some ⟨oc9,od9,.func (PySem.W.fnOf "at_most" "at_most" (n8 Cz) (m9 Cz) (iz Cz) .none kV9 dc9 pm9 an9 cd9 ct9),sl9⟩) (c9:PySem.W.codeIn K cd9 "at_most" = true) (k9:PySem.W.keepIn K (.ref f9)=true)
    (a10:PySem.W.nsIn K mainGlobals "at_least" = some (some (.ref f10))) (l10:K.lookup f10=some ⟨oc10,od10,.func (PySem.W.fnOf "at_least" "at_least" (n8 Bm) (m9 Bm) (iz Bm) .none kV10 dc10 pm10 an10 cd10 ct10),sl10⟩) (c10:PySem.W.codeIn K cd10 "at_least" = true) (k10:PySem.W.keepIn K (.ref f10)=true)
    (a11:PySem.W.nsIn K mainGlobals "papers_of_cut" = some (some (.ref f11))) (l11:K.lookup f11=some ⟨oc11,od11,.func (PySem.W.fnOf "papers_of_cut" "papers_of_cut" (n8 uz) (m9 uz) (iz uz) .none kV11 dc11 pm11 an11 cd11 ct11),sl11⟩) (c11:PySem.W.codeIn K cd11 "papers_of_cut" = true) (k11:PySem.W.keepIn K (.ref f11)=true)
    (a12:PySem.W.nsIn K mainGlobals "added_up" = some (some (.ref f12))) (l12:K.lookup f12=some ⟨oc12,od12,.func (PySem.W.fnOf "added_up" "added_up" (n8 Bl) (m9 Bl) (iz Bl) .none kV12 dc12 pm12 an12 cd12 ct12),sl12⟩) (c12:PySem.W.codeIn K cd12 "added_up" = true) (k12:PySem.W.keepIn K (.ref f12)=true)
    (a13:PySem.W.nsIn K mainGlobals "is_atom" = some (some (.ref f13))) (l13:K.lookup f13=some ⟨oc13,od13,.func (PySem.W.fnOf "is_atom" "is_atom" (n8 Cm) (m9 Cm) (iz Cm) .none kV13 dc13 pm13 an13 cd13 ct13),sl13⟩) (c13:PySem.W.codeIn K cd13 "is_atom" = true) (k13:PySem.W.keepIn K (.ref f13)=true)
    (a14:PySem.W.nsIn K mainGlobals "is_sum_row" = some (some (.ref f14))) (l14:K.lookup f14=some ⟨oc14,od14,.func (PySem.W.fnOf "is_sum_row" "is_sum_row" (n8 Aa) (m9 Aa) (iz Aa) .none kV14 dc14 pm14 an14 cd14 ct14),sl14⟩) (c14:PySem.W.codeIn K cd14 "is_sum_row" = true) (k14:PySem.W.keepIn K (.ref f14)=true)
    (a15:PySem.W.nsIn K mainGlobals "is_sum" = some (some (.ref f15))) (l15:K.lookup f15=some ⟨oc15,od15,.func (PySem.W.fnOf "is_sum" "is_sum" (n8 Dv) (m9 Dv) (iz Dv) .none kV15 dc15 pm15 an15 cd15 ct15),sl15⟩) (c15:PySem.W.codeIn K cd15 "is_sum" = true) (k15:PySem.W.keepIn K (.ref f15)=true)
    (a16:PySem.W.nsIn K mainGlobals "is_zero_pair" = some (some (.ref f16))) (l16:K.lookup f16=some ⟨oc16,od16,.func (PySem.W.fnOf "is_zero_pair" "is_zero_pair" (n8 vm) (m9 vm) (iz vm) .none kV16 dc16 pm16 an16 cd16 ct16),sl16⟩) (c16:PySem.W.codeIn K cd16 "is_zero_pair" = true) (k16:PySem.W.keepIn K (.ref f16)=true)
    (a17:PySem.W.nsIn K mainGlobals "is_rest_row" = some (some (.ref f17))) (l17:K.lookup f17=some ⟨oc17,od17,.func (PySem.W.fnOf "is_rest_row" "is_rest_row" (n8 yd) (m9 yd) (iz yd) .none kV17 dc17 pm17 an17 cd17 ct17),sl17⟩) (c17:PySem.W.codeIn K cd17 "is_rest_row" = true) (k17:PySem.W.keepIn K (.ref f17)=true)
    (a18:PySem.W.nsIn K mainGlobals "is_rest" = some (some (.ref f18))) (l18:K.lookup f18=some ⟨oc18,od18,.func (PySem.W.fnOf "is_rest" "is_rest" (n8 Cw) (m9 Cw) (iz Cw) .none kV18 dc18 pm18 an18 cd18 ct18),sl18⟩) (c18:PySem.W.codeIn K cd18 "is_rest" = true) (k18:PySem.W.keepIn K (.ref f18)=true)
    (a19:PySem.W.nsIn K mainGlobals "plain_row" = some (some (.ref f19))) (l19:K.lookup f19=some ⟨oc19,od19,.func (PySem.W.fnOf "plain_row" "plain_row" (n8 Aw) (m9 Aw) (iz Aw) .none kV19 dc19 pm19 an19 cd19 ct19),sl19⟩) (c19:PySem.W.codeIn K cd19 "plain_row" = true) (k19:PySem.W.keepIn K (.ref f19)=true)
    (a20:PySem.W.nsIn K mainGlobals "plain_rows" = some (some (.ref f20))) (l20:K.lookup f20=some ⟨oc20,od20,.func (PySem.W.fnOf "plain_rows" "plain_rows" (n8 zu) (m9 zu) (iz zu) .none kV20 dc20 pm20 an20 cd20 ct20),sl20⟩) (c20:PySem.W.codeIn K cd20 "plain_rows" = true) (k20:PySem.W.keepIn K (.ref f20)=true)
    (a21:PySem.W.nsIn K mainGlobals "papers_within" = some (some (.ref f21))) (l21:K.lookup f21=some ⟨oc21,od21,.func (PySem.W.fnOf "papers_within" "papers_within" (n8 v7) (m9 v7) (iz v7) .none kV21 dc21 pm21 an21 cd21 ct21),sl21⟩) (c21:PySem.W.codeIn K cd21 "papers_within" = true) (k21:PySem.W.keepIn K (.ref f21)=true)
    (a22:PySem.W.nsIn K mainGlobals "first_lists" = some (some (.ref f22))) (l22:K.lookup f22=some ⟨oc22,od22,.func (PySem.W.fnOf "first_lists" "first_lists" (n8 yh) (m9 yh) (iz yh) .none kV22 dc22 pm22 an22 cd22 ct22),sl22⟩) (c22:PySem.W.codeIn K cd22 "first_lists" = true) (k22:PySem.W.keepIn K (.ref f22)=true)
    (a23:PySem.W.nsIn K mainGlobals "let_by" = some (some (.ref f23))) (l23:K.lookup f23=some ⟨oc23,od23,.func (PySem.W.fnOf "let_by" "let_by" (n8 Ea) (m9 Ea) (iz Ea) .none kV23 dc23 pm23 an23 cd23 ct23),sl23⟩) (c23:PySem.W.codeIn K cd23 "let_by" = true) (k23:PySem.W.keepIn K (.ref f23)=true)
    (a24:PySem.W.nsIn K mainGlobals "_law_cell_at" = some (some (.ref f24))) (l24:K.lookup f24=some ⟨oc24,od24,.func (PySem.W.fnOf "_law_cell_at" "_law_cell_at" (n8 yc) (m9 yc) (iz yc) .none kV24 dc24 pm24 an24 cd24 ct24),sl24⟩) (c24:PySem.W.codeIn K cd24 "_law_cell_at" = true) (k24:PySem.W.keepIn K (.ref f24)=true)
    (a25:PySem.W.nsIn K mainGlobals "_law_signed" = some (some (.ref f25))) (l25:K.lookup f25=some ⟨oc25,od25,.func (PySem.W.fnOf "_law_signed" "_law_signed" (n8 zq) (m9 zq) (iz zq) .none kV25 dc25 pm25 an25 cd25 ct25),sl25⟩) (c25:PySem.W.codeIn K cd25 "_law_signed" = true) (k25:PySem.W.keepIn K (.ref f25)=true)
    (a26:PySem.W.nsIn K mainGlobals "_law_plus" = some (some (.ref f26))) (l26:K.lookup f26=some ⟨oc26,od26,.func (PySem.W.fnOf "_law_plus" "_law_plus" (n8 Bw) (m9 Bw) (iz Bw) .none kV26 dc26 pm26 an26 cd26 ct26),sl26⟩) (c26:PySem.W.codeIn K cd26 "_law_plus" = true) (k26:PySem.W.keepIn K (.ref f26)=true)
    (a27:PySem.W.nsIn K mainGlobals "_law_rows" = some (some (.ref f27))) (l27:K.lookup f27=some ⟨oc27,od27,.func (PySem.W.fnOf "_law_rows" "_law_rows" (n8 Bq) (m9 Bq) (iz Bq) .none kV27 dc27 pm27 an27 cd27 ct27),sl27⟩) (c27:PySem.W.codeIn K cd27 "_law_rows" = true) (k27:PySem.W.keepIn K (.ref f27)=true)
    (a28:PySem.W.nsIn K mainGlobals "_law_sum" = some (some (.ref f28))) (l28:K.lookup f28=some ⟨oc28,od28,.func (PySem.W.fnOf "_law_sum" "_law_sum" (n8 Dc) (m9 Dc) (iz Dc) .none kV28 dc28 pm28 an28 cd28 ct28),sl28⟩) (c28:PySem.W.codeIn K cd28 "_law_sum" = true) (k28:PySem.W.keepIn K (.ref f28)=true)
    (a29:PySem.W.nsIn K mainGlobals "_law_part" = some (some (.ref f29))) (l29:K.lookup f29=some ⟨oc29,od29,.func (PySem.W.fnOf "_law_part" "_law_part" (n8 Br) (m9 Br) (iz Br) .none kV29 dc29 pm29 an29 cd29 ct29),sl29⟩) (c29:PySem.W.codeIn K cd29 "_law_part" = true) (k29:PySem.W.keepIn K (.ref f29)=true)
    (a30:PySem.W.nsIn K mainGlobals "_law_says" = some (some (.ref f30))) (l30:K.lookup f30=some ⟨oc30,od30,.func (PySem.W.fnOf "_law_says" "_law_says" (n8 Bu) (m9 Bu) (iz Bu) .none kV30 dc30 pm30 an30 cd30 ct30),sl30⟩) (c30:PySem.W.codeIn K cd30 "_law_says" = true) (k30:PySem.W.keepIn K (.ref f30)=true)
    (a31:PySem.W.nsIn K mainGlobals "_law_asked" = some (some (.ref f31))) (l31:K.lookup f31=some ⟨oc31,od31,.func (PySem.W.fnOf "_law_asked" "_law_asked" (n8 Av) (m9 Av) (iz Av) .none kV31 dc31 pm31 an31 cd31 ct31),sl31⟩) (c31:PySem.W.codeIn K cd31 "_law_asked" = true) (k31:PySem.W.keepIn K (.ref f31)=true)
    (a32:PySem.W.nsIn K mainGlobals "_law_made" = some (some (.ref f32))) (l32:K.lookup f32=some ⟨oc32,od32,.func (PySem.W.fnOf "_law_made" "_law_made" (n8 Bt) (m9 Bt) (iz Bt) .none kV32 dc32 pm32 an32 cd32 ct32),sl32⟩) (c32:PySem.W.codeIn K cd32 "_law_made" = true) (k32:PySem.W.keepIn K (.ref f32)=true)
    (a33:PySem.W.nsIn K mainGlobals "_law_bent" = some (some (.ref f33))) (l33:K.lookup f33=some ⟨oc33,od33,.func (PySem.W.fnOf "_law_bent" "_law_bent" (n8 Bo) (m9 Bo) (iz Bo) .none kV33 dc33 pm33 an33 cd33 ct33),sl33⟩) (c33:PySem.W.codeIn K cd33 "_law_bent" = true) (k33:PySem.W.keepIn K (.ref f33)=true)
    (a34:PySem.W.nsIn K mainGlobals "_law_forged" = some (some (.ref f34))) (l34:K.lookup f34=some ⟨oc34,od34,.func (PySem.W.fnOf "_law_forged" "_law_forged" (n8 Ab) (m9 Ab) (iz Ab) .none kV34 dc34 pm34 an34 cd34 ct34),sl34⟩) (c34:PySem.W.codeIn K cd34 "_law_forged" = true) (k34:PySem.W.keepIn K (.ref f34)=true)
    (a35:PySem.W.nsIn K mainGlobals "law" = some (some (.ref f35))) (l35:K.lookup f35=some ⟨oc35,od35,.func (PySem.W.fnOf "law" "law" (n8 Lx) (m9 Lx) (iz Lx) .none kV35 dc35 pm35 an35 cd35 ct35),sl35⟩) (c35:PySem.W.codeIn K cd35 "law" = true) (k35:PySem.W.keepIn K (.ref f35)=true)
    (z_abs:PySem.W.nsIn K mainGlobals "abs" = some none)
    (z_all:PySem.W.nsIn K mainGlobals "all" = some none)
    (z_bool:PySem.W.nsIn K mainGlobals "bool" = some none)
    (z_dict:PySem.W.nsIn K mainGlobals "dict" = some none)
    (z_enumerate:PySem.W.nsIn K mainGlobals "enumerate" = some none)
    (z_int:PySem.W.nsIn K mainGlobals "int" = some none)
    (z_isinstance:PySem.W.nsIn K mainGlobals "isinstance" = some none)
    (z_len:PySem.W.nsIn K mainGlobals "len" = some none)
    (z_list:PySem.W.nsIn K mainGlobals "list" = some none)
    (z_range:PySem.W.nsIn K mainGlobals "range" = some none)
    (z_sorted:PySem.W.nsIn K mainGlobals "sorted" = some none)
    (z_str:PySem.W.nsIn K mainGlobals "str" = some none)
    (z_tuple:PySem.W.nsIn K mainGlobals "tuple" = some none)
    (z_zip:PySem.W.nsIn K mainGlobals "zip" = some none)
    {tk_MOST_DEEP:Tok} (zc_MOST_DEEP:PySem.W.nsIn K mainGlobals "MOST_DEEP" = some (some (.int 90 tk_MOST_DEEP)))
    : ∃ fd:FuncData,(∀ (s:Shared) (v:Value),BindsTo s fd ⟨[v],[]⟩ [("_law_script",v)])∧∀ base:Heap,K.In base→base.Ns mainGlobals mg→Ce l.prog w K mg base CX0 9 fa fd ["_law_script"] (spF K 1 _root_.K.Vt):=by
  have e:=hfa.symm.trans (PySem.W.mg_of X G a35)
  cases e
  have F1:=ug (st:=Eb) l1 c1 k1
  have F2:=ug (st:=Jb) l2 c2 k2
  have F3:=ug (st:=Cp) l3 c3 k3
  have F4:=ug (st:=yr) l4 c4 k4
  have F5:=ug (st:=Cy) l5 c5 k5
  have F6:=ug (st:=Bp) l6 c6 k6
  have F7:=ug (st:=Bj) l7 c7 k7
  have F8:=ug (st:=vo) l8 c8 k8
  have F9:=ug (st:=Cz) l9 c9 k9
  have F10:=ug (st:=Bm) l10 c10 k10
  have F11:=ug (st:=uz) l11 c11 k11
  have F12:=ug (st:=Bl) l12 c12 k12
  have F13:=ug (st:=Cm) l13 c13 k13
  have F14:=ug (st:=Aa) l14 c14 k14
  have F15:=ug (st:=Dv) l15 c15 k15
  have F16:=ug (st:=vm) l16 c16 k16
  have F17:=ug (st:=yd) l17 c17 k17
  have F18:=ug (st:=Cw) l18 c18 k18
  have F19:=ug (st:=Aw) l19 c19 k19
  have F20:=ug (st:=zu) l20 c20 k20
  have F21:=ug (st:=v7) l21 c21 k21
  have F22:=ug (st:=yh) l22 c22 k22
  have F23:=ug (st:=Ea) l23 c23 k23
  have F24:=ug (st:=yc) l24 c24 k24
  have F25:=ug (st:=zq) l25 c25 k25
  have F26:=ug (st:=Bw) l26 c26 k26
  have F27:=ug (st:=Bq) l27 c27 k27
  have F28:=ug (st:=Dc) l28 c28 k28
  have F29:=ug (st:=Br) l29 c29 k29
  have F30:=ug (st:=Bu) l30 c30 k30
  have F31:=ug (st:=Av) l31 c31 k31
  have F32:=ug (st:=Bt) l32 c32 k32
  have F33:=ug (st:=Bo) l33 c33 k33
  have F34:=ug (st:=Ab) l34 c34 k34
  have F35:=ug (st:=Lx) l35 c35 k35
  have b_abs:=PySem.W.mg_none_of X G z_abs
  have b_all:=PySem.W.mg_none_of X G z_all
  have b_bool:=PySem.W.mg_none_of X G z_bool
  have b_dict:=PySem.W.mg_none_of X G z_dict
  have b_enumerate:=PySem.W.mg_none_of X G z_enumerate
  have b_int:=PySem.W.mg_none_of X G z_int
  have b_isinstance:=PySem.W.mg_none_of X G z_isinstance
  have b_len:=PySem.W.mg_none_of X G z_len
  have b_list:=PySem.W.mg_none_of X G z_list
  have b_range:=PySem.W.mg_none_of X G z_range
  have b_sorted:=PySem.W.mg_none_of X G z_sorted
  have b_str:=PySem.W.mg_none_of X G z_str
  have b_tuple:=PySem.W.mg_none_of X G z_tuple
  have b_zip:=PySem.W.mg_none_of X G z_zip
  have c_MOST_DEEP:∃ tk,mg "MOST_DEEP" = some (.int 90 tk):=⟨_,PySem.W.mg_of X G zc_MOST_DEEP⟩
  refine ⟨PySem.W.fnOf "law" "law" (n8 Lx) (m9 Lx) (iz Lx) .none kV35 dc35 pm35 an35 cd35 ct35,fun s v=>.of_eq rfl,fun base _ _=>?_⟩
  have d_sum_of:=Xd (P:=l.prog) (w:=w) (base:=base) F1 (PySem.W.mg_of X G a1) b_sorted b_tuple
  have d_plus:=a2g (P:=l.prog) (w:=w) (base:=base) F2 (PySem.W.mg_of X G a2) d_sum_of
  have d_laid_in:=V8 (P:=l.prog) (w:=w) (base:=base) F3 (PySem.W.mg_of X G a3) b_len b_list
  have d_plain_tuple:=K9 (P:=l.prog) (w:=w) (base:=base) F4 (PySem.W.mg_of X G a4) b_isinstance b_tuple
  have d_is_kind:=Uy (P:=l.prog) (w:=w) (base:=base) F5 (PySem.W.mg_of X G a5) b_isinstance b_len b_str
  have d_is_whole:=Ry (P:=l.prog) (w:=w) (base:=base) F6 (PySem.W.mg_of X G a6) b_bool b_int b_isinstance
  have d_is_place:=Rt (P:=l.prog) (w:=w) (base:=base) F7 (PySem.W.mg_of X G a7) b_len
  have d_papers_of_or:=J5 (P:=l.prog) (w:=w) (base:=base) F8 (PySem.W.mg_of X G a8) d_is_place d_laid_in d_plain_tuple b_isinstance b_len b_tuple b_zip
  have d_at_most:=V7 (P:=l.prog) (w:=w) (base:=base) F9 (PySem.W.mg_of X G a9)
  have d_at_least:=Pq (P:=l.prog) (w:=w) (base:=base) F10 (PySem.W.mg_of X G a10)
  have d_papers_of_cut:=Ia (P:=l.prog) (w:=w) (base:=base) F11 (PySem.W.mg_of X G a11) d_at_least d_at_most d_laid_in b_isinstance b_len b_str
  have d_added_up:=Sv (P:=l.prog) (w:=w) (base:=base) F12 (PySem.W.mg_of X G a12) d_sum_of
  have d_is_atom:=Vv (P:=l.prog) (w:=w) (base:=base) F13 (PySem.W.mg_of X G a13) d_is_place
  have d_is_sum_row:=M5 (P:=l.prog) (w:=w) (base:=base) F14 (PySem.W.mg_of X G a14) d_is_atom b_len
  have d_is_sum:=Wm (P:=l.prog) (w:=w) (base:=base) F15 (PySem.W.mg_of X G a15) d_added_up d_is_sum_row b_all
  have d_is_zero_pair:=J1 (P:=l.prog) (w:=w) (base:=base) F16 (PySem.W.mg_of X G a16) d_is_atom d_plus
  have d_is_rest_row:=Kg (P:=l.prog) (w:=w) (base:=base) F17 (PySem.W.mg_of X G a17) d_is_atom d_is_zero_pair b_len
  have d_is_rest:=Uw (P:=l.prog) (w:=w) (base:=base) F18 (PySem.W.mg_of X G a18) d_added_up d_is_rest_row b_all
  have d_plain_row:=Nb (P:=l.prog) (w:=w) (base:=base) F19 (PySem.W.mg_of X G a19) d_is_whole d_plain_tuple b_all b_int b_tuple
  have d_plain_rows:=Ms (P:=l.prog) (w:=w) (base:=base) F20 (PySem.W.mg_of X G a20) d_plain_row d_plain_tuple
  have d_papers_within:=Ij (P:=l.prog) (w:=w) (base:=base) F21 (PySem.W.mg_of X G a21) d_is_kind d_is_rest d_is_sum d_is_whole d_papers_of_cut d_papers_of_or d_plain_rows d_plain_tuple b_int
  have d_first_lists:=Kf (P:=l.prog) (w:=w) (base:=base) F22 (PySem.W.mg_of X G a22) d_at_least d_at_most
  have d_let_by:=Wx (P:=l.prog) (w:=w) (base:=base) F23 (PySem.W.mg_of X G a23) d_first_lists d_laid_in d_papers_within b_len c_MOST_DEEP
  have d_law_cell_at:=Kh (P:=l.prog) (w:=w) (base:=base) F24 (PySem.W.mg_of X G a24) b_len
  have d_law_signed:=M4 (P:=l.prog) (w:=w) (base:=base) F25 (PySem.W.mg_of X G a25)
  have d_law_plus:=Ra (P:=l.prog) (w:=w) (base:=base) F26 (PySem.W.mg_of X G a26) b_dict b_sorted b_tuple
  have d_law_rows:=Qv (P:=l.prog) (w:=w) (base:=base) F27 (PySem.W.mg_of X G a27) d_law_cell_at d_law_signed b_abs b_range
  have d_law_sum:=Va (P:=l.prog) (w:=w) (base:=base) F28 (PySem.W.mg_of X G a28) d_law_plus d_law_signed b_len b_range
  have d_law_part:=R9 (P:=l.prog) (w:=w) (base:=base) F29 (PySem.W.mg_of X G a29) d_law_plus b_bool b_isinstance b_len
  have d_law_says:=Sd (P:=l.prog) (w:=w) (base:=base) F30 (PySem.W.mg_of X G a30) d_law_part d_law_plus b_bool b_isinstance b_len
  have d_law_asked:=Ol (P:=l.prog) (w:=w) (base:=base) F31 (PySem.W.mg_of X G a31) d_law_says d_let_by b_bool b_isinstance b_tuple
  have d_law_made:=Qg (P:=l.prog) (w:=w) (base:=base) F32 (PySem.W.mg_of X G a32) d_law_cell_at d_law_plus d_law_sum b_enumerate b_int b_len b_range b_tuple
  have d_law_bent:=Rk (P:=l.prog) (w:=w) (base:=base) F33 (PySem.W.mg_of X G a33)
  have d_law_forged:=Mw (P:=l.prog) (w:=w) (base:=base) F34 (PySem.W.mg_of X G a34) d_let_by b_list b_tuple
  exact a6j F35 d_law_asked d_law_bent d_law_cell_at d_law_forged d_law_made d_law_rows b_len
theorem walk {l:PySem.W.OpenLaw} {q:Program} {loose:List Str} {XP:(Str→Option Value)→Heap→Prop} {YP:World→Heap→Prop} {d:DefRec} {K:Params→PySem.W.Frag} (hn:l.most=some 63) (hdf:d.params.defaults=[])
    (hY:∀ (w:World) (h:Heap),YP w h→(K w.params).In h)
    (F:∀ (w:World) (mg:Str→Option Value) (fa:Addr) (h:Heap),(K w.params).In h→h.Ns mainGlobals mg→mg d.name=some (.ref fa) →
      ∃ fd:FuncData,(∀ (s:Shared) (u:Value),BindsTo s fd ⟨[u],[]⟩ [("_law_script",u)])∧∀ base:Heap,(K w.params).In base→base.Ns mainGlobals mg→Ce l.prog w (K w.params) mg base CX0 9 fa fd ["_law_script"] (spF (K w.params) 1 _root_.K.Vt)) :
    PySem.W.WalkO q loose XP YP l.row.toRowW d [] (fun f vs=>PySem.call f vs) :=
  L2.a4s (n:=63) (k:=9) (x := "_law_script") (CX:=fun _=>CX0) (sp:=fun w=>spF (K w.params) 1 _root_.K.Vt) hn (by decide) hdf ⟨rfl,by decide,by decide⟩ hY F (fun w H a ns hl _ hS=>a6k hS (_root_.K.a0o (cs:=ns))) fun _ _ _ _ _ z=>z
end D
open PySem PySem.W PyProof.Rows
set_option maxRecDepth 100000 in
set_option maxHeartbeats 0 in
theorem PySem.Challenge.cw_calm_k46_rest_papers_holds : PySem.Challenge.rw_calm_k46_rest_papers.Holds := by
  w_on; o_law; k_head; (case hw=>w_witness2)
  k_fill
  refine D.walk (l:=PySem.Challenge.rw_calm_k46_rest_papers) rfl rfl (fun w h Y=>PySem.W.kIn_of Y) ?F
  case F =>
    intro w mg fa h KX G hmg
    refine' D.all_mk KX G hmg ?a1 ?l1 ?c1 ?k1 ?a2 ?l2 ?c2 ?k2 ?a3 ?l3 ?c3 ?k3 ?a4 ?l4 ?c4 ?k4 ?a5 ?l5 ?c5 ?k5 ?a6 ?l6 ?c6 ?k6 ?a7 ?l7 ?c7 ?k7 ?a8 ?l8 ?c8 ?k8 ?a9 ?l9 ?c9 ?k9 ?a10 ?l10 ?c10 ?k10 ?a11 ?l11 ?c11 ?k11 ?a12 ?l12 ?c12 ?k12 ?a13 ?l13 ?c13 ?k13 ?a14 ?l14 ?c14 ?k14 ?a15 ?l15 ?c15 ?k15 ?a16 ?l16 ?c16 ?k16 ?a17 ?l17 ?c17 ?k17 ?a18 ?l18 ?c18 ?k18 ?a19 ?l19 ?c19 ?k19 ?a20 ?l20 ?c20 ?k20 ?a21 ?l21 ?c21 ?k21 ?a22 ?l22 ?c22 ?k22 ?a23 ?l23 ?c23 ?k23 ?a24 ?l24 ?c24 ?k24 ?a25 ?l25 ?c25 ?k25 ?a26 ?l26 ?c26 ?k26 ?a27 ?l27 ?c27 ?k27 ?a28 ?l28 ?c28 ?k28 ?a29 ?l29 ?c29 ?k29 ?a30 ?l30 ?c30 ?k30 ?a31 ?l31 ?c31 ?k31 ?a32 ?l32 ?c32 ?k32 ?a33 ?l33 ?c33 ?k33 ?a34 ?l34 ?c34 ?k34 ?a35 ?l35 ?c35 ?k35 ?z_abs ?z_all ?z_bool ?z_dict ?z_enumerate ?z_int ?z_isinstance ?z_len ?z_list ?z_range ?z_sorted ?z_str ?z_tuple ?z_zip ?zc_MOST_DEEP
    (case a1=>k_is)
    (case l1=>k_is)
    (case c1=>k_is)
    (case k1=>k_is)
    (case a2=>k_is)
    (case l2=>k_is)
    (case c2=>k_is)
    (case k2=>k_is)
    (case a3=>k_is)
    (case l3=>k_is)
    (case c3=>k_is)
    (case k3=>k_is)
    (case a4=>k_is)
    (case l4=>k_is)
    (case c4=>k_is)
    (case k4=>k_is)
    (case a5=>k_is)
    (case l5=>k_is)
    (case c5=>k_is)
    (case k5=>k_is)
    (case a6=>k_is)
    (case l6=>k_is)
    (case c6=>k_is)
    (case k6=>k_is)
    (case a7=>k_is)
    (case l7=>k_is)
    (case c7=>k_is)
    (case k7=>k_is)
    (case a8=>k_is)
    (case l8=>k_is)
    (case c8=>k_is)
    (case k8=>k_is)
    (case a9=>k_is)
    (case l9=>k_is)
    (case c9=>k_is)
    (case k9=>k_is)
    (case a10=>k_is)
    (case l10=>k_is)
    (case c10=>k_is)
    (case k10=>k_is)
    (case a11=>k_is)
    (case l11=>k_is)
    (case c11=>k_is)
    (case k11=>k_is)
    (case a12=>k_is)
    (case l12=>k_is)
    (case c12=>k_is)
    (case k12=>k_is)
    (case a13=>k_is)
    (case l13=>k_is)
    (case c13=>k_is)
    (case k13=>k_is)
    (case a14=>k_is)
    (case l14=>k_is)
    (case c14=>k_is)
    (case k14=>k_is)
    (case a15=>k_is)
    (case l15=>k_is)
    (case c15=>k_is)
    (case k15=>k_is)
    (case a16=>k_is)
    (case l16=>k_is)
    (case c16=>k_is)
    (case k16=>k_is)
    (case a17=>k_is)
    (case l17=>k_is)
    (case c17=>k_is)
    (case k17=>k_is)
    (case a18=>k_is)
    (case l18=>k_is)
    (case c18=>k_is)
    (case k18=>k_is)
    (case a19=>k_is)
    (case l19=>k_is)
    (case c19=>k_is)
    (case k19=>k_is)
    (case a20=>k_is)
    (case l20=>k_is)
    (case c20=>k_is)
    (case k20=>k_is)
    (case a21=>k_is)
    (case l21=>k_is)
    (case c21=>k_is)
    (case k21=>k_is)
    (case a22=>k_is)
    (case l22=>k_is)
    (case c22=>k_is)
    (case k22=>k_is)
    (case a23=>k_is)
    (case l23=>k_is)
    (case c23=>k_is)
    (case k23=>k_is)
    (case a24=>k_is)
    (case l24=>k_is)
    (case c24=>k_is)
    (case k24=>k_is)
    (case a25=>k_is)
    (case l25=>k_is)
    (case c25=>k_is)
    (case k25=>k_is)
    (case a26=>k_is)
    (case l26=>k_is)
    (case c26=>k_is)
    (case k26=>k_is)
    (case a27=>k_is)
    (case l27=>k_is)
    (case c27=>k_is)
    (case k27=>k_is)
    (case a28=>k_is)
    (case l28=>k_is)
    (case c28=>k_is)
    (case k28=>k_is)
    (case a29=>k_is)
    (case l29=>k_is)
    (case c29=>k_is)
    (case k29=>k_is)
    (case a30=>k_is)
    (case l30=>k_is)
    (case c30=>k_is)
    (case k30=>k_is)
    (case a31=>k_is)
    (case l31=>k_is)
    (case c31=>k_is)
    (case k31=>k_is)
    (case a32=>k_is)
    (case l32=>k_is)
    (case c32=>k_is)
    (case k32=>k_is)
    (case a33=>k_is)
    (case l33=>k_is)
    (case c33=>k_is)
    (case k33=>k_is)
    (case a34=>k_is)
    (case l34=>k_is)
    (case c34=>k_is)
    (case k34=>k_is)
    (case a35=>k_is)
    (case l35=>k_is)
    (case c35=>k_is)
    (case k35=>k_is)
    (case z_abs=>k_is)
    (case z_all=>k_is)
    (case z_bool=>k_is)
    (case z_dict=>k_is)
    (case z_enumerate=>k_is)
    (case z_int=>k_is)
    (case z_isinstance=>k_is)
    (case z_len=>k_is)
    (case z_list=>k_is)
    (case z_range=>k_is)
    (case z_sorted=>k_is)
    (case z_str=>k_is)
    (case z_tuple=>k_is)
    (case z_zip=>k_is)
    (case zc_MOST_DEEP=>k_is)
#print axioms PySem.Challenge.cw_calm_k46_rest_papers_holds
end
