import PyProof.Rows.All
import Wide.All
import OpenK.AllK
import Wide.FinOn
import Lean
import PyProof.EqAt
import PyProof.EqKinds
import PyProof.TupleCall
import PyProof.P3Statements
import PyProof.Lay0
import PyProof.P3Eq
import PyProof.NeData
import KE.KEqDict
import PyProof.ListRange
import KE.KDictSum
import PyProof.AttrMissHeap
import PyProof.WalksS
import KE.KDictOf
import KE.KRevSl
import PyProof.ZipIter
import PyProof.WalksMore
import PyProof.Rows.FactsT2
import KE.KRevIter
import PyProof.TupleOfGen
import PyProof.CollectIter
import PySem.Challenge.RW_calm_k49_what_is_no_paper
set_option Elab.async false
noncomputable section
set_option linter.all false
set_option maxRecDepth 100000
namespace L2
open PySem PySem.Spec PyProof.Rows
noncomputable abbrev Key:=Sum Int Str
noncomputable def O5:Key→Value→Bool
  | .inl k,v=>Value.isInt k v
  | .inr x,v=>Value.isStrOf x v
noncomputable def a8n (w:World):Key→Int
  | .inl k=>hashInt k
  | .inr x=>hashStr w x
theorem uf:∀ {k:Key} {v:Value},O5 k v=true→(∃ i t,k=Sum.inl i∧v=Value.int i t)∨(∃ x t,k=Sum.inr x∧v=Value.str x t)
  | .inl i,v,h=>by
    obtain ⟨t,e⟩:=Value.isInt_shape (k:=i) (v:=v) h
    exact .inl ⟨i,t,rfl,e⟩
  | .inr x,v,h=>by
    obtain ⟨t,e⟩:=Value.isStrOf_shape (x:=x) (v:=v) h
    exact .inr ⟨x,t,rfl,e⟩
theorem Ui (i:Int) (t:Tok):O5 (.inl i) (.int i t)=true:=by simp [O5,Value.isInt]
theorem W4 (x:Str) (t:Tok):O5 (.inr x) (.str x t)=true:=by simp [O5,Value.isStrOf]
theorem a5x (a b:Int):decide ((Sum.inl a:Key)=Sum.inl b)=(a==b):=by
  by_cases e:a=b
  · subst e; simp
  · have h:¬ (Sum.inl a:Key)=Sum.inl b:=fun q=>e (Sum.inl.inj q)
    rw [decide_eq_false h]
    exact (beq_eq_false_iff_ne.mpr e).symm
theorem a5z (a b:Str):decide ((Sum.inr a:Key)=Sum.inr b)=decide (a=b):=by
  by_cases e:a=b
  · subst e; simp
  · have h:¬ (Sum.inr a:Key)=Sum.inr b:=fun q=>e (Sum.inr.inj q)
    rw [decide_eq_false h,decide_eq_false e]
theorem a3r (a:Int) (b:Str):decide ((Sum.inl a:Key)=Sum.inr b)=false:=decide_eq_false (fun q=>nomatch q)
theorem a3w (a:Str) (b:Int):decide ((Sum.inr a:Key)=Sum.inl b)=false:=decide_eq_false (fun q=>nomatch q)
noncomputable def ud (prog:Program) (w:World):PySem.KeyKind prog w Key where
  is:=O5
  hash:=a8n w
  inj:=fun v a b ha hb=>by
    rcases uf ha with ⟨i,t,rfl,rfl⟩ | ⟨x,t,rfl,rfl⟩
    · rcases uf hb with ⟨j,u,rfl,e⟩ | ⟨y,u,rfl,e⟩
      · injection e with e1 _; rw [e1]
      · exact nomatch e
    · rcases uf hb with ⟨j,u,rfl,e⟩ | ⟨y,u,rfl,e⟩
      · exact nomatch e
      · injection e with e1 _; rw [e1]
  byValue:=fun k v h=>by
    rcases uf h with ⟨i,t,rfl,rfl⟩ | ⟨x,t,rfl,rfl⟩ <;> rfl
  pyHash:=fun hv h=>by
    rcases uf hv with ⟨i,t,rfl,rfl⟩ | ⟨x,t,rfl,rfl⟩
    · exact wpAny_pyHash_int h
    · exact wpAny_pyHash_str h
  eqBool:=fun hu hv h=>by
    rcases uf hu with ⟨i,t,rfl,rfl⟩ | ⟨x,t,rfl,rfl⟩
    · rcases uf hv with ⟨j,u,rfl,rfl⟩ | ⟨y,u,rfl,rfl⟩
      · rw [a5x] at h; exact wpAny_eqBool_int h
      · rw [a3r] at h; exact SeqAt.EqAt.int_str i t y u _ _ _ _ h
    · rcases uf hv with ⟨j,u,rfl,rfl⟩ | ⟨y,u,rfl,rfl⟩
      · rw [a3w] at h; exact SeqAt.EqAt.str_int x t j u _ _ _ _ h
      · rw [a5z] at h; exact wpAny_eqBool_str h
  «strs»:=fun k x t v h=>by
    rcases uf h with ⟨i,u,rfl,e⟩ | ⟨y,u,rfl,e⟩
    · exact nomatch e
    · injection e with e1 _
      subst e1
      cases v <;> rfl
theorem R7 (prog:Program) (w:World) (k:Key) (v:Value):(ud prog w).is k v=O5 k v:=rfl
theorem Mq (prog:Program) (w:World) (i:Int) (t:Tok):(ud prog w).is (.inl i) (.int i t)=true:=Ui i t
theorem Nf (prog:Program) (w:World) (x:Str) (t:Tok):(ud prog w).is (.inr x) (.str x t)=true:=W4 x t
end L2
namespace L2
open PySem PySem.Spec PyProof.Rows
inductive V where
  | non | bl (b:Bool) | int (i:Int) | str (x:Str) | byt (b:Array UInt8) | flt (b:UInt64) | ref (a:Addr) | ty (n:String)
  deriving DecidableEq
noncomputable def RelV:V→Value→Prop
  | .non,u=>u=Value.none
  | .bl b,u=>u=Value.bool b
  | .int i,u=>∃ t,u=Value.int i t
  | .str x,u=>∃ t,u=Value.str x t
  | .byt b,u=>∃ t,u=Value.bytes b t
  | .flt b,u=>∃ t,u=Value.float b t
  | .ref a,u=>u=Value.ref a
  | .ty n,u=>u=Value.type n
noncomputable abbrev Vals:List V→List Value→Prop:=Paired RelV
theorem Vals.length {xs:List V} {us:List Value} (r:Vals xs us):xs.length=us.length:=Paired.length r
theorem Vals.get:∀ {xs:List V} {us:List Value} {i:Nat} {x:V},Vals xs us→xs[i]? = some x→∃ u,us[i]? = some u∧RelV x u
  | _,_,_,_,.nil,e=>by simp at e
  | _,_,0,_,.cons r _,e=>by simp at e; subst e; exact ⟨_,rfl,r⟩
  | _,_,i+1,x,.cons _ t,e=>by
    obtain ⟨u,h1,h2⟩:=Vals.get (i:=i) (x:=x) t (by simpa using e)
    exact ⟨u,by simpa using h1,h2⟩
theorem Vals.set {x:V} {u:Value} (r:RelV x u):∀ {xs:List V} {us:List Value} (i:Nat),Vals xs us→Vals (xs.set i x) (us.set i u)
  | _,_,_,.nil=>.nil
  | _,_,0,.cons _ t=>.cons r t
  | _,_,i+1,.cons q t=>.cons q (Vals.set r i t)
theorem Vals.append:∀ {xs ys:List V} {us ws:List Value},Vals xs us→Vals ys ws→Vals (xs++ys) (us++ws)
  | _,_,_,_,.nil,s=>s
  | _,_,_,_,.cons r t,s=>.cons r (Vals.append t s)
theorem Vals.take:∀ {xs:List V} {us:List Value} (n:Nat),Vals xs us→Vals (xs.take n) (us.take n)
  | _,_,0,_=>.nil
  | _,_,_+1,.nil=>.nil
  | _,_,n+1,.cons r t=>.cons r (Vals.take n t)
theorem Vals.drop:∀ {xs:List V} {us:List Value} (n:Nat),Vals xs us→Vals (xs.drop n) (us.drop n)
  | _,_,0,r=>r
  | _,_,_+1,.nil=>.nil
  | _,_,n+1,.cons _ t=>Vals.drop n t
noncomputable def Mf:Option V→Option Value→Prop
  | some v,some u=>RelV v u
  | none,none=>True
  | _,_=>False
noncomputable def KV {κ:Type}:List (κ × V)→List (κ × Value)→Prop:=Paired fun (p:κ × V) (q:κ × Value)=>p.1=q.1∧RelV p.2 q.2
noncomputable def kV:Key→V
  | .inl i=>.int i
  | .inr x=>.str x
inductive HO where
  /-- a list -/
  | lst (xs:List V)
  /-- a tuple (never changes) -/
  | tup (xs:List V)
  /-- a dict whose keys are ints and texts; one whose keys are tuples of ints and texts (the empty one is both) -/
  | dK (kvs:List (Key × V)) | dT (kvs:List (List Key × V))
  /-- a set of ints: its members,its size -/
  | set (S:Int→Bool) (n:Nat)
  /-- an instance of the class at C,its dict at dx,its attributes -/
  | ins (C dx:Addr) (fs:List (Str × V))
  /-- the dict of the instance at x -/
  | own (x:Addr)
  /-- the dict of an exception -/
  | xd (fs:List (Str × V))
  /-- a bound method,f of x -/
  | met (f x:Addr)
  /-- a range object lo,lo+1,.. below hi -/
  | rng (lo hi:Int)
  /-- a thing that is known to the object (the script; a dict while a loop walks it): read,never written while it is so -/
  | frz (o:Obj) (u:HO)
  /-- a code object's table -/
  | tbl (ps:Array Value)
  /-- any other thing,by what is true of its one object (a def of one's own: SetO a S n:=HO.ext fun h=>..) -/
  | ext (φ:Heap→Prop)
noncomputable abbrev Hp:=Addr→Option HO
noncomputable def upd (H:Hp) (a:Addr) (o:HO):Hp:=fun b=>if b=a then some o else H b
theorem ji {H:Hp} {a:Addr} {o:HO}:upd H a o a=some o:=by unfold upd; rw [if_pos rfl]
theorem nq {H:Hp} {a b:Addr} {o:HO} (h:b≠a):upd H a o b=H b:=by unfold upd; rw [if_neg h]
theorem a6o {H:Hp} {a b:Addr} {o u:HO} (h:H a=some o) (h':H b=some u) (d:o≠u):a≠b:=by
  intro e; subst e; rw [h] at h'; exact d (Option.some.inj h')
theorem um {H:Hp} {a b:Addr} {o:HO} (h:H a=some o) (h':H b=none):a≠b:=by
  intro e; subst e; rw [h] at h'; cases h'
noncomputable def Xd (h:Heap) (a:Addr) (items:Array Value):Prop:=∃ o,h.get? a=some o∧o.cls=.type "tuple" ∧ o.dict=none∧∃ n,o.data=.seq items n
theorem Xd.is {h:Heap} {a:Addr} {items:Array Value} (x:Xd h a items):IsTup h a items:=let ⟨o,e,c,_,d⟩:=x; ⟨o,e,c,d⟩
theorem Xd.new (h:Heap) (items:Array Value):Xd (h.push { cls:=.type "tuple",data:=.seq items }) h.objs.size items:=⟨_,Heap.get?_push_size _ rfl,rfl,rfl,0,rfl⟩
noncomputable section
variable (P:Program) (w:World)
noncomputable def yq (H:Hp) (h:Heap) (a:Addr):HO→Prop
  | .lst xs=>xs.length≤sizeLine∧∃ (its:List Value) (n:Nat),Vals xs its∧h.get? a=some { cls:=.type "list",data:=.seq its.toArray n }
  | .tup xs=>xs.length≤sizeLine∧∃ its:List Value,Vals xs its∧Xd h a its.toArray
  | .dK kvs=>kvs.length≤sizeLine∧(a==sysModules)=false∧∃ vs,KV kvs vs∧h.DictOf (ud P w) a vs
  | .dT kvs=>kvs.length≤sizeLine∧(a==sysModules)=false∧∃ xs:List (List Key × Addr × Value),
      Paired (fun (p:List Key × V) (q:List Key × Addr × Value)=>p.1=q.1∧H q.2.1=some (.tup (p.1.map kV))∧RelV p.2 q.2.2) kvs xs ∧
      ∃ o es ep,h.get? a=some o∧o.ExactDict∧o.data=.dict es ep∧es.toList=xs.map (entryOfKey (tupleKind (ud P w)))∧(xs.map (·.1)).Nodup
  | .set S n=>h.SetOf (intKind P w) a S n
  | .ins C dx fs=>H dx=some (.own a)∧fs.length≤1000∧dx≠a∧h.get? a=some (PySem.W.instObj C dx) ∧
      ∃ mA,h.Ns1 dx mA∧(∀ f,Mf (fs.lookup f) (mA f))∧PySem.Within mA (fs.map (·.1))
  | .own _=>∃ o,h.get? a=some o
  | .xd fs=>∃ mA,h.Ns1 a mA∧∀ f,Mf (fs.lookup f) (mA f)
  | .rng lo hi=>∃ t u v,h.get? a=some { cls:=.type "range",data:=.fields #[.int lo t,.int hi u,.int 1 v] }
  | .frz o u=>h.get? a=some o∧yq H h a u
  | .tbl ps=>h.get? a=some { cls:=.none,data:=.fields ps }
  | .met f x=>h.get? a=some (PySem.W.methodObj (.ref f) (.ref x))
  | .ext φ=>φ h∧(∃ o,h.get? a=some o)∧∀ h1 h2:Heap,φ h1→(∀ o,h1.get? a=some o→h2.get? a=some o)→φ h2
noncomputable def HOk (H:Hp) (h:Heap):Prop:=∀ a o,H a=some o→yq P w H h a o
end
noncomputable section
variable {P:Program} {w:World} {H H':Hp} {h h':Heap} {a:Addr} {o:HO}
theorem yq.lt (x:yq P w H h a o):a<h.objs.size:=by
  cases o with
  | lst xs=>obtain ⟨_,_,_,_,e⟩:=x; exact Heap.lt_size e
  | tup xs=>obtain ⟨_,_,_,p⟩:=x; exact p.is.lt
  | dK kvs=>obtain ⟨_,_,_,_,o,_,_,e,_⟩:=x; exact Heap.lt_size e
  | dT kvs=>obtain ⟨_,_,_,_,o,_,_,e,_⟩:=x; exact Heap.lt_size e
  | set S n=>obtain ⟨o,_,_,_,e,_⟩:=x; exact Heap.lt_size e
  | ins C dx fs=>obtain ⟨_,_,_,e,_⟩:=x; exact Heap.lt_size e
  | own y=>obtain ⟨_,e⟩:=x; exact Heap.lt_size e
  | xd fs=>obtain ⟨_,⟨_,_,_,e,_⟩,_⟩:=x; exact Heap.lt_size e
  | rng lo hi=>obtain ⟨_,_,_,e⟩:=x; exact Heap.lt_size e
  | frz ob u=>obtain ⟨e,_⟩:=x; exact Heap.lt_size e
  | tbl ps=>exact Heap.lt_size (show h.get? a=some _ from x)
  | met f y=>exact Heap.lt_size (show h.get? a=some _ from x)
  | ext φ=>obtain ⟨_,⟨_,e⟩,_⟩:=x; exact Heap.lt_size e
theorem Paired.a6v {α β:Type} {F G:α→β→Prop}:∀ {l₁:List α} {l₂:List β},Paired F l₁ l₂→(∀ a b,F a b→G a b)→Paired G l₁ l₂
  | _,_,.nil,_=>.nil
  | _,_,.cons r t,f=>.cons (f _ _ r) (Paired.a6v t f)
theorem yq.stay (x:yq P w H h a o) (k:∀ b u,(b=a∨H b=some (.own a))→h.get? b=some u→h'.get? b=some u)
    (ho:∀ b,H b=some (.own a)→H' b=some (.own a)) (ht:∀ b xs,H b=some (.tup xs)→H' b=some (.tup xs)):yq P w H' h' a o:=by
  induction o with
  | lst xs=>obtain ⟨z,its,n,r,e⟩:=x; exact ⟨z,its,n,r,k _ _ (.inl rfl) e⟩
  | tup xs=>obtain ⟨z,its,r,ob,e,c⟩:=x; exact ⟨z,its,r,ob,k _ _ (.inl rfl) e,c⟩
  | dK kvs=>obtain ⟨z,y,vs,r,ob,es,ep,e,c⟩:=x; exact ⟨z,y,vs,r,ob,es,ep,k _ _ (.inl rfl) e,c⟩
  | dT kvs =>
    obtain ⟨z,y,xs,r,ob,es,ep,e,c⟩:=x
    exact ⟨z,y,xs,Paired.a6v r fun p q z=>⟨z.1,ht _ _ z.2.1,z.2.2⟩,ob,es,ep,k _ _ (.inl rfl) e,c⟩
  | set S n=>obtain ⟨ob,es,ep,t,e,c⟩:=x; exact ⟨ob,es,ep,t,k _ _ (.inl rfl) e,c⟩
  | ins C dx fs =>
    obtain ⟨d,z,ne,e,mA,⟨od,es,ep,e2,c⟩,r⟩:=x
    exact ⟨ho _ d,z,ne,k _ _ (.inl rfl) e,mA,⟨od,es,ep,k _ _ (.inr d) e2,c⟩,r⟩
  | own y=>obtain ⟨ob,e⟩:=x; exact ⟨ob,k _ _ (.inl rfl) e⟩
  | xd fs=>obtain ⟨mA,⟨od,es,ep,e,c⟩,r⟩:=x; exact ⟨mA,⟨od,es,ep,k _ _ (.inl rfl) e,c⟩,r⟩
  | rng lo hi=>obtain ⟨t,u,v,e⟩:=x; exact ⟨t,u,v,k _ _ (.inl rfl) e⟩
  | frz ob u ih=>obtain ⟨e,q⟩:=x; exact ⟨k _ _ (.inl rfl) e,ih q⟩
  | tbl ps =>
    have e:h.get? a=some { cls:=.none,data:=.fields ps }:=x
    show h'.get? a=some { cls:=.none,data:=.fields ps }
    exact k a _ (.inl rfl) e
  | met f y =>
    have e:h.get? a=some (PySem.W.methodObj (.ref f) (.ref y)):=x
    show h'.get? a=some (PySem.W.methodObj (.ref f) (.ref y))
    exact k a _ (.inl rfl) e
  | ext φ=>obtain ⟨p,⟨o,e⟩,st⟩:=x; exact ⟨st _ _ p fun o q=>k _ _ (.inl rfl) q,⟨o,k _ _ (.inl rfl) e⟩,st⟩
theorem HOk.lt (x:HOk P w H h) (e:H a=some o):a<h.objs.size:=(x a o e).lt
theorem HOk.fresh (x:HOk P w H h) (e:h.objs.size≤a):H a=none:=by
  cases q:H a with
  | none=>rfl
  | some u=>exact absurd (Nat.lt_of_lt_of_le (x.lt q) e) (Nat.lt_irrefl _)
theorem HOk.kept (x:HOk P w H h) (k:∀ b u,h.get? b=some u→h'.get? b=some u):HOk P w H h':=fun a o e =>
  (x a o e).stay (fun b u _ q=>k b u q) (fun _ q=>q) fun _ _ q=>q
theorem HOk.laid (x:HOk P w H h) (k:∀ b u,h.get? b=some u→h'.get? b=some u) (hp:h.objs.size≤a) (new:yq P w (upd H a o) h' a o):HOk P w (upd H a o) h':=fun b u e=>by
  have hn:=x.fresh hp
  by_cases hb:b=a
  · subst hb; rw [ji] at e; cases e; exact new
  · rw [nq hb] at e
    exact (x b u e).stay (fun c v _ q=>k c v q) (fun c q=>by rw [nq (um q hn)]; exact q) fun c xs q=>by rw [nq (um q hn)]; exact q
end
noncomputable def Rd (H:Hp) (a:Addr) (u:HO):Prop:=H a=some u∨∃ o,H a=some (.frz o u)
theorem Rd.of {H:Hp} {a:Addr} {u:HO} (h:H a=some u):Rd H a u:=.inl h
theorem Rd.ok {P:Program} {w:World} {H:Hp} {h:Heap} {a:Addr} {u:HO} (r:Rd H a u) (x:HOk P w H h):yq P w H h a u:=by
  rcases r with r | ⟨o,r⟩
  · exact x a u r
  · obtain ⟨_,q⟩:=x a _ r
    exact q
noncomputable def Mut:Option HO→Prop
  | some (.lst _)=>True
  | some (.dK _)=>True
  | some (.dT _)=>True
  | some (.set _ _)=>True
  | some (.ins _ _ _)=>True
  | some (.ext _)=>True
  | _=>False
noncomputable section
variable {P:Program} {w:World} {H:Hp} {h h':Heap} {x e:Addr} {o':HO}
theorem HOk.write (ok:HOk P w H h) (mu:Mut (H x)) (he:e=x∨H e=some (.own x)) (k:∀ b u,b≠e→h.get? b=some u→h'.get? b=some u) (heo:∃ u,h'.get? e=some u)
    (new:yq P w (upd H x o') h' x o'):HOk P w (upd H x o') h':=fun b u q=>by
  have nown:∀ c y,H c=some (.own y)→c≠x:=fun c y r z=>by subst z; rw [r] at mu; exact mu
  have ntup:∀ c xs,H c=some (.tup xs)→c≠x:=fun c xs r z=>by subst z; rw [r] at mu; exact mu
  by_cases hb:b=x
  · subst hb; rw [ji] at q; cases q; exact new
  · rw [nq hb] at q
    by_cases hbe:b=e
    · have q':H b=some (.own x):=by
        rcases he with z | z
        · exact absurd (hbe.trans z) hb
        · rw [hbe]; exact z
      rw [q] at q'; cases q'
      obtain ⟨v,hv⟩:=heo
      exact ⟨v,by rw [hbe]; exact hv⟩
    · refine (ok b u q).stay (fun c v hc r=>k c v ?_ r) (fun c r=>by rw [nq (nown c b r)]; exact r) fun c xs r=>by rw [nq (ntup c xs r)]; exact r
      rcases hc with rfl | hc
      · exact hbe
      · rintro rfl
        rcases he with z | z
        · exact nown c b hc z
        · rw [hc] at z; cases z; exact hb rfl
end
structure Un (fs ex:List Addr) (H H':Hp) (h h':Heap):Prop where
  keep:∀ b o,h.get? b=some o→H b=none→b∉fs→b∉ex→h'.get? b=some o
  slot:∀ b o,h.get? b=some o→H b=none→b∈fs→b∉ex→∃ sl,h'.get? b=some { o with slots:=sl }
  free:∀ b o,h.get? b=some o→H b=none→b∉ex→H' b=none
  there:∀ b o,h.get? b=some o→b∉ex→∃ o',h'.get? b=some o'
  tups:∀ b xs,H b=some (.tup xs)→H' b=some (.tup xs)
  frzs:∀ b o u,H b=some (.frz o u)→H' b=some (.frz o u)
  tbls:∀ b ps,H b=some (.tbl ps)→∃ more,H' b=some (.tbl (ps++more))
noncomputable section
variable {fs fs' ex ex':List Addr} {H H1 H2:Hp} {h h1 h2 h':Heap} {a x e:Addr} {o:HO}
theorem Un.any (u:Un fs ex H H1 h h1) {b:Addr} {ob:Obj} (q:h.get? b=some ob) (n:H b=none) (hx:b∉ex):∃ sl,h1.get? b=some { ob with slots:=sl }:=by
  by_cases hb:b∈fs
  · exact u.slot b ob q n hb hx
  · exact ⟨ob.slots,u.keep b ob q n hb hx⟩
theorem Un.trans (a:Un fs ex H H1 h h1) (b:Un fs ex H1 H2 h1 h2):Un fs ex H H2 h h2 where
  keep:=fun c ob q n hc hx=>b.keep c ob (a.keep c ob q n hc hx) (a.free c ob q n hx) hc hx
  slot:=fun c ob q n hc hx=>by
    obtain ⟨sl,e1⟩:=a.slot c ob q n hc hx
    obtain ⟨sl',e2⟩:=b.slot c _ e1 (a.free c ob q n hx) hc hx
    exact ⟨sl',e2⟩
  free:=fun c ob q n hx=>by
    obtain ⟨o',e1⟩:=a.there c ob q hx
    exact b.free c o' e1 (a.free c ob q n hx) hx
  there:=fun c ob q hx=>by
    obtain ⟨o',e1⟩:=a.there c ob q hx
    exact b.there c o' e1 hx
  tups:=fun c xs q=>b.tups c xs (a.tups c xs q)
  frzs:=fun c ob xs q=>b.frzs c ob xs (a.frzs c ob xs q)
  tbls:=fun c ps q=>by
    obtain ⟨m1,e1⟩:=a.tbls c ps q
    obtain ⟨m2,e2⟩:=b.tbls c _ e1
    exact ⟨m1++m2,by rw [e2,Array.append_assoc]⟩
theorem Un.kept (k:∀ b u,h.get? b=some u→h'.get? b=some u):Un fs ex H H h h' :=
  ⟨fun b ob q _ _ _=>k b ob q,fun b ob q _ _ _=>⟨ob.slots,k b ob q⟩,fun _ _ _ n _=>n,fun b ob q _=>⟨ob,k b ob q⟩,fun _ _ q=>q,fun _ _ _ q=>q,fun _ ps q=>⟨#[],by rw [q]; simp⟩⟩
theorem Un.refl:Un fs ex H H h h:=Un.kept fun _ _ q=>q
theorem Un.laid (k:∀ b u,h.get? b=some u→h'.get? b=some u) (hp:h.objs.size≤a) (hn:H a=none):Un fs ex H (upd H a o) h h' where
  keep:=fun b u q _ _ _=>k b u q
  slot:=fun b u q _ _ _=>⟨u.slots,k b u q⟩
  free:=fun b u q n _=>by rw [nq (Nat.ne_of_lt (Nat.lt_of_lt_of_le (Heap.lt_size q) hp))]; exact n
  there:=fun b u q _=>⟨u,k b u q⟩
  tups:=fun b xs q=>by rw [nq (um q hn)]; exact q
  frzs:=fun b u xs q=>by rw [nq (um q hn)]; exact q
  tbls:=fun b ps q=>⟨#[],by rw [nq (um q hn),q]; simp⟩
theorem Un.write (mu:Mut (H x)) (he:e=x∨H e=some (.own x)) (k:∀ b u,b≠e→h.get? b=some u→h'.get? b=some u) (heo:∃ u,h'.get? e=some u):Un fs ex H (upd H x o) h h':=by
  have hx:∀ b,H b=none→b≠x:=fun b n z=>by subst z; rw [n] at mu; exact mu
  have hb:∀ b,H b=none→b≠e:=fun b n z=>by
    subst z
    rcases he with r | r
    · exact hx b n r
    · rw [n] at r; cases r
  have hm:∀ b u,H b=some u→¬ Mut (some u)→b≠x:=fun b u q nm z=>by subst z; rw [q] at mu; exact nm mu
  refine ⟨fun b u q n _ _=>k b u (hb b n) q,fun b u q n _ _=>⟨u.slots,k b u (hb b n) q⟩,fun b u q n _=>by rw [nq (hx b n)]; exact n,fun b u q _=>?_,
    fun b xs q=>by rw [nq (hm b _ q fun z=>z)]; exact q,fun b u xs q=>by rw [nq (hm b _ q fun z=>z)]; exact q,fun b ps q=>⟨#[],by rw [nq (hm b _ q fun z=>z),q]; simp⟩⟩
  by_cases hbe:b=e
  · subst hbe; exact heo
  · exact ⟨u,k b u hbe q⟩
theorem Un.mono (u:Un fs ex H H1 h h1) (hs:∀ b∈fs,b∈fs') (hx:∀ b∈ex,b∈ex'):Un fs' ex' H H1 h h1 :=
  ⟨fun b ob q n hb he=>u.keep b ob q n (fun z=>hb (hs b z)) fun z=>he (hx b z),fun _ _ q n _ he=>u.any q n fun z=>he (hx _ z),fun b ob q n he=>u.free b ob q n fun z=>he (hx b z),fun b ob q he=>u.there b ob q fun z=>he (hx b z),u.tups,u.frzs,u.tbls⟩
end
noncomputable def trk (h:Heap) (H:Hp):List Addr:=(List.range h.objs.size).filter fun a=>(H a).isSome
noncomputable def Y9 (h:Heap) (H:Hp):Heap:=PySem.W.hideAll h (trk h H)
theorem Tz (h:Heap) (H:Hp):(Y9 h H).objs.size=h.objs.size:=PySem.W.hideAll_size _ _
theorem Y8 {h:Heap} {H:Hp} {b:Addr} {o:Obj} (e:h.get? b=some o) (n:H b=none):(Y9 h H).get? b=some o :=
  PySem.W.hideAll_get _ e fun hm=>by
    have q:(H b).isSome=true:=(List.mem_filter.mp hm).2
    rw [n] at q; simp at q
theorem a2p {h:Heap} {H:Hp} {b:Addr} {o:Obj} (e:(Y9 h H).get? b=some o):h.get? b=some o∧H b=none:=by
  have e':h.get? b=some o:=PySem.W.of_hideAll (trk h H) e
  refine ⟨e',?_⟩
  cases q:H b with
  | none=>rfl
  | some x =>
    have hm:b∈trk h H:=List.mem_filter.mpr ⟨List.mem_range.mpr (Heap.lt_size e'),by simp [q]⟩
    have z:(Y9 h H).get? b=none:=PySem.W.hideAll_none (trk h H) hm
    rw [z] at e; cases e
noncomputable def a1y (g h:Heap) (L:Addr):List (Addr × Obj):=(List.range h.objs.size).filterMap fun a=>if a=L∨(g.get? a).isSome=true then none else (h.get? a).map fun o=>(a,o)
noncomputable def rest (g h:Heap) (L d:Addr):List (Addr × Obj):=(a1y g h L).filter fun p=>decide (p.1≠d)
end L2
namespace L2
open PySem PySem.Spec PyProof.Rows
structure Mod (K:PySem.W.Frag) (mg:Str→Option Value) (base:Heap):Prop where
  kin:K.In base
  glob:base.Ns mainGlobals mg
  blt:∃ mb,base.Ns builtinsNs mb∧∀ x:Str,x ≠ "__name__" → mb x=bootBuiltins x
  nolimit:base.NoLimit
structure Cx where
  prog:Program
  w:World
  K:PySem.W.Frag
  mg:Str→Option Value
  base:Heap
  A:Around
  N:List Str
  s₀:Shared
  H₀:Hp
  env:Env
  outer:List Env
  stack:List Env
  ex:List Addr
  fn:Str→Bool
  calm:Bool
  pn:List (Addr × Obj)
  xe:Value→Shared→Prop
noncomputable def frs (l:List Env):List Addr:=l.filterMap (·.frame)
noncomputable abbrev Cx.fs (X:Cx):List Addr:=frs X.outer
noncomputable def Vis (sc:Scope) (x:Str):Prop:=sc.names.lookup x=some .local∨sc.names.lookup x=some .cell∨sc.names.lookup x=some .free
noncomputable def Loc (sc:Scope) (x:Str):Prop:=sc.names.lookup x=some .local∨sc.names.lookup x=some .cell
noncomputable def Look (env:Env) (h:Heap) (m:Str→Option Value) (x:Str) (u:Value):Prop :=
  (env.kindOf x=some .local∧m x=some u)∨((env.kindOf x=some .cell∨env.kindOf x=some .free)∧∃ c,env.cells.lookup x=some c∧h.IsCell c (some u))
structure Cx.Ok (X:Cx):Prop where
  mod:Mod X.K X.mg X.base
  kind:X.env.scope.kind=.function
  glob:X.env.globals=mainGlobals
  blt:X.env.builtins=builtinsNs
  above:X.s₀.heap.objs.size≤X.env.locals
  inj:∀ x y c,X.env.cells.lookup x=some c→X.env.cells.lookup y=some c→x=y
  has:∀ x,(X.env.kindOf x=some .cell∨X.env.kindOf x=some .free)→∃ c,X.env.cells.lookup x=some c
  cab:∀ x c,X.fn x=true→X.env.cells.lookup x=some c→X.s₀.heap.objs.size≤c
  hd:X.calm=true→X.A.handled=none
  frames:X.A.frames=some X.stack
  stk:X.stack=X.outer∨(X.stack=X.env::X.outer∧X.env.frame=some X.env.locals)
  exf:∀ b∈X.ex,b≠X.env.locals∧∀ x c,X.env.cells.lookup x=some c→c≠b
  bs:∀ b o,X.base.get? b=some o→X.s₀.heap.get? b=some o∧X.H₀ b=none
  bsz:X.base.objs.size≤X.s₀.heap.objs.size
  noex:∀ b o,X.base.get? b=some o→b∉X.ex
  exfs:∀ b∈X.ex,b∉X.fs
  Tt:X.s₀.heap.FunFrames X.base X.outer
  frf:∀ b∈X.fs,X.H₀ b=none
structure Inv (X:Cx) (pins:List (Addr × Obj)) (σ:List (Option V)) (H:Hp) (s:Shared):Prop where
  ok:X.Ok
  os:s.os=X.s₀.os
  bare:AllBare s.gens
  base:Un X.fs X.ex X.H₀ H X.s₀.heap s.heap
  loc:∃ m,s.heap.Ns X.env.locals m∧∀ (i:Nat) (x:Str) (v:V),X.N[i]? = some x→σ[i]? = some (some v)→Vis X.env.scope x→∃ u,RelV v u∧Look X.env s.heap m x u
  cell:∀ x c,X.env.cells.lookup x=some c→∃ v,s.heap.IsCell c v
  free:H X.env.locals=none
  freeC:∀ x c,X.env.cells.lookup x=some c→H c=none
  pin:∀ p∈X.pn++pins,s.heap.get? p.1=some p.2∧H p.1=none∧p.1≠X.env.locals∧p.1∉X.fs∧∀ v,p.2.data≠.cell v
  hok:HOk X.prog X.w H s.heap
  len:σ.length=X.N.length
noncomputable section
variable {X:Cx} {pins:List (Addr × Obj)} {σ:List (Option V)} {H H':Hp} {s:Shared} {h':Heap}
theorem Cx.Ok.a8g (ok:X.Ok) {b:Addr} {o:Obj} (e:X.base.get? b=some o):b∉X.fs:=fun hb=>by
  have:=(ok.Tt.mem hb).1
  rw [e] at this; cases this
theorem Inv.bs (I:Inv X pins σ H s):∀ b o,X.base.get? b=some o→s.heap.get? b=some o∧H b=none:=fun b o e =>
  ⟨I.base.keep b o (I.ok.bs b o e).1 (I.ok.bs b o e).2 (I.ok.a8g e) (I.ok.noex b o e),I.base.free b o (I.ok.bs b o e).1 (I.ok.bs b o e).2 (I.ok.noex b o e)⟩
theorem Inv.bk (I:Inv X pins σ H s):∀ b o,X.base.get? b=some o→s.heap.get? b=some o:=fun b o e=>(I.bs b o e).1
theorem Inv.mod (I:Inv X pins σ H s):Mod X.K X.mg X.base:=I.ok.mod
theorem Inv.kIn (I:Inv X pins σ H s):X.K.In s.heap:=I.ok.mod.kin.keeps I.bk
theorem Inv.fr (I:Inv X pins σ H s):∃ m,Fr X.base X.env.locals s.heap m :=
  let ⟨m,hn,_⟩:=I.loc
  ⟨m,hn,I.bk,Nat.le_trans I.ok.bsz I.ok.above⟩
theorem Inv.lt (I:Inv X pins σ H s):X.env.locals<s.heap.objs.size:=let ⟨_,hn,_⟩:=I.loc; hn.lt
theorem Inv.sz (I:Inv X pins σ H s):X.s₀.heap.objs.size≤s.heap.objs.size:=Nat.le_trans I.ok.above (Nat.le_of_lt I.lt)
theorem Inv.a8m (I:Inv X pins σ H s) {a:Addr} (h:s.heap.objs.size≤a):a∉X.fs:=fun hb=>by
  obtain ⟨_,o,ho,_⟩:=I.ok.Tt.mem hb
  exact absurd (Nat.lt_of_lt_of_le (Heap.lt_size ho) (Nat.le_trans I.sz h)) (Nat.lt_irrefl _)
theorem Inv.cne (I:Inv X pins σ H s):∀ x c,X.env.cells.lookup x=some c→c≠X.env.locals:=fun x c e z=>by
  obtain ⟨v,o,ho,hd⟩:=I.cell x c e
  obtain ⟨m,⟨o',es,ep,ho',hd',_⟩,_⟩:=I.loc
  rw [z,ho'] at ho; cases ho; rw [hd'] at hd; cases hd
theorem Inv.Tt (I:Inv X pins σ H s):s.heap.FunFrames X.base X.outer:=by
  have all:∀ (l:List Env),(∀ b∈frs l,b∈X.fs)→X.s₀.heap.FunFrames X.base l→s.heap.FunFrames X.base l:=by
    intro l
    induction l with
    | nil=>intro _ _; trivial
    | cons env r ih =>
      intro hs hl
      obtain ⟨hk,⟨L,o,hf,hn,ho,hd⟩,hr⟩:=hl
      have hL:L∈X.fs:=hs L (by unfold frs; rw [List.filterMap_cons,hf]; exact List.mem_cons_self)
      obtain ⟨sl,e⟩:=I.base.slot L o ho (I.ok.frf L hL) hL fun z=>I.ok.exfs L z hL
      exact ⟨hk,⟨L,_,hf,hn,e,hd⟩,ih (fun b hb=>hs b (by unfold frs; rw [List.filterMap_cons,hf]; exact List.mem_cons_of_mem _ hb)) hr⟩
  exact all X.outer (fun _ hb=>hb) I.ok.Tt
theorem Inv.stack (I:Inv X pins σ H s):s.heap.FunFrames X.base X.stack:=by
  rcases I.ok.stk with e | ⟨e,hf⟩
  · rw [e]; exact I.Tt
  · rw [e]
    obtain ⟨m,hn,_⟩:=I.loc
    refine .cons (by rw [I.ok.kind]; decide) hf hn ?_ I.Tt
    exact Heap.get?_none_of_le (Nat.le_trans I.ok.bsz I.ok.above)
theorem Inv.Qt (I:Inv X pins σ H s):∀ b∈frs X.stack,b∈X.env.locals::X.fs:=fun b hb=>by
  rcases I.ok.stk with e | ⟨e,hf⟩
  · rw [e] at hb; exact List.mem_cons_of_mem _ hb
  · rw [e] at hb
    unfold frs at hb
    rw [List.filterMap_cons,hf] at hb
    exact hb
theorem Inv.U3 (I:Inv X pins σ H s):∀ b∈frs X.stack,H b=none:=fun b hb=>by
  rcases List.mem_cons.mp (I.Qt b hb) with e | hb
  · rw [e]; exact I.free
  · obtain ⟨_,o,ho,_⟩:=I.ok.Tt.mem hb
    exact I.base.free b o ho (I.ok.frf b hb) fun z=>I.ok.exfs b z hb
theorem Inv.step {g':Array GenState} {t':Nat} {d':Drawn} {ch:List Addr} (I:Inv X pins σ H s)
    (hch:∀ b∈ch,(b∈X.ex∨X.s₀.heap.objs.size≤b)∧b≠X.env.locals∧(∀ x c,X.env.cells.lookup x=some c→c≠b)∧∀ p∈X.pn++pins,p.1≠b)
    (keep:∀ b o,b≠X.env.locals→b∉X.fs→b∉ch→s.heap.get? b=some o→H b=none→h'.get? b=some o)
    (slot:∀ b o,b≠X.env.locals→b∈X.fs→b∉ch→s.heap.get? b=some o→H b=none→∃ sl,h'.get? b=some { o with slots:=sl }) (free:∀ b o,b∉ch→s.heap.get? b=some o→H b=none→H' b=none)
    (there:∀ b o,b∉ch→s.heap.get? b=some o→∃ o',h'.get? b=some o')
    (tups:∀ b xs,H b=some (.tup xs)→H' b=some (.tup xs)) (frzs:∀ b o u,H b=some (.frz o u)→H' b=some (.frz o u)) (tbls:∀ b ps,H b=some (.tbl ps)→∃ more,H' b=some (.tbl (ps++more)))
    (ns:∀ m,s.heap.Ns X.env.locals m→h'.Ns X.env.locals m) (hok:HOk X.prog X.w H' h') (hg:AllBare g') :
    Inv X pins σ H' { s with heap:=h',gens:=g',drawn:=d',toks:=t' }:=by
  have neL:∀ b o,X.s₀.heap.get? b=some o→b≠X.env.locals:=fun b o e=>Nat.ne_of_lt (Nat.lt_of_lt_of_le (Heap.lt_size e) I.ok.above)
  have neC:∀ b o,X.s₀.heap.get? b=some o→b∉X.ex→b∉ch:=fun b o e hx hb=>by
    rcases (hch b hb).1 with z | z
    · exact hx z
    · exact absurd (Nat.lt_of_lt_of_le (Heap.lt_size e) z) (Nat.lt_irrefl _)
  have cellK:∀ x c,X.env.cells.lookup x=some c→∀ v,s.heap.IsCell c v→h'.IsCell c v:=fun x c e v z9=>by
    obtain ⟨o,ho,hd⟩:=z9
    have nch:c∉ch:=fun z=>(hch c z).2.2.1 x c e rfl
    by_cases hc:c∈X.fs
    · obtain ⟨sl,q⟩:=slot c o (I.cne x c e) hc nch ho (I.freeC x c e)
      exact ⟨_,q,hd⟩
    · exact ⟨o,keep c o (I.cne x c e) hc nch ho (I.freeC x c e),hd⟩
  refine ⟨I.ok,I.os,hg,⟨fun b o e n hb hx=>?_,fun b o e n hb hx=>?_,fun b o e n hx=>?_,fun b o e hx=>?_,fun b xs e=>tups b xs (I.base.tups b xs e),fun b o xs e=>frzs b o xs (I.base.frzs b o xs e),fun b ps e=>?_⟩,?_,fun x c e=>?_,?_,fun x c e=>?_,fun p hp=>?_,hok,I.len⟩
  · exact keep b o (neL b o e) hb (neC b o e hx) (I.base.keep b o e n hb hx) (I.base.free b o e n hx)
  · obtain ⟨sl,e1⟩:=I.base.slot b o e n hb hx
    obtain ⟨sl',e2⟩:=slot b _ (neL b o e) hb (neC b o e hx) e1 (I.base.free b o e n hx)
    exact ⟨sl',e2⟩
  · obtain ⟨o',e1⟩:=I.base.there b o e hx
    exact free b o' (neC b o e hx) e1 (I.base.free b o e n hx)
  · obtain ⟨o',e1⟩:=I.base.there b o e hx
    exact there b o' (neC b o e hx) e1
  · obtain ⟨m1,e1⟩:=I.base.tbls b ps e
    obtain ⟨m2,e2⟩:=tbls b _ e1
    exact ⟨m1++m2,by rw [e2,Array.append_assoc]⟩
  · obtain ⟨m,hn,hl⟩:=I.loc
    refine ⟨m,ns m hn,fun i x v e1 e2 e3=>?_⟩
    obtain ⟨u,r,l⟩:=hl i x v e1 e2 e3
    refine ⟨u,r,?_⟩
    rcases l with l | ⟨k,c,e,z⟩
    · exact .inl l
    · exact .inr ⟨k,c,e,cellK x c e _ z⟩
  · obtain ⟨v,z⟩:=I.cell x c e
    exact ⟨v,cellK x c e v z⟩
  · obtain ⟨m,⟨o,_,_,ho,_⟩,_⟩:=I.loc
    exact free _ o (fun z=>(hch _ z).2.1 rfl) ho I.free
  · obtain ⟨v,o,ho,hd⟩:=I.cell x c e
    exact free c o (fun z=>(hch c z).2.2.1 x c e rfl) ho (I.freeC x c e)
  · obtain ⟨e,n,ne,nf,d⟩:=I.pin p hp
    have nch:p.1∉ch:=fun z=>(hch p.1 z).2.2.2 p hp rfl
    exact ⟨keep p.1 p.2 ne nf nch e n,free p.1 p.2 nch e n,ne,nf,d⟩
theorem Inv.un {t':Nat} (I:Inv X pins σ H s) (u:Un X.fs [] H H' s.heap h') (hok:HOk X.prog X.w H' h'):Inv X pins σ H' { s with heap:=h',toks:=t' }:=by
  obtain ⟨m,⟨o,es,ep,ho,r⟩,_⟩:=id I.loc
  obtain ⟨sl,hL⟩:=u.any ho I.free (by simp)
  exact I.step (g':=s.gens) (d':=s.drawn) (ch:=[]) (fun _ z=>nomatch z) (fun b o _ hb _ e n=>u.keep b o e n hb (by simp)) (fun b o _ hb _ e n=>u.slot b o e n hb (by simp)) (fun b o _ e n=>u.free b o e n (by simp)) (fun b o _ e=>u.there b o e (by simp)) u.tups u.frzs u.tbls (fun m' hm=>by
    obtain ⟨o',es',ep',ho',r'⟩:=hm
    rw [ho] at ho'; cases ho'
    exact ⟨_,es',ep',hL,r'⟩) hok I.bare
theorem Inv.call {g':Array GenState} {t':Nat} {d':Drawn} {ch:List Addr} (I:Inv X pins σ H s) (u:Un (frs X.stack) ch H H' s.heap h') (hok:HOk X.prog X.w H' h') (hg:AllBare g')
    (hch:∀ b∈ch,(b∈X.ex∨X.s₀.heap.objs.size≤b)∧b≠X.env.locals∧(∀ x c,X.env.cells.lookup x=some c→c≠b)∧∀ p∈X.pn++pins,p.1≠b) :
    Inv X pins σ H' { s with heap:=h',gens:=g',drawn:=d',toks:=t' }:=by
  obtain ⟨m,⟨o,es,ep,ho,r⟩,_⟩:=id I.loc
  obtain ⟨sl,hL⟩:=u.any ho I.free fun z=>(hch _ z).2.1 rfl
  exact I.step (ch:=ch) hch (fun b o hL hb hc e n=>u.keep b o e n (fun z=>(List.mem_cons.mp (I.Qt b z)).elim hL hb) hc) (fun b o _ _ hc e n=>u.any e n hc) (fun b o hc e n=>u.free b o e n hc) (fun b o hc e=>u.there b o e hc) u.tups u.frzs u.tbls (fun m' hm=>by
    obtain ⟨o',es',ep',ho',r'⟩:=hm
    rw [ho] at ho'; cases ho'
    exact ⟨_,es',ep',hL,r'⟩) hok hg
theorem Inv.turned {t':Nat} {it:Addr} (I:Inv X pins σ H s) (k:∀ b o,b≠it→s.heap.get? b=some o→h'.get? b=some o) (hn:H it=none) (hL:it≠X.env.locals)
    (h1:it∈X.ex∨X.s₀.heap.objs.size≤it) (h2:∀ x c,X.env.cells.lookup x=some c→c≠it) (h3:∀ p∈X.pn++pins,p.1≠it):Inv X pins σ H { s with heap:=h',toks:=t' }:=by
  have nit:∀ b u,H b=some u→b≠it:=fun b u e z=>by rw [z,hn] at e; cases e
  refine I.step (g':=s.gens) (d':=s.drawn) (ch:=[it]) (fun b hb=>?_) (fun b o _ _ hc e _=>k b o (fun z=>hc (by simp [z])) e) (fun b o _ _ hc e _=>⟨o.slots,k b o (fun z=>hc (by simp [z])) e⟩) (fun _ _ _ _ n=>n)
    (fun b o hc e=>⟨o,k b o (fun z=>hc (by simp [z])) e⟩) (fun _ _ e=>e) (fun _ _ _ e=>e) (fun b ps e=>⟨#[],by rw [e]; simp⟩) (fun m hm=>?_) (fun b u e=>?_) I.bare
  · have e:b=it:=by simpa using hb
    subst e
    exact ⟨h1,hL,h2,h3⟩
  · obtain ⟨o,es,ep,ho,r⟩:=hm
    exact ⟨o,es,ep,k _ o (Ne.symm hL) ho,r⟩
  · refine (I.hok b u e).stay (fun c v hc q=>k c v ?_ q) (fun _ q=>q) fun _ _ q=>q
    rcases hc with z | z
    · rw [z]; exact nit b u e
    · exact nit c _ z
theorem Inv.tok (I:Inv X pins σ H s) (t:Nat):Inv X pins σ H { s with toks:=t }:=I.un (h':=s.heap) (t':=t) Un.refl I.hok
theorem Inv.kept {t':Nat} (I:Inv X pins σ H s) (k:∀ b u,s.heap.get? b=some u→h'.get? b=some u):Inv X pins σ H { s with heap:=h',toks:=t' }:=I.un (Un.kept k) (I.hok.kept k)
theorem Inv.laid {a:Addr} {o:HO} {t':Nat} (I:Inv X pins σ H s) (k:∀ b u,s.heap.get? b=some u→h'.get? b=some u) (hp:s.heap.objs.size≤a) (new:yq X.prog X.w (upd H a o) h' a o) :
    Inv X pins σ (upd H a o) { s with heap:=h',toks:=t' }:=I.un (Un.laid k hp (I.hok.fresh hp)) (I.hok.laid k hp new)
theorem Inv.write {x e:Addr} {o:HO} {t':Nat} (I:Inv X pins σ H s) (mu:Mut (H x)) (he:e=x∨H e=some (.own x)) (k:∀ b u,b≠e→s.heap.get? b=some u→h'.get? b=some u) (heo:∃ u,h'.get? e=some u)
    (new:yq X.prog X.w (upd H x o) h' x o):Inv X pins σ (upd H x o) { s with heap:=h',toks:=t' }:=I.un (Un.write mu he k heo) (I.hok.write mu he k heo new)
theorem Inv.Vb {pins':List (Addr × Obj)} (I:Inv X pins σ H s) (h:∀ p∈pins',s.heap.get? p.1=some p.2∧H p.1=none∧p.1≠X.env.locals∧p.1∉X.fs∧∀ v,p.2.data≠.cell v):Inv X pins' σ H s :=
  ⟨I.ok,I.os,I.bare,I.base,I.loc,I.cell,I.free,I.freeC,fun p hp=>(List.mem_append.mp hp).elim (fun z=>I.pin p (List.mem_append_left _ z)) (h p),I.hok,I.len⟩
theorem Ox {N:List Str} (hN:N.Nodup) {i j:Nat} {x:Str} (a:N[i]? = some x) (b:N[j]? = some x):i=j:=by
  obtain ⟨h1,e1⟩:=List.getElem?_eq_some_iff.mp a
  obtain ⟨h2,e2⟩:=List.getElem?_eq_some_iff.mp b
  exact (List.getElem_inj hN).mp (e1.trans e2.symm)
theorem Wa {M:Model} {A:Around} {E:Value→Shared→Prop} {i:Nat} {x:Str} {v:V} {u:Value} {Q:Unit→Shared→Prop} (I:Inv X pins σ H s) (hN:X.N.Nodup) (hi:X.N[i]? = some x) (hx:Loc X.env.scope x) (r:RelV v u)
    (h:∀ s',Inv X pins (σ.set i (some v)) H s'→(∃ a,Heap.SameBut a s.heap s'.heap∧(a=X.env.locals∨X.env.cells.lookup x=some a))→Q () s') (hf:X.fn x=true∨X.env.scope.names.lookup x=some .local:=by first | exact .inl rfl | exact .inr rfl | assumption):wpAny M A (storeName X.env x u) Q E s:=by
  obtain ⟨m,hn,hl⟩:=id I.loc
  have hcls:(X.env.scope.kind == .class||(X.env.scope.kind == .module&&X.env.locals != X.env.globals))=false:=by rw [I.ok.kind]; rfl
  have hiσ:i<σ.length:=by rw [I.len]; exact (List.getElem?_eq_some_iff.mp hi).1
  have cne:=I.cne
  have tracked:∀ {a:Addr} {h':Heap},(∃ o,s.heap.get? a=some o∧H a=none)→Heap.SameBut a s.heap h'→HOk X.prog X.w H h':=fun {a h'} ha hs b ob e=>by
    obtain ⟨_,_,hfree⟩:=ha
    refine (I.hok b ob e).stay (fun c w' hc q=>(hs.2 c ?_).trans q) (fun _ q=>q) fun _ _ q=>q
    rintro rfl
    rcases hc with rfl | hc
    · rw [hfree] at e; cases e
    · rw [hfree] at hc; cases hc
  rcases hx with hk | hk
  · refine wpAny_storeName_local hk hn (fun h' hn' hs=>?_) hcls
    obtain ⟨oL,_,_,hoL,_⟩:=id hn
    refine h _ ⟨I.ok,I.os,I.bare,⟨fun b o e n hb hx=>?_,fun b o e n hb hx=>?_,I.base.free,fun b o e hx=>?_,I.base.tups,I.base.frzs,I.base.tbls⟩,⟨_,hn',fun j y v' e1 e2 e3=>?_⟩,fun y c e=>?_,I.free,I.freeC,fun p hp=>?_,tracked ⟨oL,hoL,I.free⟩ hs,by simpa using I.len⟩ ⟨_,hs,.inl rfl⟩
    · exact (hs.2 b (Nat.ne_of_lt (Nat.lt_of_lt_of_le (Heap.lt_size e) I.ok.above))).trans (I.base.keep b o e n hb hx)
    · obtain ⟨sl,e1⟩:=I.base.slot b o e n hb hx
      exact ⟨sl,(hs.2 b (Nat.ne_of_lt (Nat.lt_of_lt_of_le (Heap.lt_size e) I.ok.above))).trans e1⟩
    · obtain ⟨o',e1⟩:=I.base.there b o e hx
      exact ⟨o',(hs.2 b (Nat.ne_of_lt (Nat.lt_of_lt_of_le (Heap.lt_size e) I.ok.above))).trans e1⟩
    · by_cases hj:j=i
      · subst hj
        rw [hi] at e1; cases e1
        rw [List.getElem?_set_self hiσ] at e2
        cases e2
        exact ⟨u,r,.inl ⟨hk,by simp⟩⟩
      · rw [List.getElem?_set_ne (Ne.symm hj)] at e2
        obtain ⟨u',r',q⟩:=hl j y v' e1 e2 e3
        refine ⟨u',r',?_⟩
        rcases q with ⟨k,e⟩ | ⟨k,c,e,z⟩
        · refine .inl ⟨k,?_⟩
          have:y≠x:=fun e=>hj (Ox hN e1 (e ▸ hi))
          simp [this,e]
        · exact .inr ⟨k,c,e,z.sameBut hs (cne y c e)⟩
    · obtain ⟨w',z⟩:=I.cell y c e
      exact ⟨w',z.sameBut hs (cne y c e)⟩
    · obtain ⟨e,n,ne,nf,d⟩:=I.pin p hp
      exact ⟨(hs.2 p.1 ne).trans e,n,ne,nf,d⟩
  · have hfn:X.fn x=true:=by
      rcases hf with z | z
      · exact z
      · rw [z] at hk; cases hk
    obtain ⟨c,hc⟩:=I.ok.has x (.inl hk)
    obtain ⟨w',z⟩:=I.cell x c hc
    refine wpAny_storeName_cell I.ok.kind hk hc z (fun h' hc' hs=>?_)
    obtain ⟨oc,hoc,hocd⟩:=id z
    refine h { s with heap:=h' } ⟨I.ok,I.os,I.bare,⟨fun b o e n hb hx=>?_,fun b o e n hb hx=>?_,I.base.free,fun b o e hx=>?_,I.base.tups,I.base.frzs,I.base.tbls⟩,⟨m,hn.sameBut hs (Ne.symm (cne x c hc)),fun j y v' e1 e2 e3=>?_⟩,fun y c' e=>?_,I.free,I.freeC,fun p hp=>?_,tracked ⟨oc,hoc,I.freeC x c hc⟩ hs,by simpa using I.len⟩ ⟨c,hs,.inr hc⟩
    · exact (hs.2 b (Nat.ne_of_lt (Nat.lt_of_lt_of_le (Heap.lt_size e) (I.ok.cab x c hfn hc)))).trans (I.base.keep b o e n hb hx)
    · obtain ⟨sl,e1⟩:=I.base.slot b o e n hb hx
      exact ⟨sl,(hs.2 b (Nat.ne_of_lt (Nat.lt_of_lt_of_le (Heap.lt_size e) (I.ok.cab x c hfn hc)))).trans e1⟩
    · obtain ⟨o',e1⟩:=I.base.there b o e hx
      exact ⟨o',(hs.2 b (Nat.ne_of_lt (Nat.lt_of_lt_of_le (Heap.lt_size e) (I.ok.cab x c hfn hc)))).trans e1⟩
    · by_cases hj:j=i
      · subst hj
        rw [hi] at e1; cases e1
        rw [List.getElem?_set_self hiσ] at e2
        cases e2
        exact ⟨u,r,.inr ⟨.inl hk,c,hc,hc'⟩⟩
      · rw [List.getElem?_set_ne (Ne.symm hj)] at e2
        obtain ⟨u',r',q⟩:=hl j y v' e1 e2 e3
        refine ⟨u',r',?_⟩
        rcases q with q | ⟨k,c',e,z'⟩
        · exact .inl q
        · refine .inr ⟨k,c',e,z'.sameBut hs ?_⟩
          rintro rfl
          exact hj (Ox hN e1 (I.ok.inj _ _ _ e hc ▸ hi))
    · by_cases hcc:c'=c
      · subst hcc; exact ⟨_,hc'⟩
      · obtain ⟨w2,z2⟩:=I.cell y c' e
        exact ⟨w2,z2.sameBut hs hcc⟩
    · obtain ⟨e,n,ne,nf,d⟩:=I.pin p hp
      refine ⟨(hs.2 p.1 ?_).trans e,n,ne,nf,d⟩
      intro q
      rw [q,hoc] at e
      have q':oc=p.2:=Option.some.inj e
      exact d w' (by rw [← q']; exact hocd)
theorem Qh {M:Model} {A:Around} {E:Value→Shared→Prop} {i:Nat} {x:Str} {v:V} {u:Value} {Q:Unit→Shared→Prop} (I:Inv X pins σ H s) (hN:X.N.Nodup) (hi:X.N[i]? = some x) (hx:Loc X.env.scope x) (r:RelV v u)
    (h:∀ s',Inv X pins (σ.set i (some v)) H s'→Q () s') (hf:X.fn x=true∨X.env.scope.names.lookup x=some .local:=by first | exact .inl rfl | exact .inr rfl | assumption):wpAny M A (storeName X.env x u) Q E s :=
  Wa I hN hi hx r (fun s' I' _=>h s' I') hf
end
noncomputable abbrev XK:=Value→Option Addr→Hp→Prop
noncomputable abbrev St:=List (Option V)
noncomputable abbrev VK:=V→Hp→Prop
noncomputable abbrev TE:=St→Hp→VK→Prop
noncomputable abbrev TT:=St→Hp→(Bool→Hp→Prop)→Prop
noncomputable abbrev TA:=St→Hp→(List V→Hp→Prop)→Prop
structure Ends where
  nx:St→Hp→Prop
  rt:VK
  bk:St→Hp→Prop:=fun _ _=>False
  ct:St→Hp→Prop:=fun _ _=>False
noncomputable abbrev TS:=Ends→St→Hp→Prop
inductive EP (X:Cx) (pins:List (Addr × Obj)) (σ:St) (Q:VK) (u:Value) (s':Shared):Prop
  | mk (v:V) (H':Hp) (I:Inv X pins σ H' s') (r:RelV v u) (q:Q v H')
noncomputable def TP (X:Cx) (pins:List (Addr × Obj)) (σ:St) (Q:Bool→Hp→Prop) (b:Bool) (s':Shared):Prop:=∃ H',Inv X pins σ H' s'∧Q b H'
inductive AP (X:Cx) (pins:List (Addr × Obj)) (σ:St) (Q:List V→Hp→Prop) (us:List Value) (s':Shared):Prop
  | mk (vs:List V) (H':Hp) (I:Inv X pins σ H' s') (r:Vals vs us) (q:Q vs H')
noncomputable def SP (X:Cx) (pins:List (Addr × Obj)) (D:Ends) (f:Flow) (s':Shared):Prop :=
  match f with
  | .next=>∃ σ' H',Inv X pins σ' H' s'∧D.nx σ' H'
  | .brk=>∃ σ' H',Inv X pins σ' H' s'∧D.bk σ' H'
  | .cont=>∃ σ' H',Inv X pins σ' H' s'∧D.ct σ' H'
  | .ret u=>∃ v σ' H',Inv X pins σ' H' s'∧RelV v u∧D.rt v H'
noncomputable def PE (X:Cx) (e:Expr) (t:TE):Prop :=
  ∀ (pins:List (Addr × Obj)) (s:Shared) (σ:St) (H:Hp) (Q:VK),Inv X pins σ H s→t σ H Q→wpAny (model X.prog X.w) X.A (eval e X.env) (EP X pins σ Q) X.xe s
noncomputable def PT (X:Cx) (e:Expr) (t:TT):Prop :=
  ∀ (pins:List (Addr × Obj)) (s:Shared) (σ:St) (H:Hp) (Q:Bool→Hp→Prop),Inv X pins σ H s→t σ H Q→wpAny (model X.prog X.w) X.A (isTrue e X.env (eval e X.env)) (TP X pins σ Q) X.xe s
noncomputable def PW (X:Cx) (e:Expr) (t:TT):Prop :=
  ∀ (whole:Sem Value) (pins:List (Addr × Obj)) (s:Shared) (σ:St) (H:Hp) (Q:Bool→Hp→Prop),Inv X pins σ H s→t σ H Q→wpAny (model X.prog X.w) X.A (isTrue e X.env whole) (TP X pins σ Q) X.xe s
theorem PW.pt {X:Cx} {e:Expr} {t:TT} (h:PW X e t):PT X e t:=h _
noncomputable def PA (X:Cx) (es:List Expr) (t:TA):Prop :=
  ∀ (pos:Pos) (pins:List (Addr × Obj)) (s:Shared) (σ:St) (H:Hp) (Q:List V→Hp→Prop),Inv X pins σ H s→t σ H Q→wpAny (model X.prog X.w) X.A (spliced (backTo pos (starEach es X.env))) (AP X pins σ Q) X.xe s
noncomputable def PS (X:Cx) (st:Stmt) (t:TS):Prop :=
  ∀ (pins:List (Addr × Obj)) (s:Shared) (σ:St) (H:Hp) (D:Ends),Inv X pins σ H s→t D σ H→wpAny (model X.prog X.w) X.A (exec st X.env) (SP X pins D) X.xe s
noncomputable def PSs (X:Cx) (st:List Stmt) (t:TS):Prop :=
  ∀ (pins:List (Addr × Obj)) (s:Shared) (σ:St) (H:Hp) (D:Ends),Inv X pins σ H s→t D σ H→wpAny (model X.prog X.w) X.A (execs st X.env) (SP X pins D) X.xe s
theorem thn {α:Type} {t:Sem α} {Q Q':α→Shared→Prop} {M:Model} {A:Around} {E:Value→Shared→Prop} {s:Shared} (h:wpAny M A t Q E s) (hQ:∀ a s,Q a s→Q' a s):wpAny M A t Q' E s:=wpAny_mono h hQ fun _ _ x=>x
end L2
namespace L2
open PySem PySem.Spec PyProof.Rows
noncomputable section
variable {X:Cx}
noncomputable def Yz (i:Nat):TE:=fun σ H Q=>∃ v,σ[i]? = some (some v)∧Q v H
noncomputable def tC (v:V):TE:=fun _ H Q=>Q v H
theorem a4k {i:Nat} {x:Str} {pos:Pos} (hN:X.N[i]? = some x) (hv:Vis X.env.scope x) (hd:(x==("__debug__" : Str))=false:=by decide) (hcd:(x==("__classdict__" : Str))=false:=by decide):PE X (.Name x pos) (Yz i):=by
  intro pins s σ H Q I h
  obtain ⟨v,e,h⟩:=h
  obtain ⟨m,hn,hl⟩:=I.loc
  obtain ⟨u,r,l⟩:=hl i x v hN e hv
  have fin:EP X pins σ Q u s:=⟨v,H,I,r,h⟩
  rcases l with ⟨hk,hm⟩ | ⟨hk,c,hc,hcell⟩
  · exact wpAny_Name (wpAny_loadName_local I.ok.kind hk hn hm fin) hd
  · rcases hk with hk | hk
    · exact wpAny_Name (wpAny_loadName_cell I.ok.kind hk hc hcell fin) hd
    · exact wpAny_Name (wpAny_loadName_free I.ok.kind hk hc hcell fin hcd) hd
theorem Wn {i j pos}:PE X (.Constant (.int i) j pos) (tC (.int i)):=fun _ _ _ H _ I h=>wpAny_Constant_int ⟨.int i,H,I.tok _,⟨_,rfl⟩,h⟩
theorem a7b {b j pos}:PE X (.Constant (.bool b) j pos) (tC (.bl b)):=fun _ _ _ H _ I h=>Constant_bool ⟨.bl b,H,I,rfl,h⟩
theorem a5d {j pos}:PE X (.Constant .none j pos) (tC .non):=fun _ _ _ H _ I h=>Constant_none ⟨.non,H,I,rfl,h⟩
theorem a4q {x j pos}:PE X (.Constant (.str x) j pos) (tC (.str x)):=fun _ _ _ H _ I h=>Calls.Constant_str ⟨.str x,H,I.tok _,⟨_,rfl⟩,h⟩
noncomputable def Gl (X:Cx) (x:Str):Prop:=X.env.kindOf x=some .globalImplicit
theorem Wu {E:Value→Shared→Prop} {pins:List (Addr × Obj)} {s:Shared} {σ:St} {H:Hp} {x:Str} {u:Value} {pos:Pos} {Q:Value→Shared→Prop} (I:Inv X pins σ H s) (hg:Gl X x) (hm:X.mg x=some u) (h:Q u s)
    (hd:(x==("__debug__" : Str))=false:=by decide):wpAny (model X.prog X.w) X.A (eval (.Name x pos) X.env) Q E s :=
  Calls.Name_function_global I.ok.kind hg (Calls.loadGlobal_global (by rw [I.ok.glob]; exact I.mod.glob.keeps I.bk) hm h) hd
theorem Ly {E:Value→Shared→Prop} {pins:List (Addr × Obj)} {s:Shared} {σ:St} {H:Hp} {x:Str} {u:Value} {pos:Pos} {Q:Value→Shared→Prop} (I:Inv X pins σ H s) (hg:Gl X x) (hm:X.mg x=none) (hv:bootBuiltins x=some u) (h:Q u s)
    (hn:x ≠ "__name__" := by decide) (hd:(x==("__debug__" : Str))=false:=by decide):wpAny (model X.prog X.w) X.A (eval (.Name x pos) X.env) Q E s:=by
  obtain ⟨mb,h1,h2⟩:=I.mod.blt
  exact Calls.Name_function_global I.ok.kind hg (Calls.loadGlobal_builtin (by rw [I.ok.glob]; exact I.mod.glob.keeps I.bk) hm (by rw [I.ok.blt]; exact h1.keeps I.bk) ((h2 x hn).trans hv) h) hd
theorem a1u {x:Str} {v:V} {u:Value} {pos:Pos} (hg:Gl X x) (hm:X.mg x=some u) (r:RelV v u) (hd:(x==("__debug__" : Str))=false:=by decide):PE X (.Name x pos) (tC v) :=
  fun _ _ _ H _ I h=>Wu I hg hm ⟨v,H,I,r,h⟩ hd
theorem a1e {x:Str} {v:V} {u:Value} {pos:Pos} (hg:Gl X x) (hm:X.mg x=none) (hv:bootBuiltins x=some u) (r:RelV v u) (hn:x ≠ "__name__" := by decide) (hd:(x==("__debug__" : Str))=false:=by decide):PE X (.Name x pos) (tC v) :=
  fun _ _ _ H _ I h=>Ly I hg hm hv ⟨v,H,I,r,h⟩ hn hd
variable {a b:Expr} {ta tb:TE} {pos:Pos}
noncomputable def tB (t:TE):TT:=fun σ H Q=>t σ H fun x H1=>∃ c,x=.bl c∧Q c H1
theorem a5l {e:Expr} {t:TE} (h:PE X e t) (he:∀ whole,isTrue e X.env whole=(do let v ← whole; standAt e.pos; holding [v] (truthy v)):=by intro _; rfl):PT X e (tB t):=by
  intro pins s σ H Q I hw
  refine isTrue_plain (thn (h pins s σ H _ I hw) fun v s1 z0=>?_) (he _)
  obtain ⟨x,H1,I1,r1,q1⟩:=z0
  obtain ⟨d,rfl,q⟩:=q1
  cases r1
  exact wpAny_truthy_bool ⟨H1,I1,q⟩
variable {tA tB':TT} {rest:List Expr}
noncomputable def a7y (t u:TT):TT:=fun σ H Q=>t σ H fun c H1=>if c=true then u σ H1 Q else Q false H1
noncomputable def tOr (t u:TT):TT:=fun σ H Q=>t σ H fun c H1=>if c=true then Q true H1 else u σ H1 Q
noncomputable def a8j (t:TT):TT:=fun σ H Q=>t σ H fun c H1=>Q (!c) H1
theorem pw_and1 (ha:PT X a tA):PW X (.BoolOp .And [a] pos) tA:=by
  intro wh pins s σ H Q I h
  refine isTrue_and (thn (ha pins s σ H Q I h) fun c s1 e=>?_)
  cases c with
  | true=>exact isTrue_and_nil e
  | false=>exact e
theorem pw_or1 (ha:PT X a tA):PW X (.BoolOp .Or [a] pos) tA:=by
  intro wh pins s σ H Q I h
  refine isTrue_or (thn (ha pins s σ H Q I h) fun c s1 e=>?_)
  cases c with
  | false=>exact isTrue_or_nil e
  | true=>exact e
theorem pw_and (ha:PT X a tA) (hb:PW X (.BoolOp .And (b::rest) pos) tB'):PW X (.BoolOp .And (a::b::rest) pos) (a7y tA tB'):=by
  intro wh pins s σ H Q I h
  refine isTrue_and (thn (ha pins s σ H _ I h) fun c s1 z0=>?_)
  obtain ⟨H1,I1,q1⟩:=z0
  cases c with
  | true=>exact hb wh pins s1 σ H1 Q I1 q1
  | false=>exact ⟨H1,I1,q1⟩
theorem pw_or (ha:PT X a tA) (hb:PW X (.BoolOp .Or (b::rest) pos) tB'):PW X (.BoolOp .Or (a::b::rest) pos) (tOr tA tB'):=by
  intro wh pins s σ H Q I h
  refine isTrue_or (thn (ha pins s σ H _ I h) fun c s1 z0=>?_)
  obtain ⟨H1,I1,q1⟩:=z0
  cases c with
  | true=>exact ⟨H1,I1,q1⟩
  | false=>exact hb wh pins s1 σ H1 Q I1 q1
theorem a3o (ha:PT X a tA):PT X (.UnaryOp .Not a pos) (a8j tA):=by
  intro pins s σ H Q I h
  exact isTrue_not (ha pins s σ H (fun c H1=>Q (!c) H1) I h)
noncomputable def a6t (ta tb:TE):TE:=fun σ H Q=>ta σ H fun x H1=>∃ c,x=.bl c∧if c=true then tb σ H1 Q else Q (.bl false) H1
noncomputable def a77 (ta:TE):TE:=fun σ H Q=>ta σ H fun x H1=>∃ c,x=.bl c∧Q (.bl (!c)) H1
theorem a4d {op} {t:TE} (h:PE X a t):PE X (.BoolOp op [a] pos) t:=fun pins s σ H Q I hw=>BoolOp_one (h pins s σ H Q I hw)
theorem a3b (ha:PE X a ta) (hb:PE X (.BoolOp .And (b::rest) pos) tb):PE X (.BoolOp .And (a::b::rest) pos) (a6t ta tb):=by
  intro pins s σ H Q I h
  refine BoolOp_and (thn (ha pins s σ H _ I h) fun v s1 z0=>?_)
  obtain ⟨x,H1,I1,r1,q1⟩:=z0
  obtain ⟨c,rfl,q1⟩:=q1
  cases r1
  refine wpAny_truthy_bool ?_
  cases c with
  | true=>exact hb pins s1 σ H1 Q I1 q1
  | false=>exact ⟨.bl false,H1,I1,rfl,q1⟩
theorem a5r (ha:PE X a ta):PE X (.UnaryOp .Not a pos) (a77 ta):=by
  intro pins s σ H Q I h
  refine UnaryOp_ (thn (ha pins s σ H _ I h) fun v s1 z0=>?_)
  obtain ⟨x,H1,I1,r1,q1⟩:=z0
  obtain ⟨c,rfl,q1⟩:=q1
  cases r1
  exact not_of (wpAny_truthy_bool ⟨.bl (!c),H1,I1,rfl,q1⟩)
noncomputable def tIf (t:TT) (ta tb:TE):TE:=fun σ H Q=>t σ H fun c H1=>if c=true then ta σ H1 Q else tb σ H1 Q
theorem Y7 {c:Expr} (hc:PT X c tA) (ha:PE X a ta) (hb:PE X b tb):PE X (.IfExp c a b pos) (tIf tA ta tb):=by
  intro pins s σ H Q I h
  refine wpAny_IfExp (thn (hc pins s σ H _ I h) fun d s1 z0=>?_)
  obtain ⟨H1,I1,q1⟩:=z0
  cases d with
  | true=>exact ha pins s1 σ H1 Q I1 q1
  | false=>exact hb pins s1 σ H1 Q I1 q1
end
end L2
namespace L2
open PySem PySem.Spec PyProof.Rows
noncomputable def SqL (K:PySem.W.Frag) (H:Hp) (a:Addr) (xs:List V):Prop :=
  Rd H a (.lst xs) ∨
    ∃ (o:Obj) (its:Array Value) (n:Nat),K.lookup a=some o∧o.cls=.type "list" ∧ o.dict=none∧o.data=.seq its n∧its.size≤sizeLine∧Vals xs its.toList
noncomputable def SqT (K:PySem.W.Frag) (H:Hp) (a:Addr) (xs:List V):Prop :=
  Rd H a (.tup xs) ∨
    ∃ (o:Obj) (its:Array Value) (n:Nat),K.lookup a=some o∧o.cls=.type "tuple" ∧ o.dict=none∧o.data=.seq its n∧its.size≤sizeLine∧Vals xs its.toList
noncomputable def a8p:Value→Option V
  | .none=>some .non
  | .bool b=>some (.bl b)
  | .int i _=>some (.int i)
  | .str x _=>some (.str x)
  | .bytes b _=>some (.byt b)
  | .float b _=>some (.flt b)
  | .ref a=>some (.ref a)
  | .type n=>some (.ty n)
  | _=>none
theorem RelV.abs {x:V} {u:Value} (r:RelV x u):a8p u=some x:=by
  cases x with
  | non=>cases r; rfl
  | bl _=>cases r; rfl
  | int _=>obtain ⟨t,rfl⟩:=r; rfl
  | str _=>obtain ⟨t,rfl⟩:=r; rfl
  | byt _=>obtain ⟨t,rfl⟩:=r; rfl
  | flt _=>obtain ⟨t,rfl⟩:=r; rfl
  | ref _=>cases r; rfl
  | ty _=>cases r; rfl
theorem RelV.inj {x y:V} {u:Value} (r:RelV x u) (q:RelV y u):x=y:=Option.some.inj (r.abs.symm.trans q.abs)
theorem Vals.inj:∀ {xs ys:List V} {us:List Value},Vals xs us→Vals ys us→xs=ys
  | _,_,_,.nil,.nil=>rfl
  | _,_,_,.cons r t,.cons r' t'=>by rw [r.inj r',Vals.inj t t']
noncomputable section
variable {X:Cx} {pins:List (Addr × Obj)} {σ:St} {H:Hp} {s:Shared} {a:Addr} {xs ys:List V}
theorem SqL.of {K:PySem.W.Frag} (h:H a=some (.lst xs)):SqL K H a xs:=.inl (.inl h)
theorem SqT.of {K:PySem.W.Frag} (h:H a=some (.tup xs)):SqT K H a xs:=.inl (.inl h)
theorem Inv.list (I:Inv X pins σ H s) (h:SqL X.K H a xs):∃ its:List Value,Vals xs its∧PlainL s.heap a its.toArray∧xs.length≤sizeLine:=by
  rcases h with h | ⟨o,its,n,hk,hc,hd,hs,hz,r⟩
  · obtain ⟨z,its,n,r,e⟩:=h.ok I.hok
    exact ⟨its,r,⟨_,n,e,rfl,rfl,rfl⟩,z⟩
  · refine ⟨its.toList,r,⟨o,n,I.kIn a o hk,hc,hd,by simpa using hs⟩,?_⟩
    have e:=r.length
    simp only [Array.length_toList] at e
    omega
theorem Inv.tuple (I:Inv X pins σ H s) (h:SqT X.K H a xs):∃ its:List Value,Vals xs its∧IsTup s.heap a its.toArray∧xs.length≤sizeLine:=by
  rcases h with h | ⟨o,its,n,hk,hc,hdn,hs,hz,r⟩
  · obtain ⟨z,its,r,p⟩:=h.ok I.hok
    exact ⟨its,r,p.is,z⟩
  · refine ⟨its.toList,r,⟨o,I.kIn a o hk,hc,n,by simpa using hs⟩,?_⟩
    have e:=r.length
    simp only [Array.length_toList] at e
    omega
theorem Inv.Qx (I:Inv X pins σ H s) (h:SqL X.K H a xs) (h':SqL X.K H a ys):xs=ys:=by
  obtain ⟨its,r,⟨o,n,e,_,_,d⟩,_⟩:=I.list h
  obtain ⟨its',r',⟨o',n',e',_,_,d'⟩,_⟩:=I.list h'
  rw [e] at e'; cases e'
  rw [d] at d'
  injection d' with d1 _
  have:its=its':=by simpa using congrArg Array.toList d1
  subst this
  exact r.inj r'
theorem Inv.Kd (I:Inv X pins σ H s) (h:SqT X.K H a xs) (h':SqT X.K H a ys):xs=ys:=by
  obtain ⟨its,r,⟨o,e,_,n,d⟩,_⟩:=I.tuple h
  obtain ⟨its',r',⟨o',e',_,n',d'⟩,_⟩:=I.tuple h'
  rw [e] at e'; cases e'
  rw [d] at d'
  injection d' with d1 _
  have:its=its':=by simpa using congrArg Array.toList d1
  subst this
  exact r.inj r'
end
noncomputable abbrev Cx.wish (X:Cx) (E:Value→Shared→Prop):Cx:={ X with xe:=E }
noncomputable abbrev Cx.nox (X:Cx):Cx:=X.wish fun _ _=>False
theorem Cx.Ok.wish {X:Cx} (ok:X.Ok) (E:Value→Shared→Prop):(X.wish E).Ok :=
  ⟨ok.mod,ok.kind,ok.glob,ok.blt,ok.above,ok.inj,ok.has,ok.cab,ok.hd,ok.frames,ok.stk,ok.exf,ok.bs,ok.bsz,ok.noex,ok.exfs,ok.Tt,ok.frf⟩
theorem Cx.Ok.Dd {X:Cx} {E:Value→Shared→Prop} (ok:(X.wish E).Ok):X.Ok :=
  ⟨ok.mod,ok.kind,ok.glob,ok.blt,ok.above,ok.inj,ok.has,ok.cab,ok.hd,ok.frames,ok.stk,ok.exf,ok.bs,ok.bsz,ok.noex,ok.exfs,ok.Tt,ok.frf⟩
noncomputable section
variable {X:Cx} {pins:List (Addr × Obj)} {σ:St} {H:Hp} {s:Shared} {E:Value→Shared→Prop}
theorem Inv.wish (I:Inv X pins σ H s) (E:Value→Shared→Prop):Inv (X.wish E) pins σ H s:=⟨I.ok.wish E,I.os,I.bare,I.base,I.loc,I.cell,I.free,I.freeC,I.pin,I.hok,I.len⟩
theorem Inv.Dd (I:Inv (X.wish E) pins σ H s):Inv X pins σ H s:=⟨I.ok.Dd,I.os,I.bare,I.base,I.loc,I.cell,I.free,I.freeC,I.pin,I.hok,I.len⟩
theorem SP.Dd {D:Ends} {f:Flow} {s':Shared} (h:SP (X.wish E) pins D f s'):SP X pins D f s':=by
  cases f with
  | next=>obtain ⟨σ',H',I,q⟩:=h; exact ⟨σ',H',I.Dd,q⟩
  | brk=>obtain ⟨σ',H',I,q⟩:=h; exact ⟨σ',H',I.Dd,q⟩
  | cont=>obtain ⟨σ',H',I,q⟩:=h; exact ⟨σ',H',I.Dd,q⟩
  | ret u=>obtain ⟨v,σ',H',I,r,q⟩:=h; exact ⟨v,σ',H',I.Dd,r,q⟩
theorem PE.nox {e:Expr} {t:TE} (h:PE X.nox e t):PE X e t:=fun pins s σ H Q I hw =>
  wpAny_mono (h pins s σ H Q (I.wish _) hw) (fun _ _ z7=>by obtain ⟨v,H',I',r,q⟩:=z7; exact ⟨v,H',I'.Dd,r,q⟩) fun _ _ z=>False.elim z
theorem PT.nox {e:Expr} {t:TT} (h:PT X.nox e t):PT X e t:=fun pins s σ H Q I hw =>
  wpAny_mono (h pins s σ H Q (I.wish _) hw) (fun _ _ z7=>by obtain ⟨H',I',q⟩:=z7; exact ⟨H',I'.Dd,q⟩) fun _ _ z=>False.elim z
theorem PSs.nox {st:List Stmt} {t:TS} (h:PSs X.nox st t):PSs X st t:=fun pins s σ H D I hw =>
  wpAny_mono (h pins s σ H D (I.wish _) hw) (fun _ _ q=>q.Dd) fun _ _ z=>False.elim z
end
noncomputable section
variable {X:Cx} {st:Stmt} {rest:List Stmt} {t u:TS} {e:Expr} {te:TE} {pos:Pos}
noncomputable def a70:TS:=fun D σ H=>D.nx σ H
noncomputable def a85 (t u:TS):TS:=fun D σ H=>t { D with nx:=u D } σ H
theorem a0l:PSs X [] a70:=fun _ _ σ H _ I h=>wpAny_execs_nil ⟨σ,H,I,h⟩
theorem Xb (h1:PS X st t) (h2:PSs X rest u):PSs X (st::rest) (a85 t u):=by
  intro pins s σ H D I h
  refine wpAny_execs_cons (thn (h1 pins s σ H { D with nx:=u D } I h) fun f s1 q=>?_)
  cases f with
  | next =>
    obtain ⟨σ',H',I',q⟩:=q
    exact h2 pins s1 σ' H' D I' q
  | ret v=>exact q
  | brk=>exact q
  | cont=>exact q
theorem a0j (h1:PS X st t):PSs X [st] t:=by
  intro pins s σ H D I h
  refine wpAny_execs_cons (thn (h1 pins s σ H D I h) fun f s1 q=>?_)
  cases f with
  | next=>exact wpAny_execs_nil q
  | ret v=>exact q
  | brk=>exact q
  | cont=>exact q
theorem Inv.quiet {pins:List (Addr × Obj)} {σ:St} {H:Hp} {s:Shared} (I:Inv X pins σ H s):interactive X.env=false:=by simp [interactive,I.ok.kind]
noncomputable def a1p (te:TE):TS:=fun D σ H=>te σ H fun _ H1=>D.nx σ H1
theorem Cm (he:PE X e te) (hs:swapsWith e none pos.line X.env=pure false:=by rfl):PS X (.Expr e pos) (a1p te):=by
  intro pins s σ H D I h
  exact wpAny_Expr_any (thn (he pins s σ H _ I h) fun v s1 z7=>by obtain ⟨x,H1,I1,r1,q1⟩:=z7; exact ⟨σ,H1,I1,q1⟩) I.quiet hs
noncomputable def a8b (te:TE):TS:=fun D σ H=>te σ H D.rt
theorem a3q (he:PE X e te):PS X (.Return (some e) pos) (a8b te):=by
  intro pins s σ H D I h
  exact wpAny_Return_some (thn (he pins s σ H _ I h) fun v s1 z7=>by obtain ⟨x,H1,I1,r1,q1⟩:=z7; exact ⟨x,σ,H1,I1,r1,q1⟩)
noncomputable def a8l (c:TT) (t u:TS):TS:=fun D σ H=>c σ H fun b H1=>if b=true then t D σ H1 else u D σ H1
theorem a7l {c:Expr} {a b:List Stmt} {tc:TT} (hc:PT X c tc) (ha:PSs X a t) (hb:PSs X b u):PS X (.If c a b pos) (a8l tc t u):=by
  intro pins s σ H D I h
  refine wpAny_If (thn (hc pins s σ H _ I h) fun d s1 z0=>?_)
  obtain ⟨H1,I1,q1⟩:=z0
  cases d with
  | true=>exact ha pins s1 σ H1 D I1 q1
  | false=>exact hb pins s1 σ H1 D I1 q1
end
noncomputable abbrev TG:=V→St→Hp→(St→Hp→Prop)→Prop
noncomputable abbrev TGs:=List V→St→Hp→(St→Hp→Prop)→Prop
noncomputable def PG (X:Cx) (target:Expr) (t:TG):Prop :=
  ∀ (pins:List (Addr × Obj)) (s:Shared) (σ:St) (H:Hp) (v:V) (u:Value) (Q:St→Hp→Prop),Inv X pins σ H s→RelV v u→t v σ H Q →
    wpAny (model X.prog X.w) X.A (assign target X.env u) (fun _ s'=>∃ σ' H',Inv X pins σ' H' s'∧Q σ' H') X.xe s
noncomputable def PGs (X:Cx) (ts:List Expr) (t:TGs):Prop :=
  ∀ (pins:List (Addr × Obj)) (s:Shared) (σ:St) (H:Hp) (vs:List V) (us:List Value) (Q:St→Hp→Prop),Inv X pins σ H s→Vals vs us→t vs σ H Q →
    wpAny (model X.prog X.w) X.A (assignInOrder ((assignEach ts X.env).map (·.2)) us) (fun _ s'=>∃ σ' H',Inv X pins σ' H' s'∧Q σ' H') X.xe s
noncomputable section
variable {X:Cx} {pos:Pos}
noncomputable def Jj (i:Nat):TG:=fun v σ H Q=>Q (σ.set i (some v)) H
theorem n8 {i:Nat} {x:Str} (hN:X.N.Nodup) (hi:X.N[i]? = some x) (hx:Loc X.env.scope x) (hf:X.fn x=true∨X.env.scope.names.lookup x=some .local:=by first | exact .inl rfl | exact .inr rfl | assumption):PG X (.Name x pos) (Jj i):=by
  intro pins s σ H v u Q I r h
  exact wpAny_assign_Name (Qh I hN hi hx r (fun s' I'=>⟨_,H,I',h⟩) hf)
noncomputable def a7r:TGs:=fun vs σ H Q=>vs=[]∧Q σ H
noncomputable def a4v (t:TG) (u:TGs):TGs:=fun vs σ H Q=>∃ v r,vs=v::r∧t v σ H fun σ' H'=>u r σ' H' Q
theorem Dl:PGs X [] a7r:=by
  intro pins s σ H vs us Q I r h
  obtain ⟨e,h⟩:=h
  subst e
  cases r
  exact assignInOrder_nil ⟨σ,H,I,h⟩
theorem uh {e:Expr} {es:List Expr} {t:TG} {u:TGs} (h1:PG X e t) (h2:PGs X es u)
    (hs:(assignEach (e::es) X.env).map (·.2)=assign e X.env::(assignEach es X.env).map (·.2):=by rfl):PGs X (e::es) (a4v t u):=by
  intro pins s σ H vs us Q I r h
  obtain ⟨v,vr,e1,h⟩:=h
  subst e1
  cases r with
  | cons r rr =>
    rw [hs]
    refine assignInOrder_cons (thn (h1 pins s σ H _ _ _ I r h) fun _ s1 z0=>?_)
    obtain ⟨σ1,H1,I1,q1⟩:=z0
    exact h2 pins s1 σ1 H1 _ _ Q I1 rr q1
noncomputable def a7v (K:PySem.W.Frag) (n:Nat) (t:TGs):TG:=fun v σ H Q=>∃ a xs,v=.ref a∧SqT K H a xs∧xs.length=n∧t xs σ H Q
theorem Hh {es:List Expr} {k:Nat} {t:TGs} {n:Nat} (hc:X.calm=true) (h:PGs X es t)
    (hn:(assignEach es X.env).length=n:=by rfl) (hst:(assignEach es X.env).findIdx? (·.1)=none:=by rfl):PG X (.Tuple es k pos) (a7v X.K n t):=by
  intro pins s σ H v u Q I r hw
  obtain ⟨a,xs,e1,hq,hl,hw⟩:=hw
  subst e1
  cases r
  obtain ⟨its,rv,ht,hz⟩:=I.tuple hq
  refine assign_Tuple_tuple (I.ok.hd hc) ht (by simp [hn,← hl,rv.length]) hst fun h' hx=>?_
  have I1:Inv X pins σ H { s with heap:=h' }:=I.kept (t':=s.toks) fun b o e=>hx b o (Nat.ne_of_lt (Heap.lt_size e)) e
  exact h pins _ σ H xs _ Q I1 (by simpa using rv) hw
noncomputable def a2r (te:TE) (g:TG):TS:=fun D σ H=>te σ H fun x H1=>g x σ H1 D.nx
theorem Zq {tg e:Expr} {te:TE} {g:TG} (he:PE X e te) (hg:PG X tg g) (hs:swapsWithSole [tg] e pos.line X.env=pure false:=by rfl) (hw:swappedStores [tg] e X.env=pure none:=by rfl)
    (h1:(assignEach [tg] X.env).map (·.2)=[assign tg X.env]:=by rfl):PS X (.Assign [tg] e pos) (a2r te g):=by
  intro pins s σ H D I h
  refine wpAny_Assign_stores (thn (he pins s σ H _ I h) fun v s1 z0=>?_) hs hw
  obtain ⟨x,H1,I1,r1,q1⟩:=z0
  rw [h1]
  exact thn (hg pins s1 σ H1 x v _ I1 r1 q1) fun _ s2 q=>q
theorem kh {i:Nat} {x:Str} {e:Expr} {te:TE} {pos':Pos} (hN:X.N.Nodup) (hi:X.N[i]? = some x) (hx:Loc X.env.scope x) (he:PE X e te) (hs:swapsWith e (some (.Name x pos')) pos.line X.env=pure false:=by rfl) (hf:X.fn x=true∨X.env.scope.names.lookup x=some .local:=by first | exact .inl rfl | exact .inr rfl | assumption) :
    PS X (.Assign [.Name x pos'] e pos) (a2r te (Jj i)):=by
  intro pins s σ H D I h
  refine wpAny_Assign_Name (thn (he pins s σ H _ I h) fun v s1 z0=>?_) hs
  obtain ⟨y,H1,I1,r1,q1⟩:=z0
  exact Qh I1 hN hi hx r1 (fun s2 I2=>⟨_,H1,I2,q1⟩) hf
end
noncomputable section
variable {X:Cx} {pos:Pos}
noncomputable def a3t (c:TT) (tb:TS):TS:=fun D σ H=>∃ W:Nat→St→Hp→Prop,(∃ m,W m σ H)∧∀ m σ H,W m σ H →
  c σ H fun b H1=>if b=true then ∃ N:St→Hp→Prop,(∀ σ' H',N σ' H'→∃ m',m'<m∧W m' σ' H')∧tb { D with nx:=N,ct:=N,bk:=D.nx } σ H1 else D.nx σ H1
theorem Yy {c:Expr} {body:List Stmt} {tc:TT} {tb:TS} (hp:PassesOwn (model X.prog X.w) X.A X.env X.xe) (hc:PT X c tc) (hb:PSs X body tb):PS X (.While c body [] pos) (a3t tc tb):=by
  intro pins s σ H D I h
  obtain ⟨W,⟨m0,w0⟩,turn⟩:=h
  refine wpAny_While (codeAny_whileLoop (fun n s'=>∃ σ' H',Inv X pins σ' H' s'∧W n σ' H') ?_ m0 ⟨σ,H,I,w0⟩)
  rintro n s1 ⟨σ1,H1,I1,w1⟩
  refine wpAny_passesOwn hp (thn (hc pins s1 σ1 H1 _ I1 (turn n σ1 H1 w1)) fun b s2 z0=>?_)
  obtain ⟨H2,I2,q2⟩:=z0
  cases b with
  | true =>
    obtain ⟨N,hN,q2⟩:=q2
    rw [if_pos rfl]
    refine wpAny_passesOwn hp (thn (hb pins s2 σ1 H2 _ I2 q2) fun f s3 q3=>?_)
    cases f with
    | next =>
      obtain ⟨σ3,H3,I3,n3⟩:=q3
      obtain ⟨m',hm,w3⟩:=hN σ3 H3 n3
      exact ⟨m',hm,σ3,H3,I3,w3⟩
    | cont =>
      obtain ⟨σ3,H3,I3,n3⟩:=q3
      obtain ⟨m',hm,w3⟩:=hN σ3 H3 n3
      exact ⟨m',hm,σ3,H3,I3,w3⟩
    | brk=>exact q3
    | ret v=>exact q3
  | false =>
    rw [if_neg Bool.false_ne_true]
    exact wpAny_execs_nil ⟨σ1,H2,I2,q2⟩
end
structure It where
  go:Nat→Hp→Prop
  yld:Nat→Hp→V→Hp→Prop
  stop:Nat→Hp→Prop
noncomputable def M8 (X:Cx) (pins:List (Addr × Obj)) (H:Hp) (b:Addr):Prop :=
  H b=none∧b≠X.env.locals∧b∉X.fs∧(b∈X.ex∨X.s₀.heap.objs.size≤b)∧(∀ x c,X.env.cells.lookup x=some c→c≠b)∧∀ p∈X.pn++pins,p.1≠b
theorem Inv.a4j {X:Cx} {pins:List (Addr × Obj)} {σ:St} {H H':Hp} {s:Shared} {b:Addr} (I:Inv X pins σ H s) (hb:s.heap.objs.size≤b) (hn:H' b=none):M8 X pins H' b:=by
  refine ⟨hn,Nat.ne_of_gt (Nat.lt_of_lt_of_le I.lt hb),I.a8m hb,.inr (Nat.le_trans I.sz hb),fun x c e z=>?_,fun p hp z=>?_⟩
  · obtain ⟨v,q⟩:=I.cell x c e
    exact absurd (Nat.lt_of_lt_of_le q.lt (by rw [z]; exact hb)) (Nat.lt_irrefl _)
  · exact absurd (Nat.lt_of_lt_of_le (Heap.lt_size (I.pin p hp).1) (by rw [z]; exact hb)) (Nat.lt_irrefl _)
structure Turn (P:Program) (w:World) (K:PySem.W.Frag) (tg:Expr) (J:It) (fp:List Addr) (it:Addr) (tn:Nat→Heap→Prop):Prop where
  mem:it∈fp
  obj:∀ i h,tn i h→∀ b∈fp,∃ o,h.get? b=some o∧∀ v,o.data≠.cell v
  keep:∀ i h h',tn i h→(∀ b∈fp,∀ o,h.get? b=some o→h'.get? b=some o)→tn i h'
  item:∀ (X:Cx),X.prog=P→X.w=w→X.K=K→X.calm=true→∀ (i:Nat) (pins:List (Addr × Obj)) (s:Shared) (σ:St) (H:Hp) (E:Value→Shared→Prop),Inv X pins σ H s→(∀ b∈fp,M8 X pins H b)→tn i s.heap→J.go i H →
    wpAny (model P w) X.A (pyNext (.ref it)) (fun r s1=>∃ u,r=some u ∧
      wpAny (model P w) X.A (letOwnedTupleGo tg (.ref it) u) (fun _ s2=>∃ x H',Inv X pins σ H' s2∧RelV x u∧J.yld i H x H'∧tn (i+1) s2.heap∧∀ b∈fp,H' b=none) E s1) E s
  done:∀ (X:Cx),X.prog=P→X.w=w→X.K=K→X.calm=true→∀ (i:Nat) (pins:List (Addr × Obj)) (s:Shared) (σ:St) (H:Hp) (E:Value→Shared→Prop),Inv X pins σ H s→(∀ b∈fp,M8 X pins H b)→tn i s.heap→J.stop i H →
    wpAny (model P w) X.A (pyNext (.ref it)) (fun r s1=>r=none∧Inv X pins σ H s1) E s
  self:∀ (A:Around) (i:Nat) (s:Shared) (Q:Value→Shared→Prop) (E:Value→Shared→Prop),tn i s.heap→Q (.ref it) s→wpAny (model P w) A (pyIter (.ref it)) Q E s
noncomputable abbrev TI:=St→Hp→(It→Hp→Prop)→Prop
noncomputable def PIE (X:Cx) (pins:List (Addr × Obj)) (σ:St) (tg:Expr) (R:It→Hp→Prop) (itv:Value) (s2:Shared):Prop :=
  ∃ (it:Addr) (fp:List Addr) (tn:Nat→Heap→Prop) (J:It) (H':Hp),itv=.ref it∧Inv X pins σ H' s2∧Turn X.prog X.w X.K tg J fp it tn∧tn 0 s2.heap∧(∀ b∈fp,M8 X pins H' b)∧R J H'
noncomputable def PI (X:Cx) (tg iter:Expr) (wi:TI):Prop :=
  ∀ (pins:List (Addr × Obj)) (s:Shared) (σ:St) (H:Hp) (R:It→Hp→Prop),Inv X pins σ H s→wi σ H R →
    wpAny (model X.prog X.w) X.A (eval iter X.env) (fun v s1=>wpAny (model X.prog X.w) X.A (pyIter v) (PIE X pins σ tg R) X.xe s1) X.xe s
theorem a0b {M:Model} {A:Around} {E:Value→Shared→Prop} {s:Shared} {tg:Expr} {it:Addr} {u:Value} {o:Obj} {n:String} {vs:Array Value} {Q:Unit→Shared→Prop} (ho:s.heap.get? it=some o) (hc:o.cls=.type n) (hd:o.data=.fields vs)
    (hn:["enumerate","zip","dict_itemiterator","dict_reverseitemiterator","odict_iterator","itertools.zip_longest","itertools.pairwise"].contains n=false) (hQ:Q () s):wpAny M A (letOwnedTupleGo tg (.ref it) u) Q E s:=by
  unfold letOwnedTupleGo
  cases tg <;> first
    | exact wpAny_pure hQ
    | (cases u <;> first
        | exact wpAny_pure hQ
        | (refine wpAny_bind (wpAny_load ho ?_)
           rw [hc,hd]
           show wpAny M A (if (["enumerate","zip","dict_itemiterator","dict_reverseitemiterator","odict_iterator","itertools.zip_longest","itertools.pairwise"].contains n&&vs[0]? == some (rawInt _))=true then _ else _) Q E s
           rw [if_neg (by intro h; rw [hn,Bool.false_and] at h; cases h)]
           exact wpAny_pure hQ))
noncomputable def Itl (K:PySem.W.Frag) (a:Addr):It :=
  ⟨fun i H=>∃ xs x,SqL K H a xs∧xs[i]? = some x,fun i H x H'=>H'=H∧∀ xs,SqL K H a xs→xs[i]? = some x,fun i H=>∃ xs,SqL K H a xs∧xs.length≤i⟩
noncomputable def Itt (K:PySem.W.Frag) (a:Addr):It :=
  ⟨fun i H=>∃ xs x,SqT K H a xs∧xs[i]? = some x,fun i H x H'=>H'=H∧∀ xs,SqT K H a xs→xs[i]? = some x,fun i H=>∃ xs,SqT K H a xs∧xs.length≤i⟩
noncomputable def Itr (lo:Int) (n:Nat):It:=⟨fun i _=>i<n,fun i H x H'=>H'=H∧x=.int (lo+i),fun i _=>n≤i⟩
theorem Vn {P:Program} {w:World} {K:PySem.W.Frag} {tg:Expr} (a it:Addr):Turn P w K tg (Itl K a) [it] it (fun i h=>h.IsListIter it a i) where
  mem:=by simp
  obj:=fun i h st b hb=>by
    have e:b=it:=by simpa using hb
    subst e
    obtain ⟨o,e,c,d⟩:=st
    exact ⟨o,e,fun v z=>by rw [d] at z; cases z⟩
  keep:=fun i h h' st k=>st.at fun o e=>k it (by simp) o e
  item:=by
    intro X hP hw hK hc i pins s σ H E I hf st hg
    subst hP hw hK
    obtain ⟨xs,x,hq,hx⟩:=hg
    obtain ⟨its,rv,p,hz⟩:=I.list hq
    obtain ⟨u,hu,ru⟩:=rv.get hx
    obtain ⟨f0,f1,f2,f3,f4,f5⟩:=hf it (by simp)
    refine wpAny_pyNext_list_item st p.isList (x:=u) (by simpa using hu) fun h' st' sb=>?_
    have I1:Inv X pins σ H { s with heap:=h' }:=I.turned (t':=s.toks) (fun b o hb e=>(sb.2 b hb).trans e) f0 f1 f3 f4 f5
    obtain ⟨o,e,c,d⟩:=id st'
    exact ⟨u,rfl,a0b (s:={ s with heap:=h' }) e c d (by decide) ⟨x,H,I1,ru,⟨rfl,fun ys hy=>by rw [I.Qx hy hq]; exact hx⟩,st',fun b hb=>(hf b hb).1⟩⟩
  done:=by
    intro X hP hw hK hc i pins s σ H E I hf st hg
    subst hP hw hK
    obtain ⟨xs,hq,hx⟩:=hg
    obtain ⟨its,rv,p,hz⟩:=I.list hq
    obtain ⟨f0,f1,f2,f3,f4,f5⟩:=hf it (by simp)
    have hl:=rv.length
    exact wpAny_pyNext_list_end (I.ok.hd hc) st p.isList (by simp; omega) fun h' eb=>⟨rfl,I.turned (t':=s.toks) (fun b o hb e=>eb b o hb e) f0 f1 f3 f4 f5⟩
  self:=fun _ _ _ _ _ st h=>wpAny_pyIter_listiter st h
theorem Tc {P:Program} {w:World} {K:PySem.W.Frag} {tg:Expr} (a it:Addr):Turn P w K tg (Itt K a) [it] it (fun i h=>h.IsTupleIter it a i) where
  mem:=by simp
  obj:=fun i h st b hb=>by
    have e:b=it:=by simpa using hb
    subst e
    obtain ⟨o,e,c,d⟩:=st
    exact ⟨o,e,fun v z=>by rw [d] at z; cases z⟩
  keep:=fun i h h' st k=>st.at fun o e=>k it (by simp) o e
  item:=by
    intro X hP hw hK hc i pins s σ H E I hf st hg
    subst hP hw hK
    obtain ⟨xs,x,hq,hx⟩:=hg
    obtain ⟨its,rv,p,hz⟩:=I.tuple hq
    obtain ⟨u,hu,ru⟩:=rv.get hx
    obtain ⟨f0,f1,f2,f3,f4,f5⟩:=hf it (by simp)
    refine wpAny_pyNext_tuple_item st (show s.heap.IsTuple a its.toArray from p) (x:=u) (by simpa using hu) fun h' st' sb=>?_
    have I1:Inv X pins σ H { s with heap:=h' }:=I.turned (t':=s.toks) (fun b o hb e=>(sb.2 b hb).trans e) f0 f1 f3 f4 f5
    obtain ⟨o,e,c,d⟩:=id st'
    exact ⟨u,rfl,a0b (s:={ s with heap:=h' }) e c d (by decide) ⟨x,H,I1,ru,⟨rfl,fun ys hy=>by rw [I.Kd hy hq]; exact hx⟩,st',fun b hb=>(hf b hb).1⟩⟩
  done:=by
    intro X hP hw hK hc i pins s σ H E I hf st hg
    subst hP hw hK
    obtain ⟨xs,hq,hx⟩:=hg
    obtain ⟨its,rv,p,hz⟩:=I.tuple hq
    obtain ⟨f0,f1,f2,f3,f4,f5⟩:=hf it (by simp)
    have hl:=rv.length
    exact wpAny_pyNext_tuple_end (I.ok.hd hc) st (show s.heap.IsTuple a its.toArray from p) (by simp; omega) fun h' eb=>⟨rfl,I.turned (t':=s.toks) (fun b o hb e=>eb b o hb e) f0 f1 f3 f4 f5⟩
  self:=fun _ _ _ _ _ st h=>wpAny_pyIter_tupleiter st h
theorem S9 {P:Program} {w:World} {K:PySem.W.Frag} {tg:Expr} (it:Addr) (lo:Int) (n:Nat):Turn P w K tg (Itr lo n) [it] it (fun i h=>IsRangeIter h it (lo+(i:Nat) * 1) ((n:Int) - (i:Nat)) 1) where
  mem:=by simp
  obj:=fun i h st b hb=>by
    have e:b=it:=by simpa using hb
    subst e
    exact ⟨_,st,fun v z=>by
      have z':Data.fields _=Data.cell v:=z
      cases z'⟩
  keep:=fun i h h' st k=>k it (by simp) _ st
  item:=by
    intro X hP hw hK hc i pins s σ H E I hf st hg
    subst hP hw hK
    obtain ⟨f0,f1,f2,f3,f4,f5⟩:=hf it (by simp)
    have W:=Walks.range (prog:=X.prog) (w:=X.w) (I.ok.hd hc) it lo 1 n
    refine W.item i s _ _ hg st fun v h' tk hv st' kk=>?_
    obtain ⟨t,rfl⟩:=hv
    have I1:Inv X pins σ H { s with heap:=h',toks:=tk }:=I.turned (fun b o hb e=>kk b o (by simpa using hb) e) f0 f1 f3 f4 f5
    refine ⟨_,rfl,a0b (s:={ s with heap:=h',toks:=tk }) (n := "range_iterator") st' rfl rfl (by decide) ⟨.int (lo+i),H,I1,⟨t,?_⟩,⟨rfl,rfl⟩,st',fun b hb=>(hf b hb).1⟩⟩
    rw [Int.mul_one]
  done:=by
    intro X hP hw hK hc i pins s σ H E I hf st hg
    subst hP hw hK
    obtain ⟨f0,f1,f2,f3,f4,f5⟩:=hf it (by simp)
    exact wpAny_pyNext_range_end (I.ok.hd hc) st (by have:n≤i:=hg; omega) fun h' eb=>⟨rfl,I.turned (t':=s.toks) (fun b o hb e=>eb b o hb e) f0 f1 f3 f4 f5⟩
  self:=fun _ _ _ _ _ st h=>wpAny_pyIter_rangeiter st h
end L2
namespace L2
open PySem PySem.Spec PyProof.Rows
noncomputable section
variable {X:Cx} {tg:Expr}
theorem Xc {pins:List (Addr × Obj)} {σ:St} {H:Hp} {s:Shared} {R:It→Hp→Prop} {E:Value→Shared→Prop} {lo hi:Int} {t u v:Tok} {tk:Nat} (I:Inv X pins σ H s) (h1:-(2 ^ 62)≤lo) (h2:lo<2 ^ 62) (h3:-(2 ^ 62)≤hi) (h4:hi<2 ^ 62)
    (q:R (Itr lo (hi - lo).toNat) H):wpAny (model X.prog X.w) X.A (pyIter (.ref s.heap.objs.size)) (PIE X pins σ tg R) E { s with heap:=s.heap.push { cls:=.type "range",data:=.fields #[.int lo t,.int hi u,.int 1 v] },toks:=tk }:=by
  refine wpAny_pyIter_range (IsRange.new ..) (small_one h1 h2 h3 h4) ?_
  have I1:Inv X pins σ H { s with heap:=s.heap.push { cls:=.type "range",data:=.fields #[.int lo t,.int hi u,.int 1 v] },toks:=tk }:=I.kept fun b o e=>Heap.get?_push_of_some _ e
  refine ⟨(s.heap.push { cls:=.type "range",data:=.fields #[.int lo t,.int hi u,.int 1 v] }).objs.size,[(s.heap.push { cls:=.type "range",data:=.fields #[.int lo t,.int hi u,.int 1 v] }).objs.size],_,_,H,rfl,
    I1.kept (t':=tk) fun b o e=>Heap.get?_push_of_some _ e,S9 _ lo (hi - lo).toNat,?_,fun b hb=>?_,q⟩
  · have e1:lo+((0:Nat):Int) * 1=lo:=by simp
    have e2:(((hi - lo).toNat:Nat):Int) - ((0:Nat):Int)=Builtin.Range.rangeSize lo hi 1:=by rw [rangeSize_one]; split <;> omega
    show IsRangeIter _ _ (lo+((0:Nat):Int) * 1) ((((hi - lo).toNat:Nat):Int) - ((0:Nat):Int)) 1
    rw [e1,e2]
    exact Heap.get?_push_size _ rfl
  · have e:b=(s.heap.push { cls:=.type "range",data:=.fields #[.int lo t,.int hi u,.int 1 v] }).objs.size:=by simpa using hb
    subst e
    exact I1.a4j (Nat.le_refl _) (I1.hok.fresh (Nat.le_refl _))
noncomputable def a6p (ta:TA):TI:=fun σ H R=>ta σ H fun vs H1=>∃ j:Int,vs=[.int j]∧-(2 ^ 62)≤j∧j<2 ^ 62∧R (Itr 0 j.toNat) H1
theorem Wt {a:Expr} {ta:TA} {p pos:Pos} (hg:Gl X "range") (hm:X.mg "range" = none) (ha:PA X [a] ta) (hs:starEach [a] X.env=[(false,eval a X.env)]:=by rfl):PI X tg (.Call (.Name "range" p) [a] [] pos) (a6p ta):=by
  intro pins s σ H R I h
  refine Call_ (Ly I hg hm boot_range (PyProof.Rows.callWith_type1 (thn (ha pos pins s σ H _ I h) fun us s1 z0=>?_) hs rfl))
  obtain ⟨vs,H1,I1,r1,q1⟩:=z0
  obtain ⟨j,e,q1,q2,q⟩:=q1
  subst e
  cases r1 with
  | cons r rr =>
    cases rr
    obtain ⟨t,rfl⟩:=r
    exact call_range_1 (Xc I1 (by omega) (by omega) q1 q2 (by simpa using q))
noncomputable def a8h (wi:TI) (g:TG) (tb:TS):TS:=fun D σ H=>wi σ H fun J H1=>∃ W:Nat→Nat→St→Hp→Prop,(∃ m,W 0 m σ H1)∧∀ i m σ H,W i m σ H →
  (J.stop i H∧D.nx σ H)∨(J.go i H∧∃ N:St→Hp→Prop,(∀ σ' H',N σ' H'→∃ m',m'<m∧W (i+1) m' σ' H')∧∀ x H',J.yld i H x H'→g x σ H' fun σ2 H2=>tb { D with nx:=N,ct:=N,bk:=D.nx } σ2 H2)
noncomputable def Ls (fp:List Addr) (h:Heap):List (Addr × Obj):=fp.filterMap fun b=>(h.get? b).map fun o=>(b,o)
theorem Bh {fp:List Addr} {h:Heap} {b:Addr} {o:Obj} (hb:b∈fp) (e:h.get? b=some o):(b,o)∈Ls fp h:=List.mem_filterMap.mpr ⟨b,hb,by rw [e]; rfl⟩
theorem Vg {fp:List Addr} {h:Heap} {p:Addr × Obj} (hp:p∈Ls fp h):p.1∈fp∧h.get? p.1=some p.2:=by
  obtain ⟨b,hb,e⟩:=List.mem_filterMap.mp hp
  cases q:h.get? b with
  | none=>rw [q] at e; cases e
  | some o =>
    rw [q] at e
    have e':(b,o)=p:=Option.some.inj e
    subst e'
    exact ⟨hb,q⟩
theorem Inv.pinned {pins:List (Addr × Obj)} {σ:St} {H:Hp} {s:Shared} {fp:List Addr} (I:Inv X pins σ H s) (hf:∀ b∈fp,M8 X pins H b) (ho:∀ b∈fp,∃ o,s.heap.get? b=some o∧∀ v,o.data≠.cell v):Inv X (pins++Ls fp s.heap) σ H s :=
  I.Vb fun p hp=>(List.mem_append.mp hp).elim (fun z=>I.pin p (List.mem_append_right _ z)) fun z=>by
    obtain ⟨hb,e⟩:=Vg z
    obtain ⟨f0,f1,f2,_⟩:=hf p.1 hb
    obtain ⟨o,e',d⟩:=ho p.1 hb
    rw [e] at e'; cases e'
    exact ⟨e,f0,f1,f2,d⟩
theorem Inv.Ec {pins pl:List (Addr × Obj)} {σ:St} {H:Hp} {s:Shared} (I:Inv X (pins++pl) σ H s):Inv X pins σ H s:=I.Vb fun p hp=>I.pin p (List.mem_append_right _ (List.mem_append_left _ hp))
theorem a4u {iter:Expr} {body:List Stmt} {wi:TI} {g:TG} {tb:TS} {pos:Pos} (hp:PassesOwn (model X.prog X.w) X.A X.env X.xe) (hc:X.calm=true) (hi:PI X tg iter wi) (hg:PG X tg g) (hb:PSs X body tb)
    (hs:∀ x,foldedSetIterable iter X.env x=pure x:=by intro _; rfl):PS X (.For tg iter body [] pos) (a8h wi g tb):=by
  intro pins s σ H D I h
  refine wpAny_For (thn (hi pins s σ H _ I h) fun v s1 h1=>thn h1 fun itv s2 h2=>?_) hs
  obtain ⟨it,fp,tn,J,H2,e,I2,T,st2,f2,W,⟨m0,w0⟩,turn⟩:=h2
  subst e
  have stat:∀ {H':Hp},(∀ b∈fp,H' b=none)→∀ b∈fp,M8 X pins H' b:=fun hn b hb=>⟨hn b hb,(f2 b hb).2⟩
  refine codeAny_forLoop_any (fun n s'=>∃ i σ' H',Inv X pins σ' H' s'∧tn i s'.heap∧(∀ b∈fp,H' b=none)∧W i n σ' H') ?_ m0 ⟨0,σ,H2,I2,st2,fun b hb=>(f2 b hb).1,w0⟩
  rintro n s3 ⟨i,σ3,H3,I3,st3,fr3,w3⟩
  rcases turn i n σ3 H3 w3 with ⟨stop,qn⟩ | ⟨go,N,hN,step⟩
  · refine wpAny_passesOwn hp (thn (T.done X rfl rfl rfl hc i pins s3 σ3 H3 X.xe I3 (stat fr3) st3 stop) fun r s4 z0=>?_)
    obtain ⟨hr,I4⟩:=z0
    subst hr
    exact wpAny_execs_nil ⟨σ3,H3,I4,qn⟩
  · refine wpAny_passesOwn hp (thn (T.item X rfl rfl rfl hc i pins s3 σ3 H3 X.xe I3 (stat fr3) st3 go) fun r s4 z0=>?_)
    obtain ⟨u,hr,h4⟩:=z0
    subst hr
    refine wpAny_passesOwn hp (thn h4 fun _ s5 z0=>?_)
    obtain ⟨x,H5,I5,r5,y5,st5,fr5⟩:=z0
    have I5':=I5.pinned (stat fr5) (T.obj _ _ st5)
    refine wpAny_passesOwn hp (thn (hg _ s5 σ3 H5 x u _ I5' r5 (step x H5 y5)) fun _ s6 z0=>?_)
    obtain ⟨σ6,H6,I6,q6⟩:=z0
    refine wpAny_passesOwn hp (thn (hb _ s6 σ6 H6 _ I6 q6) fun f s7 q7=>?_)
    have again:∀ {σ7:St} {H7:Hp},Inv X (pins++Ls fp s5.heap) σ7 H7 s7→N σ7 H7→∃ m,m<n∧∃ i σ' H',Inv X pins σ' H' s7∧tn i s7.heap∧(∀ b∈fp,H' b=none)∧W i m σ' H':=fun {σ7 H7} I7 n7=>by
      obtain ⟨m',hm,w7⟩:=hN σ7 H7 n7
      refine ⟨m',hm,i+1,σ7,H7,I7.Ec,T.keep _ _ _ st5 fun b hb o e=>(I7.pin (b,o) (List.mem_append_right _ (List.mem_append_right _ (Bh hb e)))).1,fun b hb=>?_,w7⟩
      obtain ⟨o,e,d⟩:=T.obj _ _ st5 b hb
      exact (I7.pin (b,o) (List.mem_append_right _ (List.mem_append_right _ (Bh hb e)))).2.1
    cases f with
    | next=>obtain ⟨σ7,H7,I7,n7⟩:=q7; exact again I7 n7
    | cont=>obtain ⟨σ7,H7,I7,n7⟩:=q7; exact again I7 n7
    | brk=>obtain ⟨σ7,H7,I7,q7⟩:=q7; exact ⟨σ7,H7,I7.Ec,q7⟩
    | ret v=>obtain ⟨x7,σ7,H7,I7,r7,q7⟩:=q7; exact ⟨x7,σ7,H7,I7.Ec,r7,q7⟩
end
end L2
namespace L2
open PySem PySem.Spec PyProof.Rows
noncomputable abbrev R2:=V→V→Hp→VK→Prop
noncomputable def OpR (X:Cx) (f:Value→Value→Sem Value) (r:R2):Prop :=
  ∀ (pins:List (Addr × Obj)) (s:Shared) (σ:St) (H:Hp) (x y:V) (v u:Value) (Q:VK),Inv X pins σ H s→RelV x v→RelV y u→r x y H Q →
    wpAny (model X.prog X.w) X.A (f v u) (EP X pins σ Q) X.xe s
noncomputable def UnR (X:Cx) (f:Value→Sem Value) (r:V→Hp→VK→Prop):Prop :=
  ∀ (pins:List (Addr × Obj)) (s:Shared) (σ:St) (H:Hp) (x:V) (v:Value) (Q:VK),Inv X pins σ H s→RelV x v→r x H Q →
    wpAny (model X.prog X.w) X.A (f v) (EP X pins σ Q) X.xe s
noncomputable def Cy (X:Cx) (f:Value) (r:List V→Hp→VK→Prop):Prop :=
  ∀ (pins:List (Addr × Obj)) (s:Shared) (σ:St) (H:Hp) (xs:List V) (us:List Value) (Q:VK),Inv X pins σ H s→Vals xs us→r xs H Q →
    wpAny (model X.prog X.w) X.A (call f us) (EP X pins σ Q) X.xe s
noncomputable def tOp (r:R2) (ta tb:TE):TE:=fun σ H Q=>ta σ H fun x H1=>tb σ H1 fun y H2=>r x y H2 Q
noncomputable def tUn (r:V→Hp→VK→Prop) (ta:TE):TE:=fun σ H Q=>ta σ H fun x H1=>r x H1 Q
noncomputable def rI (C:Int→Int→Prop) (g:Int→Int→V):R2:=fun x y H Q=>∃ i j,x=.int i∧y=.int j∧C i j∧Q (g i j) H
noncomputable def rI0 (g:Int→Int→V):R2:=fun x y H Q=>∃ i j,x=.int i∧y=.int j∧Q (g i j) H
noncomputable def rU (g:Int→V):V→Hp→VK→Prop:=fun x H Q=>∃ i,x=.int i∧Q (g i) H
noncomputable section
variable {X:Cx} {a b c:Expr} {ta tb tc:TE} {pos:Pos}
theorem a7j (ha:PE X a ta) (hb:PE X b tb) {pins:List (Addr × Obj)} {s:Shared} {σ:St} {H:Hp} {R:V→V→Hp→Prop} (I:Inv X pins σ H s)
    (h:ta σ H fun x H1=>tb σ H1 fun y H2=>R x y H2) {Q:Value→Shared→Prop} {f:Value→Value→Sem Value}
    (hf:∀ v u s2 x y H2,Inv X pins σ H2 s2→RelV x v→RelV y u→R x y H2→wpAny (model X.prog X.w) X.A (f v u) Q X.xe s2) :
    wpAny (model X.prog X.w) X.A (eval a X.env) (fun v s₁=>wpAny (model X.prog X.w) X.A (eval b X.env) (fun u s₂=>wpAny (model X.prog X.w) X.A (f v u) Q X.xe s₂) X.xe s₁) X.xe s:=by
  refine thn (ha pins s σ H _ I h) fun v s1 z0=>?_
  obtain ⟨x,H1,I1,r1,q1⟩:=z0
  refine thn (hb pins s1 σ H1 _ I1 q1) fun u s2 z0=>?_
  obtain ⟨y,H2,I2,r2,q2⟩:=z0
  exact hf v u s2 x y H2 I2 r1 r2 q2
theorem a6h {op:Operator} {r:R2} (ho:OpR X (binaryOp op) r) (ha:PE X a ta) (hb:PE X b tb):PE X (.BinOp a op b pos) (tOp r ta tb):=by
  intro pins s σ H Q I h
  exact wpAny_BinOp (a7j ha hb I h fun v u s2 x y H2 I2 rx ry q=>ho pins s2 σ H2 x y v u Q I2 rx ry q)
theorem a5n {op:UnaryOp} {r:V→Hp→VK→Prop} (ho:UnR X (unaryOp op) r) (ha:PE X a ta):PE X (.UnaryOp op a pos) (tUn r ta):=by
  intro pins s σ H Q I h
  exact UnaryOp_ (thn (ha pins s σ H _ I h) fun v s1 z7=>by obtain ⟨x,H1,I1,r1,q1⟩:=z7; exact ho pins s1 σ H1 x v Q I1 r1 q1)
theorem opI {f:Value→Value→Sem Value} {C:Int→Int→Prop} {g:Int→Int→Int}
    (rule:∀ (i j:Int) (t u:Tok) (s:Shared) (Q:Value→Shared→Prop) (E:Value→Shared→Prop),C i j→Q (.int (g i j) s.toks) { s with toks:=s.toks+1 }→wpAny (model X.prog X.w) X.A (f (.int i t) (.int j u)) Q E s) :
    OpR X f (rI C fun i j=>.int (g i j)):=by
  intro pins s σ H x y v u Q I rx ry h
  obtain ⟨i,j,rfl,rfl,hc,q⟩:=h
  obtain ⟨t,rfl⟩:=rx
  obtain ⟨t',rfl⟩:=ry
  exact rule i j t t' s _ _ hc ⟨.int (g i j),H,I.tok _,⟨_,rfl⟩,q⟩
theorem a7s {f:Value→Value→Sem Value} {g:Int→Int→Int}
    (rule:∀ (i j:Int) (t u:Tok) (s:Shared) (Q:Value→Shared→Prop) (E:Value→Shared→Prop),Q (.int (g i j) s.toks) { s with toks:=s.toks+1 }→wpAny (model X.prog X.w) X.A (f (.int i t) (.int j u)) Q E s) :
    OpR X f (rI0 fun i j=>.int (g i j)):=by
  intro pins s σ H x y v u Q I rx ry h
  obtain ⟨i,j,rfl,rfl,q⟩:=h
  obtain ⟨t,rfl⟩:=rx
  obtain ⟨t',rfl⟩:=ry
  exact rule i j t t' s _ _ ⟨.int (g i j),H,I.tok _,⟨_,rfl⟩,q⟩
theorem a7p {f:Value→Value→Sem Value} {g:Int→Int→Bool}
    (rule:∀ (i j:Int) (t u:Tok) (s:Shared) (Q:Value→Shared→Prop) (E:Value→Shared→Prop),Q (.bool (g i j)) s→wpAny (model X.prog X.w) X.A (f (.int i t) (.int j u)) Q E s) :
    OpR X f (rI0 fun i j=>.bl (g i j)):=by
  intro pins s σ H x y v u Q I rx ry h
  obtain ⟨i,j,rfl,rfl,q⟩:=h
  obtain ⟨t,rfl⟩:=rx
  obtain ⟨t',rfl⟩:=ry
  exact rule i j t t' s _ _ ⟨.bl (g i j),H,I,rfl,q⟩
noncomputable def a86 (i j:Int):Prop:=0≤j∧j≤1000000∧i.natAbs<2 ^ 64
noncomputable def a7e (i j:Int):Prop:=(-(2 ^ 64)<i∧i<2 ^ 64)∨(-(2 ^ 64)<j∧j<2 ^ 64)
theorem a7e.ok {i j:Int} (h:a7e i j):IntMulOk i j:=by
  rcases h with ⟨h1,h2⟩ | ⟨h1,h2⟩
  · exact .of_left (intBits_le_64 h1 h2)
  · exact .of_right (intBits_le_64 h1 h2)
theorem a4s:OpR X (binaryOp .Add) (rI0 fun i j=>.int (i+j)):=a7s fun _ _ _ _ _ _ _ q=>add_int q
theorem a3e:OpR X (binaryOp .Sub) (rI0 fun i j=>.int (i - j)):=a7s fun _ _ _ _ _ _ _ q=>sub_int q
theorem a3d:OpR X (binaryOp .Mult) (rI a7e fun i j=>.int (i * j)):=opI fun _ _ _ _ _ _ _ hc q=>mul_int q hc.ok
theorem a3j:OpR X (binaryOp .Mod) (rI (fun _ j=>0<j) fun i j=>.int (i%j)):=opI fun i j _ _ _ _ _ hc q=>by
  have h1:(0:Int)<j:=hc
  exact mod_int' (by omega) (by rw [Int.fmod_eq_emod_of_nonneg i (by omega)]; exact q)
theorem a5o:OpR X (binaryOp .Pow) (rI a86 fun i j=>.int (i ^ j.toNat)):=opI fun _ _ _ _ _ _ _ hc q=>pow_int_small hc.1 hc.2.1 hc.2.2 q
theorem unI {f:Value→Sem Value} {g:Int→Int}
    (rule:∀ (i:Int) (t:Tok) (s:Shared) (Q:Value→Shared→Prop) (E:Value→Shared→Prop),Q (.int (g i) s.toks) { s with toks:=s.toks+1 }→wpAny (model X.prog X.w) X.A (f (.int i t)) Q E s) :
    UnR X f (rU fun i=>.int (g i)):=by
  intro pins s σ H x v Q I rx h
  obtain ⟨i,rfl,q⟩:=h
  obtain ⟨t,rfl⟩:=rx
  exact rule i t s _ _ ⟨.int (g i),H,I.tok _,⟨_,rfl⟩,q⟩
theorem Zk:UnR X (unaryOp .USub) (rU fun i=>.int (-i)):=unI fun _ _ _ _ _ q=>neg_int q
end
noncomputable section
variable {X:Cx} {a b c:Expr} {ta tb tc:TE} {pos:Pos}
theorem Zj {pins:List (Addr × Obj)} {σ:St} {H:Hp} {s:Shared} {Q:VK} {k k':Bool} (I:Inv X pins σ H s) (q:Q (.bl k) H) (e:k=k'):EP X pins σ Q (.bool k') s:=by
  subst e
  exact ⟨.bl k,H,I,rfl,q⟩
theorem a7i:OpR X (compareOp .Lt) (rI0 fun i j=>.bl (decide (i<j))):=a7p fun _ _ _ _ _ _ _ q=>lt_int q
theorem a6i:OpR X (compareOp .LtE) (rI0 fun i j=>.bl (decide (i≤j))):=a7p fun _ _ _ _ _ _ _ q=>le_int q
theorem a72:OpR X (compareOp .Gt) (rI0 fun i j=>.bl (decide (j<i))):=a7p fun _ _ _ _ _ _ _ q=>gt_int q
theorem Zd:OpR X (compareOp .Is) (fun x y H Q=>y=.non∧Q (.bl (decide (x=.non))) H):=by
  intro pins s σ H x y v u Q I rx ry h
  obtain ⟨rfl,q⟩:=h
  cases ry
  refine is_none_gen (Zj I q ?_)
  cases x <;> first
    | (cases rx; rfl)
    | (obtain ⟨t,rfl⟩:=rx; rfl)
theorem a0u:OpR X (compareOp .IsNot) (fun x y H Q=>y=.non∧Q (.bl (!decide (x=.non))) H):=by
  intro pins s σ H x y v u Q I rx ry h
  obtain ⟨rfl,q⟩:=h
  cases ry
  refine isnot_none_gen (Zj I q ?_)
  cases x <;> first
    | (cases rx; rfl)
    | (obtain ⟨t,rfl⟩:=rx; rfl)
theorem OpR.or {f:Value→Value→Sem Value} {r r':R2} (h:OpR X f r) (h':OpR X f r'):OpR X f (fun x y H Q=>r x y H Q∨r' x y H Q):=by
  intro pins s σ H x y v u Q I rx ry q
  rcases q with q | q
  · exact h pins s σ H x y v u Q I rx ry q
  · exact h' pins s σ H x y v u Q I rx ry q
theorem nj (b:Expr) {op:CmpOp} (h:op≠.In:=by decide) (h2:op≠.NotIn:=by decide):behindInMarks op b=false:=by
  have e1:(op==CmpOp.In)=false:=by cases op <;> first | rfl | exact absurd rfl h
  have e2:(op==CmpOp.NotIn)=false:=by cases op <;> first | rfl | exact absurd rfl h2
  cases b <;> simp [behindInMarks,e1,e2]
theorem a2a {op:CmpOp} {r:R2} (ho:OpR X (compareOp op) r) (ha:PE X a ta) (hb:PE X b tb) (hm:behindInMarks op b=false):PE X (.Compare a [op] [b] pos) (tOp r ta tb):=by
  intro pins s σ H Q I h
  exact wpAny_Compare1 (a7j ha hb I h fun v u s2 x y H2 I2 rx ry q=>ho pins s2 σ H2 x y v u Q I2 rx ry q) hm
noncomputable def a4o (t:TE):TT:=fun σ H Q=>t σ H fun x H'=>∃ k,x=.bl k∧Q k H'
theorem a0t {op:CmpOp} {r:R2} (ho:OpR X (compareOp op) r) (ha:PE X a ta) (hb:PE X b tb) (hm:behindInMarks op b=false):PT X (.Compare a [op] [b] pos) (a4o (tOp r ta tb)):=by
  intro pins s σ H Q I h
  refine wpAny_isTrue_Compare1 (thn (ha pins s σ H _ I h) fun v s1 ⟨x,H1,I1,r1,q1⟩=>thn (hb pins s1 σ H1 _ I1 q1) fun u s2 ⟨y,H2,I2,r2,q2⟩ =>
    thn (ho pins s2 σ H2 x y v u _ I2 r1 r2 q2) fun c s3 ⟨z,H3,I3,r3,k,e,q3⟩=>?_) hm
  subst e
  cases r3
  exact wpAny_truthy_bool ⟨H3,I3,q3⟩
theorem La:(sizeLine:Nat)<2 ^ 63:=by rw [sizeLine_eq]; decide
theorem Rr:OpR X (binaryOp .Add) (fun x y H Q=>∃ i j,x=.str i∧y=.str j∧i.length+j.length≤sizeLine∧Q (.str (i++j)) H):=by
  intro pins s σ H x y v u Q I rx ry h
  obtain ⟨i,j,rfl,rfl,hz,q⟩:=h
  obtain ⟨t,rfl⟩:=rx
  obtain ⟨t',rfl⟩:=ry
  exact add_str (fun t' tk=>⟨.str (i++j),H,I.tok _,⟨_,rfl⟩,q⟩) hz
theorem vals1 {x:V} {us:List Value} (r:Vals [x] us):∃ u,us=[u]∧RelV x u:=by
  cases r with
  | cons r1 r2=>cases r2; exact ⟨_,rfl,r1⟩
theorem Xx:Cy X (.builtin "abs") (fun xs H Q=>∃ i,xs=[.int i]∧Q (.int (if i<0 then -i else i)) H):=by
  intro pins s σ H xs us Q I r h
  obtain ⟨i,rfl,q⟩:=h
  obtain ⟨u,rfl,t,rfl⟩:=vals1 r
  exact call_abs_int fun u tk=>⟨.int (if i<0 then -i else i),H,I.tok _,⟨_,rfl⟩,q⟩
theorem Lh:Cy X (.type "int") (fun xs H Q=>(∃ i,xs=[.int i]∧Q (.int i) H)∨∃ k,xs=[.bl k]∧Q (.int (if k then 1 else 0)) H):=by
  intro pins s σ H xs us Q I r h
  rcases h with ⟨i,rfl,q⟩ | ⟨k,rfl,q⟩
  · obtain ⟨u,rfl,t,rfl⟩:=vals1 r
    exact call_int_int ⟨.int i,H,I,⟨_,rfl⟩,q⟩
  · obtain ⟨u,rfl,r1⟩:=vals1 r
    cases r1
    exact call_int_bool ⟨.int (if k then 1 else 0),H,I.tok _,⟨_,rfl⟩,q⟩
end
end L2
namespace L2
open PySem PySem.Spec PyProof.Rows
structure a7n (h:Heap) (x dx C:Addr) (mA:Str→Option Value):Prop where
  obj:h.get? x=some (PySem.W.instObj C dx)
  ns:h.Ns1 dx mA
  ne:dx≠x
theorem W6 {h:Heap} {dx:Addr} {mA:Str→Option Value} (n:h.Ns1 dx mA):∃ od,h.get? dx=some od∧∀ name,PySem.W.lookIn name od=some (mA name):=by
  obtain ⟨o,es,ep,ho,hd,hk,_,hm⟩:=n
  refine ⟨o,ho,fun name=>?_⟩
  have e:=hm name
  unfold nsFind findBy at e
  rw [← Array.find?_toList] at e
  unfold PySem.W.lookIn
  rw [hd]
  dsimp only
  split
  · rename_i y q
    rw [q] at e
    exact congrArg some e
  · rename_i q
    rw [q] at e
    have a:es.toList.any (·.refKey)=false:=by
      rw [List.any_eq_false]
      intro y hy
      obtain ⟨z,t,hkey⟩:=hk y (Array.mem_toList_iff.mp hy)
      simp [DictEntry.refKey,hkey]
    have a':¬ es.toList.any (·.refKey)=true:=by rw [a]; exact Bool.false_ne_true
    rw [if_neg a']
    exact congrArg some e
theorem a7n.look {h:Heap} {x dx C:Addr} {mA:Str→Option Value} (I:a7n h x dx C mA):∃ od,PySem.W.InstAt h x (PySem.W.instObj C dx) C (some od)∧∀ name,PySem.W.lookIn name od=some (mA name) :=
  let ⟨od,ho,hl⟩:=W6 I.ns
  ⟨od,⟨I.obj,rfl,rfl,ho⟩,hl⟩
noncomputable section
variable {prog:Program} {w:World} {A:Around} {E:Value→Shared→Prop} {s:Shared} {K:PySem.W.Frag} {x dx C f:Addr} {mA:Str→Option Value} {name:Str} {v:Value}
end
theorem Mf.some_of {v:V} {o:Option Value} (r:Mf (some v) o):∃ u,o=some u∧RelV v u:=by
  cases o with
  | none=>exact (show False from r).elim
  | some u=>exact ⟨u,rfl,r⟩
theorem Mf.none_of {o:Option Value} (r:Mf none o):o=none:=by
  cases o with
  | none=>rfl
  | some u=>exact (show False from r).elim
noncomputable section
variable {P:Program} {w:World} {H H':Hp} {h h':Heap} {a C dx:Addr} {fs fs':List (Str × V)}
theorem a1k (hok:HOk P w H h) (e:H a=some (.ins C dx fs)):∃ mA,a7n h a dx C mA∧(∀ f,Mf (fs.lookup f) (mA f))∧PySem.Within mA (fs.map (·.1))∧fs.length≤1000∧H dx=some (.own a):=by
  obtain ⟨d,z,ne,ob,mA,n,r,q⟩:=(show yq P w H h a (.ins C dx fs) from hok a _ e)
  exact ⟨mA,⟨ob,n,ne⟩,r,q,z,d⟩
end
structure Cls (K:PySem.W.Frag) (C:Addr):Prop where
  pg:PySem.W.plainGet K C Str.empty=true
  hd:PySem.W.hasDictIn K C=true
  po:PySem.W.plainOver K C=true
  sa:PySem.W.findIn K (.ref C) "__setattr__" = some (some (.builtin "object.__setattr__"))
theorem Cls.get {K:PySem.W.Frag} {C:Addr} (c:Cls K C) (f:Str):PySem.W.plainGet K C f=true:=c.pg
structure Con (K:PySem.W.Frag) (C:Addr) (f:Str) (v:V) (u:Value):Prop where
  at_:PySem.W.findIn K (.ref C) f=some (some u)
  rel:RelV v u
  get:PySem.W.specialIn K u "__get__" = some none
  cp:PySem.W.copiedNames.contains f=false
structure Meth (K:PySem.W.Frag) (C:Addr) (m:Str) (f:Addr):Prop where
  at_:PySem.W.findIn K (.ref C) m=some (some (.ref f))
  fn:PySem.W.isFn K (.ref f)=true
  kp:PySem.W.keepIn K (.ref f)=true
noncomputable section
variable {X:Cx} {pins:List (Addr × Obj)} {σ:St} {H:Hp} {s:Shared} {a C dx:Addr} {fs:List (Str × V)} {f:Str} {v:V} {A:Around} {E:Value→Shared→Prop}
end
noncomputable section
variable {X:Cx} {o e value:Expr} {f:Str} {pos pos' tpos:Pos} {ta tv:TE}
end
noncomputable section
variable {X:Cx} {pins:List (Addr × Obj)} {σ:St} {H:Hp} {s:Shared} {A:Around} {E:Value→Shared→Prop} {Q:Value→Shared→Prop} {c:Value} {b:Bool}
inductive Tv (K:PySem.W.Frag) (H:Hp):V→Value→Prop where
  | non:Tv K H .non (.type "NoneType")
  | bl (x:Bool):Tv K H (.bl x) (.type "bool")
  | int (i:Int):Tv K H (.int i) (.type "int")
  | str (x:Str):Tv K H (.str x) (.type "str")
  | flt (x:UInt64):Tv K H (.flt x) (.type "float")
  | lst {a:Addr} {xs:List V} (e:H a=some (.lst xs)):Tv K H (.ref a) (.type "list")
  | frz {a:Addr} {o:Obj} {xs:List V} (e:H a=some (.frz o (.lst xs))):Tv K H (.ref a) (.type "list")
  | tup {a:Addr} {xs:List V} (e:H a=some (.tup xs)):Tv K H (.ref a) (.type "tuple")
  | dK {a:Addr} {kvs:List (Key × V)} (e:H a=some (.dK kvs)):Tv K H (.ref a) (.type "dict")
  | dT {a:Addr} {kvs:List (List Key × V)} (e:H a=some (.dT kvs)):Tv K H (.ref a) (.type "dict")
  | ins {a C dx:Addr} {fs:List (Str × V)} (e:H a=some (.ins C dx fs)) (cl:Cls K C) (ha:PySem.W.findIn K (.ref C) "__class__" = some (some (.builtin "object.__class__")))
      (hn:PySem.W.specialIn K (.builtin "object.__class__") "__get__" = some (some (.builtin "getset_descriptor.__get__"))) (htk:PySem.W.takesIn K (.builtin "object.__class__")=some true)
      (hm:PySem.W.mroIn K C (.type "object")=some true):Tv K H (.ref a) (.ref C)
theorem Ea {x:V} {u t:Value} (I:Inv X pins σ H s) (rx:RelV x u) (ty:Tv X.K H x t) (e:PySem.W.kitOne X.K t c=some b) (h:∀ tk,Q (.bool b) { s with toks:=tk }) :
    wpAny (model X.prog X.w) A (call (.builtin "isinstance") [u,c]) Q E s:=by
  cases ty with
  | non=>cases (show u=Value.none from rx); exact PySem.W.kia_one PySem.W.kitx_none I.kIn True.intro e (fun z=>nomatch z) h
  | bl y=>cases (show u=Value.bool y from rx); exact PySem.W.kia_one PySem.W.kitx_bool I.kIn True.intro e (fun z=>nomatch z) h
  | int i=>obtain ⟨t,q⟩:=(show ∃ t,u=Value.int i t from rx); cases q; exact PySem.W.kia_one PySem.W.kitx_int I.kIn True.intro e (fun z=>nomatch z) h
  | str y=>obtain ⟨t,q⟩:=(show ∃ t,u=Value.str y t from rx); cases q; exact PySem.W.kia_one PySem.W.kitx_str I.kIn True.intro e (fun z=>nomatch z) h
  | flt y=>obtain ⟨t,q⟩:=(show ∃ t,u=Value.float y t from rx); cases q; exact PySem.W.kia_one PySem.W.kitx_float I.kIn True.intro e (fun z=>nomatch z) h
  | @lst a xs ea =>
    cases (show u=Value.ref a from rx)
    obtain ⟨_,_,n,_,h1⟩:=(show yq X.prog X.w H s.heap a (.lst xs) from I.hok a _ ea)
    exact PySem.W.kia_one PySem.W.kitx_list I.kIn ⟨_,h1,rfl⟩ e (fun z=>nomatch z) h
  | @frz a ob xs ea =>
    cases (show u=Value.ref a from rx)
    obtain ⟨_,_,_,n,_,h1⟩:=(show yq X.prog X.w H s.heap a (.frz ob (.lst xs)) from I.hok a _ ea)
    exact PySem.W.kia_one PySem.W.kitx_list I.kIn ⟨_,h1,rfl⟩ e (fun z=>nomatch z) h
  | @tup a xs ea =>
    cases (show u=Value.ref a from rx)
    obtain ⟨_,_,_,p⟩:=(show yq X.prog X.w H s.heap a (.tup xs) from I.hok a _ ea)
    obtain ⟨o,h1,h2,_⟩:=p
    exact PySem.W.kia_one PySem.W.kitx_tuple I.kIn ⟨o,h1,h2⟩ e (fun z=>nomatch z) h
  | @dK a kvs ea =>
    cases (show u=Value.ref a from rx)
    obtain ⟨_,_,vs,_,p⟩:=(show yq X.prog X.w H s.heap a (.dK kvs) from I.hok a _ ea)
    obtain ⟨o,es,ep,h1,h2,_⟩:=p
    exact PySem.W.kia_one PySem.W.kitx_dict I.kIn ⟨o,h1,h2.1⟩ e (fun z=>nomatch z) h
  | @dT a kvs ea =>
    cases (show u=Value.ref a from rx)
    obtain ⟨_,_,xs,_,o,es,ep,h1,h2,_⟩:=(show yq X.prog X.w H s.heap a (.dT kvs) from I.hok a _ ea)
    exact PySem.W.kia_one PySem.W.kitx_dict I.kIn ⟨o,h1,h2.1⟩ e (fun z=>nomatch z) h
  | @ins a C dx fs ea cl ha hn htk hm =>
    cases (show u=Value.ref a from rx)
    obtain ⟨mA,O,_⟩:=a1k I.hok ea
    obtain ⟨od,J,_⟩:=O.look
    exact PySem.W.kia_one (PySem.W.kitx_own (cl.get _) cl.hd ha hn htk hm) I.kIn J e (fun z=>nomatch z) h
end
end L2
namespace L2
open PySem PySem.Spec PyProof.Rows
structure Il (k:Nat) (A:Around):Prop where
  hd:A.handled=none
  dp:A.depth+3 * k+5<recursionLimit
  un:A.units+16 * k+200<cLine
theorem Il.mono {j k:Nat} {A:Around} (r:Il k A) (h:j≤k):Il j A:=⟨r.hd,by have:=r.dp; omega,by have:=r.un; omega⟩
theorem Il.deeper {k:Nat} {A:Around} (r:Il (k+1) A) (env:Env):Il k (A.deeper env) :=
  ⟨r.hd,by have:=r.dp; show A.depth+1+3 * k+5<_; omega,by have:=r.un; show A.units+3+16 * k+200<_; omega⟩
theorem Il.depth {k:Nat} {A:Around} (r:Il k A):A.depth<recursionLimit:=by have:=r.dp; omega
theorem Il.units {k:Nat} {A:Around} (r:Il k A):A.units+64<cLine:=by have:=r.un; omega
noncomputable def a4e:TA:=fun _ H Q=>Q [] H
noncomputable def Rt (ta:TE) (tr:TA):TA:=fun σ H Q=>ta σ H fun x H1=>tr σ H1 fun xs H2=>Q (x::xs) H2
noncomputable section
variable {X:Cx} {e:Expr} {es:List Expr} {te:TE} {t:TA} {pos:Pos}
theorem Aw:PA X [] a4e:=fun _ _ _ _ H Q I h=>Calls.spliced_nil ⟨[],H,I,.nil,h⟩
theorem wj (ha:PE X e te) (hr:PA X es t) (hs:starEach (e::es) X.env=(false,eval e X.env)::starEach es X.env:=by rfl):PA X (e::es) (Rt te t):=by
  intro pos pins s σ H Q I h
  rw [hs]
  show wpAny _ _ (spliced ((false,eval e X.env)::backTo pos (starEach es X.env))) _ _ s
  refine Calls.spliced_cons (thn (ha pins s σ H _ I h) fun u s1 z0=>?_)
  obtain ⟨x,H1,I1,r1,q1⟩:=z0
  exact thn (hr pos pins s1 σ H1 _ I1 q1) fun us s2 ⟨xs,H2,I2,r2,q2⟩=>⟨x::xs,H2,I2,.cons r1 r2,q2⟩
noncomputable def a8c (t:TA):TE:=fun σ H Q=>t σ H fun xs H1=>xs.length≤sizeLine∧∀ p,H1 p=none→Q (.ref p) (upd H1 p (.tup xs))
noncomputable def a82 (t:TA):TE:=fun σ H Q=>t σ H fun xs H1=>xs.length≤sizeLine∧∀ p,H1 p=none→Q (.ref p) (upd H1 p (.lst xs))
theorem a3m {x1} (h:PA X es t):PE X (.Tuple es x1 pos) (a8c t):=by
  intro pins s σ H Q I hq
  refine wpAny_Tuple_spliced (thn (h pos pins s σ H _ I hq) fun us s1 ⟨xs,H1,I1,r,z,q⟩=>⟨by rw [← r.length]; exact z,?_⟩)
  have hf:H1 s1.heap.objs.size=none:=I1.hok.fresh (Nat.le_refl _)
  refine ⟨.ref s1.heap.objs.size,upd H1 s1.heap.objs.size (.tup xs),I1.laid (t':=s1.toks) (fun b u e=>Heap.get?_push_of_some _ e) (Nat.le_refl _) ?_,rfl,q _ hf⟩
  exact ⟨z,us,r,⟨_,Heap.get?_push_size _ rfl,rfl,rfl,_,rfl⟩⟩
theorem a01 (h:PA X es t):PE X (.List es pos) (a82 t):=by
  intro pins s σ H Q I hq
  refine wpAny_List_spliced (thn (h pos pins s σ H _ I hq) fun us s1 ⟨xs,H1,I1,r,z,q⟩=>⟨by rw [← r.length]; exact z,?_⟩)
  have hf:H1 s1.heap.objs.size=none:=I1.hok.fresh (Nat.le_refl _)
  refine ⟨.ref s1.heap.objs.size,upd H1 s1.heap.objs.size (.lst xs),I1.laid (t':=s1.toks) (fun b u e=>Heap.get?_push_of_some _ e) (Nat.le_refl _) ?_,rfl,q _ hf⟩
  exact ⟨z,us,0,r,Heap.get?_push_size _ rfl⟩
end
noncomputable abbrev Sp:=List V→Hp→VK→XK→Prop
noncomputable abbrev CXT:=List Env→Hp→Shared→XK→Value→Shared→Prop
structure a6d (P:Program) (w:World) (K:PySem.W.Frag) (mg:Str→Option Value) (base:Heap) (A:Around) (outer:List Env) (s:Shared) (H:Hp):Prop where
  frames:A.frames=some outer
  mod:Mod K mg base
  bs:∀ b o,base.get? b=some o→s.heap.get? b=some o∧H b=none
  bsz:base.objs.size≤s.heap.objs.size
  Tt:s.heap.FunFrames base outer
  frf:∀ b∈frs outer,H b=none
  hok:HOk P w H s.heap
  bare:AllBare s.gens
noncomputable def CE (outer:List Env) (P:Program) (w:World) (H:Hp) (s:Shared) (Q:VK) (u:Value) (s':Shared):Prop :=
  ∃ v H',s'.os=s.os∧AllBare s'.gens∧Un (frs outer) [] H H' s.heap s'.heap∧HOk P w H' s'.heap∧RelV v u∧Q v H'
noncomputable def CR (CX:CXT) (outer:List Env) (P:Program) (w:World) (H:Hp) (s:Shared) (Q:VK) (E:XK) (r:Result) (s':Shared):Prop :=
  match r with
  | .ok (.ret u)=>CE outer P w H s Q u s'
  | .ok _=>False
  | .error e=>CX outer H s E e s'
structure Ad (P:Program) (w:World) (K:PySem.W.Frag) (mg:Str→Option Value) (base:Heap) (CX:CXT) (k:Nat) (f:Addr) (fd:FuncData) (ps:List Str) (sp:Sp):Prop where
  len:∀ vs H Q E,sp vs H Q E→vs.length=ps.length
  run:∀ (A:Around) (outer:List Env) (s:Shared) (H:Hp) (args:Args) (us:List Value) (vs:List V) (Q:VK) (E:XK),Il k A→a6d P w K mg base A outer s H→BindsTo s fd args (ps.zip us)→Vals vs us→sp vs H Q E →
    codeAny (model P w) A (.call (.ref f) args) (CR CX outer P w H s Q E) s
theorem Ad.mono {P:Program} {w:World} {K:PySem.W.Frag} {mg:Str→Option Value} {base:Heap} {CX:CXT} {j k:Nat} {f:Addr} {fd:FuncData} {ps:List Str} {sp:Sp} (F:Ad P w K mg base CX j f fd ps sp) (h:j≤k) :
    Ad P w K mg base CX k f fd ps sp:=⟨F.len,fun A outer s H args us vs Q E hr=>F.run A outer s H args us vs Q E (hr.mono h)⟩
theorem Ad.imp {P:Program} {w:World} {K:PySem.W.Frag} {mg:Str→Option Value} {base:Heap} {CX:CXT} {k:Nat} {f:Addr} {fd:FuncData} {ps:List Str} {sp sp':Sp} (F:Ad P w K mg base CX k f fd ps sp)
    (h:∀ vs H Q E,sp' vs H Q E→sp vs H Q E):Ad P w K mg base CX k f fd ps sp' :=
  ⟨fun vs H Q E q=>F.len vs H Q E (h _ _ _ _ q),fun A outer s H args us vs Q E hr he hb hv hs=>F.run A outer s H args us vs Q E hr he hb hv (h _ _ _ _ hs)⟩
noncomputable section
variable {X:Cx} {pins:List (Addr × Obj)} {σ:St} {H:Hp} {s s':Shared}
theorem Inv.env0 (I:Inv X pins σ H s):a6d X.prog X.w X.K X.mg X.base X.A X.stack s H :=
  ⟨I.ok.frames,I.ok.mod,I.bs,Nat.le_trans I.ok.bsz I.sz,I.stack,I.U3,I.hok,I.bare⟩
theorem Inv.after {Q:VK} {u:Value} (I:Inv X pins σ H s) (h:CE X.stack X.prog X.w H s Q u s'):EP X pins σ Q u s':=by
  obtain ⟨v,H',os,bare,un,hok,r,q⟩:=h
  obtain ⟨hh,g,d,t,os'⟩:=s'
  obtain rfl:os'=s.os:=os
  exact ⟨v,H',I.call (h':=hh) (g':=g) (d':=d) (t':=t) (ch:=[]) un hok bare (fun b z=>absurd z (by simp)),r,q⟩
end
noncomputable def a6x (sp:Sp) (dvs:List V) (E:XK) (t:TA):TE:=fun σ H Q=>t σ H fun vs H1=>sp (vs++dvs) H1 Q E
noncomputable def Binds (K:PySem.W.Frag) (fd:FuncData) (ps:List Str) (ds:List Value):Prop :=
  ∀ (s:Shared) (us:List Value),K.In s.heap→(us++ds).length=ps.length→BindsTo s fd ⟨us,[]⟩ (ps.zip (us++ds))
theorem Binds.all {K:PySem.W.Frag} {fd:FuncData} {ps:List Str} (h:∀ us:List Value,us.length=ps.length→bindArgs fd ⟨us,[]⟩=pure (ps.zip us)):Binds K fd ps []:=fun s us _ hl=>by
  rw [List.append_nil] at hl ⊢
  exact .of_eq (h us hl)
noncomputable def Passes (CX:CXT) (X:Cx) (E:XK):Prop:=∀ (pins:List (Addr × Obj)) (σ:St) (H:Hp) (s:Shared) (e:Value) (s':Shared),Inv X pins σ H s→CX X.stack H s E e s'→X.xe e s'
noncomputable section
variable {X:Cx} {CX:CXT} {k:Nat} {f C:Addr} {fd:FuncData} {ps:List Str} {sp:Sp} {dvs:List V} {ds:List Value} {E:XK} {x m:Str} {p pos apos:Pos} {e o:Expr} {es:List Expr} {ta:TE} {t:TA}
theorem a6b {pins:List (Addr × Obj)} {σ:St} {H:Hp} {s:Shared} {Q:VK} {us:List Value} {vs:List V} (F:Ad X.prog X.w X.K X.mg X.base CX k f fd ps sp) (hr:Il k X.A) (hb:Binds X.K fd ps ds) (hd:Vals dvs ds) (hx:Passes CX X E)
    (I:Inv X pins σ H s) (r:Vals vs us) (h:sp (vs++dvs) H Q E):wpAny (model X.prog X.w) X.A (call (.ref f) us) (EP X pins σ Q) X.xe s:=by
  have r2:Vals (vs++dvs) (us++ds):=r.append hd
  have hl:(us++ds).length=ps.length:=by rw [← r2.length]; exact F.len _ _ _ _ h
  refine wpAny_call (codeAny_mono (F.run X.A X.stack s H ⟨us,[]⟩ (us++ds) (vs++dvs) Q E hr I.env0 (hb s us I.kIn hl) r2 h) fun r s' hq=>?_)
  cases r with
  | error e=>exact hx pins σ H s e s' I hq
  | ok fl =>
    cases fl with
    | ret u=>exact I.after hq
    | next=>exact False.elim hq
    | brk=>exact False.elim hq
    | cont=>exact False.elim hq
theorem a0p (F:Ad X.prog X.w X.K X.mg X.base CX k f fd ps sp) (hr:Il k X.A) (hg:Gl X x) (hm:X.mg x=some (.ref f)) (hk:PySem.W.keepIn X.K (.ref f)=true) (hb:Binds X.K fd ps ds) (hd:Vals dvs ds) (hx:Passes CX X E)
    (ha:PA X (e::es) t) (hdb:(x==("__debug__" : Str))=false:=by decide) (he:starEach (e::es) X.env=(false,eval e X.env)::starEach es X.env:=by rfl) (hpl:(backTo pos (starEach es X.env)).any (·.1)=false:=by rfl) :
    PE X (.Call (.Name x p) (e::es) [] pos) (a6x sp dvs E t):=by
  intro pins s σ H Q I h
  refine wpAny_Call_Name_kw (Wu I hg hm ?_ hdb)
  refine PySem.W.callWith_K (h₀:=X.base) I.ok.mod.kin hk (thn (ha pos pins s σ H _ I h) fun us s1 ⟨vs,H1,I1,r,q⟩=>⟨I1.kIn,?_⟩) he hpl
  exact a6b F hr hb hd hx I1 r q
structure Mk (K:PySem.W.Frag) (C f:Addr):Prop where
  makes:PySem.W.makesIn K C=true
  init:PySem.W.findIn K (.ref C) "__init__" = some (some (.ref f))
  fn:PySem.W.isFn K (.ref f)=true
  kp:PySem.W.keepIn K (.ref C)=true
end
noncomputable section
variable {X:Cx} {CX:CXT} {k:Nat} {f C:Addr} {fd:FuncData} {ps ks:List Str} {sp:Sp} {E:XK} {x m:Str} {p pos apos kpos:Pos} {e o:Expr} {es:List Expr} {kws:List Keyword} {te ta:TE} {t tk:TA} {nm:Option Str}
structure a7x (K:PySem.W.Frag) (fd:FuncData) (ps ks:List Str) (g:List Value→List Value→List Value) (gV:List V→List V→List V):Prop where
  to:∀ (s:Shared) (us ws:List Value),K.In s.heap→(g us ws).length=ps.length→BindsTo s fd ⟨us,ks.zip ws⟩ (ps.zip (g us ws))
  rel:∀ {vs:List V} {us:List Value} {zs:List V} {ws:List Value},Vals vs us→Vals zs ws→Vals (gV vs zs) (g us ws)
variable {g:List Value→List Value→List Value} {gV:List V→List V→List V}
end
structure mj (N P:List Str) (sc:Scope):Prop where
  kind:sc.kind=.function
  co:sc.isCoroutine=false
  gen:sc.isGenerator=false
  nd:N.Nodup
  pre:N.take P.length=P
  par:∀ x∈P,sc.names.lookup x=some .local∨sc.names.lookup x=some .cell
  nofree:∀ y∈sc.names,y.2≠.free
theorem Lg {kindOf:Str→Option NameKind} {x:Str}:∀ {binds:List (Str × Value)} {m:Str→Option Value},(∀ v,(x,v)∉binds)→bindL kindOf binds m x=m x
  | [],_,_=>rfl
  | (n,v)::r,m,h=>by
    unfold bindL
    rw [Lg fun w hw=>h w (List.mem_cons_of_mem _ hw)]
    split
    · have:x≠n:=by rintro rfl; exact h v List.mem_cons_self
      simp [this]
    · rfl
theorem M9 {kindOf:Str→Option NameKind} {x:Str}:∀ {binds:List (Str × Value)} {m:Str→Option Value},(∀ v,(x,v)∉binds)→bindC kindOf binds m x=m x
  | [],_,_=>rfl
  | (n,v)::r,m,h=>by
    unfold bindC
    rw [M9 fun w hw=>h w (List.mem_cons_of_mem _ hw)]
    split
    · rfl
    · have:x≠n:=by rintro rfl; exact h v List.mem_cons_self
      simp [this]
theorem Kl {kindOf:Str→Option NameKind} {x:Str} {v:Value}:∀ {P:List Str} {vs:List Value} {i:Nat} {m:Str→Option Value},P.Nodup→P[i]? = some x→vs[i]? = some v→kindOf x=some .local →
    bindL kindOf (P.zip vs) m x=some v
  | [],_,_,_,_,h,_,_=>by simp at h
  | _::_,[],_,_,_,_,h,_=>by simp at h
  | p::P,w::vs,0,m,nd,h1,h2,hk=>by
    simp at h1 h2; subst h1; subst h2
    show bindL kindOf ((p,w)::P.zip vs) m p=_
    unfold bindL
    rw [Lg fun v hv=>(List.nodup_cons.mp nd).1 (List.of_mem_zip hv).1,if_pos hk]
    simp
  | p::P,w::vs,i+1,m,nd,h1,h2,hk=>by
    show bindL kindOf ((p,w)::P.zip vs) m x=_
    unfold bindL
    exact Kl (i:=i) (List.nodup_cons.mp nd).2 (by simpa using h1) (by simpa using h2) hk
theorem M7 {kindOf:Str→Option NameKind} {x:Str} {v:Value}:∀ {P:List Str} {vs:List Value} {i:Nat} {m:Str→Option Value},P.Nodup→P[i]? = some x→vs[i]? = some v→kindOf x≠some .local →
    bindC kindOf (P.zip vs) m x=some v
  | [],_,_,_,_,h,_,_=>by simp at h
  | _::_,[],_,_,_,_,h,_=>by simp at h
  | p::P,w::vs,0,m,nd,h1,h2,hk=>by
    simp at h1 h2; subst h1; subst h2
    show bindC kindOf ((p,w)::P.zip vs) m p=_
    unfold bindC
    rw [M9 fun v hv=>(List.nodup_cons.mp nd).1 (List.of_mem_zip hv).1,if_neg hk]
    simp
  | p::P,w::vs,i+1,m,nd,h1,h2,hk=>by
    show bindC kindOf ((p,w)::P.zip vs) m x=_
    unfold bindC
    exact M7 (i:=i) (List.nodup_cons.mp nd).2 (by simpa using h1) (by simpa using h2) hk
noncomputable def start (N:List Str) (vs:List V):St:=vs.map some++List.replicate (N.length - vs.length) none
noncomputable def a1h (CX:CXT) (P:Program) (w:World) (K:PySem.W.Frag) (mg:Str→Option Value) (base:Heap) (N:List Str) (qual:Str) (scope:Scope) (f:Addr) (cd:Value) (A:Around) (outer:List Env) (s:Shared) (H:Hp) (E:XK):Cx where
  prog:=P
  w:=w
  K:=K
  mg:=mg
  base:=base
  A:=A.deeper (envOfC qual scope s.heap.objs.size f cd)
  N:=N
  s₀:=s
  H₀:=H
  env:=envOfC qual scope s.heap.objs.size f cd
  outer:=outer
  stack:=envOfC qual scope s.heap.objs.size f cd::outer
  ex:=[]
  calm:=true
  fn:=fun _=>true
  pn:=[]
  xe:=fun e s'=>wpAny (model P w) (A.deeper (envOfC qual scope s.heap.objs.size f cd)) (leaving (envOfC qual scope s.heap.objs.size f cd) e) (fun _ s''=>CX outer H s E e s'') (fun e' s''=>CX outer H s E e' s'') s'
theorem Pb {sc:Scope} {n:Nat} {x:Str} (h:sc.names.lookup x=some .cell):∃ c,(cellsFrom n sc.names []).lookup x=some c:=by
  have q:=PySem.W.cellsFrom_some sc.names n [] (.inl h)
  exact Option.isSome_iff_exists.mp q
theorem Vj {CX:CXT} {P:Program} {w:World} {K:PySem.W.Frag} {mg:Str→Option Value} {base:Heap} {N ps:List Str} {qual:Str} {scope:Scope} {f:Addr} {cd:Value} {A:Around} {outer:List Env} {s s1:Shared} {H:Hp} {E:XK} {us:List Value} {vs:List V}
    (S:mj N ps scope) (hd:A.handled=none) (e0:a6d P w K mg base A outer s H) (hl:vs.length=ps.length) (r:Vals vs us)
    (x:InCallC s s.heap.objs.size (bindL (envOfC qual scope s.heap.objs.size f cd).kindOf (ps.zip us) fun _=>none) (cellsFrom (s.heap.objs.size+1) scope.names []) (bindC (envOfC qual scope s.heap.objs.size f cd).kindOf (ps.zip us) fun _=>none) s1) :
    Inv (a1h CX P w K mg base N qual scope f cd A outer s H E) [] (start N vs) H s1:=by
  have hpl:ps.length≤N.length:=by have:=congrArg List.length S.pre; rw [List.length_take] at this; omega
  obtain ⟨h1,tk,rfl,hk⟩:=x.done
  have noA:∀ b:Addr,b∉(a1h CX P w K mg base N qual scope f cd A outer s H E).ex:=fun b z=>absurd (show b∈([]:List Addr) from z) (by simp)
  refine ⟨⟨e0.mod,S.kind,rfl,rfl,Nat.le_refl _,fun y z c h1 h2=>?_,fun y hy=>?_,fun y c _ h=>?_,fun _=>hd,Around.frames_deeper e0.frames,.inr ⟨rfl,rfl⟩,fun b z=>absurd z (noA b),e0.bs,e0.bsz,fun b _ _=>noA b,fun b z=>absurd z (noA b),e0.Tt,e0.frf⟩,
    rfl,e0.bare,Un.kept hk,⟨_,x.toInCall.ns,fun i y v h1 h2 h3=>?_⟩,fun y c h=>⟨_,x.cell y c h⟩,e0.hok.fresh (Nat.le_refl _),fun y c h=>?_,fun p hp=>absurd (show p∈([]:List (Addr × Obj)) from hp) (by simp),e0.hok.kept hk,?_⟩
  · exact name_of_addr x.apart (PySem.mem_of_lookup h1) (PySem.mem_of_lookup h2)
  · have hy:scope.names.lookup y=some .cell∨scope.names.lookup y=some .free:=hy
    rcases hy with hy | hy
    · exact Pb hy
    · exact absurd rfl (S.nofree _ (PySem.mem_of_lookup hy))
  · exact Nat.le_of_lt (x.above y c (PySem.mem_of_lookup h))
  · have hi:i<vs.length:=by
      unfold start at h2
      by_cases hi:i<vs.length
      · exact hi
      · rw [List.getElem?_append_right (by simpa using hi)] at h2
        rw [List.getElem?_replicate] at h2
        split at h2 <;> cases h2
    have ha:vs[i]? = some v:=by
      unfold start at h2
      rw [List.getElem?_append_left (by simpa using hi),List.getElem?_map] at h2
      cases e:vs[i]? with
      | none=>rw [e] at h2; cases h2
      | some a=>rw [e] at h2; cases h2; rfl
    obtain ⟨u,hu,rv⟩:=r.get ha
    have hp:ps[i]? = some y:=by
      rw [← S.pre,List.getElem?_take_of_lt (by omega)]; exact h1
    have ndP:ps.Nodup:=by rw [← S.pre]; exact S.nd.sublist (List.take_sublist _ _)
    refine ⟨u,rv,?_⟩
    rcases S.par y (List.mem_of_getElem? hp) with k | k
    · exact .inl ⟨k,Kl ndP hp hu k⟩
    · obtain ⟨c,e⟩:=Pb (n:=s.heap.objs.size+1) k
      refine .inr ⟨.inl k,c,e,?_⟩
      have q:=x.cell y c e
      rw [M7 ndP hp hu (by show scope.names.lookup y≠_; rw [k]; decide)] at q
      exact q
  · exact e0.hok.fresh (Nat.le_of_lt (x.above y c (PySem.mem_of_lookup h)))
  · unfold start
    show _=N.length
    rw [List.length_append,List.length_map,List.length_replicate]
    omega
theorem a6j {CX:CXT} {P:Program} {w:World} {K:PySem.W.Frag} {mg:Str→Option Value} {base:Heap} {k:Nat} {f:Addr} {name qual:Str} {params:Arguments} {body:List Stmt} {scope:Scope} {dV kV doc pm cdv ct oc:Value} {an od:Option Addr}
    {osl:Array (Option Value)} {N ps:List Str} {sp:Sp} (lk:K.lookup f=some ⟨oc,od,.func (PySem.W.fnOf name qual params body scope dV kV doc pm an cdv ct),osl⟩) (hcd:PySem.W.codeIn K cdv qual=true) (S:mj N ps scope)
    (len:∀ vs H Q E,sp vs H Q E→vs.length=ps.length)
    (hbody:∀ (A:Around) (outer:List Env) (s:Shared) (H:Hp) (vs:List V) (Q:VK) (E:XK),Il k (A.deeper (envOfC qual scope s.heap.objs.size f cdv))→sp vs H Q E →
      ∃ t,PSs (a1h CX P w K mg base N qual scope f cdv A outer s H E) body t∧t { nx:=fun _ H'=>Q .non H',rt:=Q } (start N vs) H) :
    Ad P w K mg base CX (k+1) f (PySem.W.fnOf name qual params body scope dV kV doc pm an cdv ct) ps sp:=by
  refine ⟨len,fun A outer s H args us vs Q E hr e0 hb r hsp=>?_⟩
  have hl:=len _ _ _ _ hsp
  have KX:K.In s.heap:=e0.mod.kin.keeps fun b o e=>(e0.bs b o e).1
  have lim:s.heap.NoLimit:=e0.mod.nolimit.keeps fun b o e=>(e0.bs b o e).1
  have hkind:∀ y∈ps.zip us,scope.names.lookup y.1=some .local∨(scope.names.lookup y.1=some .cell∧((cellsFrom (s.heap.objs.size+1) scope.names []).lookup y.1).isSome=true):=fun ⟨n,v⟩ hy=>by
    rcases S.par n (List.of_mem_zip hy).1 with q | q
    · exact .inl q
    · exact .inr ⟨q,PySem.W.cellsFrom_some _ _ _ (.inl q)⟩
  refine codeAny_call_function hr.depth (KX _ _ lk) rfl S.co S.gen rfl (PySem.W.codeRec_of KX hcd) (hb _ _ _ _ ?_)
  refine wpAny_newFunctionEnv_cells S.kind hkind fun env he s1 x=>?_
  subst he
  refine ⟨lim.keeps x.toInCall.keep,codeAny_func ?_⟩
  obtain ⟨t,ht,hq⟩:=hbody A outer s H vs Q E (hr.deeper _) hsp
  have I:Inv (a1h CX P w K mg base N qual scope f cdv A outer s H E) [] (start N vs) H s1:=Vj S hr.hd e0 hl r x
  refine wpAny_mono (ht [] s1 (start N vs) H _ I hq) (fun fl s' hs=>?_) fun e s' hs=>hs
  have fin:∀ {σ':St} {H':Hp} {v:V} {u:Value},Inv (a1h CX P w K mg base N qual scope f cdv A outer s H E) [] σ' H' s'→RelV v u→Q v H'→CE outer P w H s Q u s' :=
    fun {σ' H' v u} J rv q=>⟨v,H',J.os,J.bare,J.base,J.hok,rv,q⟩
  cases fl with
  | ret u =>
    obtain ⟨v,σ',H',J,rv,q⟩:=hs
    exact fin J rv q
  | next =>
    obtain ⟨σ',H',J,q⟩:=hs
    exact fin (v:=V.non) (u:=Value.none) J rfl q
  | brk =>
    obtain ⟨_,_,_,q⟩:=hs
    exact False.elim q
  | cont =>
    obtain ⟨_,_,_,q⟩:=hs
    exact False.elim q
end L2
namespace L2
open PySem PySem.Spec PyProof.Rows
noncomputable section
variable {X:Cx} {x:Str} {p pos:Pos} {e:Expr} {es:List Expr} {t:TA} {id T:String} {r:List V→Hp→VK→Prop}
noncomputable def tCB (r:List V→Hp→VK→Prop) (t:TA):TE:=fun σ H Q=>t σ H fun vs H1=>r vs H1 Q
theorem qy (hc:Cy X (.builtin id) r) (hg:Gl X x) (hm:X.mg x=none) (hv:bootBuiltins x=some (.builtin id)) (ha:PA X (e::es) t) (hn:x ≠ "__name__" := by decide) (hdb:(x==("__debug__" : Str))=false:=by decide)
    (he:starEach (e::es) X.env=(false,eval e X.env)::starEach es X.env:=by rfl) (hpl:(backTo pos (starEach es X.env)).any (·.1)=false:=by rfl):PE X (.Call (.Name x p) (e::es) [] pos) (tCB r t):=by
  intro pins s σ H Q I h
  refine wpAny_Call_Name_kw (Ly I hg hm hv ?_ hn hdb)
  exact PyProof.Rows.callWith_builtin1 (thn (ha pos pins s σ H _ I h) fun us s1 z7=>by obtain ⟨vs,H1,I1,r1,q1⟩:=z7; exact hc pins s1 σ H1 vs us Q I1 r1 q1) he hpl
theorem xu (hc:Cy X (.type T) r) (hg:Gl X x) (hm:X.mg x=none) (hv:bootBuiltins x=some (.type T)) (ha:PA X (e::es) t) (hn:x ≠ "__name__" := by decide) (hdb:(x==("__debug__" : Str))=false:=by decide)
    (he:starEach (e::es) X.env=(false,eval e X.env)::starEach es X.env:=by rfl) (hpl:(backTo pos (starEach es X.env)).any (·.1)=false:=by rfl):PE X (.Call (.Name x p) (e::es) [] pos) (tCB r t):=by
  intro pins s σ H Q I h
  refine wpAny_Call_Name_kw (Ly I hg hm hv ?_ hn hdb)
  exact PyProof.Rows.callWith_type1 (thn (ha pos pins s σ H _ I h) fun us s1 z7=>by obtain ⟨vs,H1,I1,r1,q1⟩:=z7; exact hc pins s1 σ H1 vs us Q I1 r1 q1) he hpl
end
end L2
end
noncomputable section
set_option linter.all false
set_option maxRecDepth 100000
namespace HT
open PySem PyProof.Rows
noncomputable section
open PySem.SeqAt
open PySem.AutoSeq1 (wpAny_loadPart')
open PySem.MeetsSeq PySem.MeetsSeq2 PySem.MeetsSeq3
end
noncomputable section
variable {prog:Program} {w:World} {A:Around} {E:Value→Shared→Prop} {s:Shared}
theorem a1s {t b:Addr} {vs ws:List Value} {Q:Value→Shared→Prop} (ht:IsTup s.heap t vs.toArray) (hb:IsTup s.heap b ws.toArray) (hv:vs≠[])
    (h1:ws=[]→Q (.ref t) s) (h2:ws≠[]→Q (.ref s.heap.objs.size) { s with heap:=s.heap.push { cls:=.type "tuple",data:=.seq (vs++ws).toArray } })
    (hsz:vs.length+ws.length≤sizeLine):wpAny (model prog w) A (binaryOp .Add (.ref t) (.ref b)) Q E s:=by
  obtain ⟨⟨cls,dd,data,sl⟩,ho,hc,n,hd⟩:=id ht
  obtain ⟨⟨cls2,dd2,data2,sl2⟩,ho2,hc2,n2,hd2⟩:=id hb
  simp only at hc hd hc2 hd2
  subst hc hd hc2 hd2
  have e:vs.toArray++ws.toArray=(vs++ws).toArray:=by simp
  by_cases hw:ws=[]
  · exact concat_meets ⟨_,ho,rfl⟩ ⟨_,ho2,rfl⟩ noFill_tuple_add seq_tuple_add PySem.F.slot_tuple_add PySem.F.entry_tuple_add (PySem.F.args_tuple_add_2 _ _)
      (tuple_addW1 t b vs.toArray ws.toArray n n2 dd dd2 sl sl2 (by simpa using hv) (by simp [hw])) ⟨ho,ho2,h1 hw⟩
  · refine concat_meets ⟨_,ho,rfl⟩ ⟨_,ho2,rfl⟩ noFill_tuple_add seq_tuple_add PySem.F.slot_tuple_add PySem.F.entry_tuple_add (PySem.F.args_tuple_add_2 _ _)
      (tuple_addW2 t b vs.toArray ws.toArray n n2 dd dd2 sl sl2 (by simpa using hv) (by simpa using hw) (by rw [List.size_toArray,List.size_toArray]; exact hsz)) ⟨ho,ho2,?_⟩
    rw [e]
    exact h2 hw
noncomputable def sIx (n d:Nat):Option Int→Nat
  | none=>d
  | some v=>if v<0 then (v+(n:Int)).toNat else min v.toNat n
theorem a4n (n d:Nat) (hd:d≤n) (o:Option Int):sIx n d o≤n:=by
  cases o with
  | none=>exact hd
  | some v =>
    show (if v<0 then (v+(n:Int)).toNat else min v.toNat n)≤n
    by_cases hv:v<0
    · rw [if_pos hv]; omega
    · rw [if_neg hv]; exact Nat.min_le_right _ _
theorem Uk (v:Int) (n d:Nat):(if v<0 then max (v+(n:Int)) 0 else min v (n:Int))=((sIx n d (some v):Nat):Int):=by
  show (if v<0 then max (v+(n:Int)) 0 else min v (n:Int))=(((if v<0 then (v+(n:Int)).toNat else min v.toNat n):Nat):Int)
  by_cases hv:v<0
  · simp only [if_pos hv]; omega
  · simp only [if_neg hv]; omega
theorem Ru (lo hi:Option Int) (n:Nat):Builtin.Slice.sliceAdjust lo hi 1 (n:Int)=(((sIx n 0 lo:Nat):Int),((sIx n n hi:Nat):Int)):=by
  have h1:¬ ((1:Int)<0):=by omega
  unfold Builtin.Slice.sliceAdjust
  simp only [h1,if_false]
  refine Prod.ext ?_ ?_
  · cases lo with
    | none=>rfl
    | some v=>exact Uk v n 0
  · cases hi with
    | none=>rfl
    | some v=>exact Uk v n n
theorem T3 (i j:Nat):Builtin.Slice.slicePlaces (i:Int) (j:Int) 1=j - i:=by
  unfold Builtin.Slice.slicePlaces
  have h1:(1:Int) > 0:=by omega
  simp only [h1,if_true,Int.ediv_one]
  split <;> omega
theorem Bk {v:Value} {o:Option Int} {Q:Option Int→Shared→Prop} (p:IsPart v o) (h:Q o s):wpAny (model prog w) A (Builtin.Slice.slicePartIndex v) Q E s:=by
  cases p with
  | none=>exact slicePart_none h
  | int i t=>exact slicePart_int h
theorem Fo {sl:Addr} {vl vu:Value} {lo hi:Option Int} {n:Nat} {Q:Int × Int × Nat→Shared→Prop} (hs:s.heap.IsSliceOf sl vl vu .none) (pl:IsPart vl lo) (pu:IsPart vu hi)
    (h:Q (((sIx n 0 lo:Nat):Int),1,sIx n n hi - sIx n 0 lo) s):wpAny (model prog w) A (Builtin.Slice.sliceApplied (.ref sl) (pure (n:Int))) Q E s:=by
  obtain ⟨os,hos,hcs,hds⟩:=id hs
  unfold Builtin.Slice.sliceApplied Builtin.Slice.sliceFields
  refine wpAny_bind (wpAny_bind (wpAny_field hos hds (x:=vl) rfl (wpAny_bind (wpAny_field hos hds (x:=vu) rfl (wpAny_bind (wpAny_field hos hds (x:=.none) rfl (wpAny_pure ?_)))))))
  refine wpAny_bind (slicePart_none ?_)
  show wpAny _ _ (if ((1:Int)==0)=true then _ else _) _ _ s
  rw [if_neg (by decide)]
  refine wpAny_bind (Bk pl (wpAny_bind (Bk pu (wpAny_bind (wpAny_pure ?_)))))
  show wpAny _ _ (match Builtin.Slice.sliceAdjust lo hi 1 (n:Int) with | (lo,hi)=>pure (lo,(1:Int),Builtin.Slice.slicePlaces lo hi 1)) _ _ s
  rw [Ru lo hi n]
  show wpAny _ _ (pure (((sIx n 0 lo:Nat):Int),(1:Int),Builtin.Slice.slicePlaces ((sIx n 0 lo:Nat):Int) ((sIx n n hi:Nat):Int) 1)) _ _ s
  rw [T3]
  exact wpAny_pure h
theorem Yi (xs:Array Value) (i k:Nat):((List.range k).filterMap fun (m:Nat)=>xs[((i:Int)+(m:Int) * 1).toNat]?).toArray=((xs.toList.drop i).take k).toArray:=by
  have e:(fun (m:Nat)=>xs[((i:Int)+(m:Int) * 1).toNat]?)=fun m=>xs[i+m]?:=by
    funext m
    have:((i:Int)+(m:Int) * 1).toNat=i+m:=by omega
    rw [this]
  rw [e]
  have:=pick_run xs i k
  rw [List.filterMap_map] at this
  have e2:((fun x=>xs[x]?) ∘ fun x=>i+x)=fun m=>xs[i+m]?:=rfl
  rw [e2] at this
  rw [this]
theorem Ep {t sl:Addr} {items:Array Value} {vl vu:Value} {lo hi:Option Int} {Q:Value→Shared→Prop} (ht:IsTup s.heap t items) (hs:s.heap.IsSliceOf sl vl vu .none) (pl:IsPart vl lo) (pu:IsPart vu hi)
    (hw:¬ (sIx items.size 0 lo=0∧sIx items.size items.size hi=items.size))
    (h:Q (.ref s.heap.objs.size) { s with heap:=s.heap.push { cls:=.type "tuple",data:=.seq ((items.toList.drop (sIx items.size 0 lo)).take (sIx items.size items.size hi - sIx items.size 0 lo)).toArray } })
    (hsz:items.size≤sizeLine):wpAny (model prog w) A (getItem (.ref t) (.ref sl)) Q E s:=by
  have htake:sizeOk (.seq ((items.toList.drop (sIx items.size 0 lo)).take (sIx items.size items.size hi - sIx items.size 0 lo)).toArray):=by
    show ((items.toList.drop (sIx items.size 0 lo)).take (sIx items.size items.size hi - sIx items.size 0 lo)).toArray.size≤sizeLine
    rw [List.size_toArray,List.length_take,List.length_drop,Array.length_toList]
    omega
  have hj:sIx items.size items.size hi≤items.size:=a4n _ _ (Nat.le_refl _) hi
  obtain ⟨os,hos,hcs,hds⟩:=id hs
  have hTs:s.TypeIs (.ref sl) "slice" := ⟨os,hos,hcs⟩
  unfold getItem
  try with_reducible refine wpAny_holding ?_
  first | refine wpAny_bind (wpAny_pure ?_) | skip
  refine wpAny_bind (wpAny_sequenceKey ht.typeIs (by decide) ?_)
  refine wpAny_bind (wpAny_callSpecial?_slot (name:=Str.ofString "__getitem__") ht.typeIs PyProof.Rows.slot_tuple_getitem
    (wpAny_call_entry PyProof.Rows.slot_tuple_getitem ht.typeIs entry_tuple_getitem ?_ (args_tuple_getitem _ _)))
  show wpAny _ _ (Builtin.Tuple.tupleItemsOf (.ref t) >>= _) _ _ s
  refine wpAny_bind (tupleItemsOf_ ht ?_)
  refine wpAny_bind (wpAny_typeOf hTs ?_)
  rw [if_pos (by decide)]
  refine wpAny_bind (Fo hs pl pu ?_)
  have hno:¬ ((((sIx items.size 0 lo:Nat):Int)==0&&(1:Int)==1&&(sIx items.size items.size hi - sIx items.size 0 lo)==items.size)=true):=by
    intro q
    rw [Bool.and_eq_true,Bool.and_eq_true] at q
    have q1:((sIx items.size 0 lo:Nat):Int)=0:=eq_of_beq q.1.1
    have q2:sIx items.size items.size hi - sIx items.size 0 lo=items.size:=eq_of_beq q.2
    exact hw ⟨by omega,by omega⟩
  show wpAny _ _ (if (((sIx items.size 0 lo:Nat):Int)==0&&(1:Int)==1&&(sIx items.size items.size hi - sIx items.size 0 lo)==items.size)=true then _ else _) _ _ s
  rw [if_neg hno,Yi]
  first
    | exact wpAny_bind (m:=Builtin.Tuple.tupleExact _) (wpAny_newObj_type (wpAny_pure ⟨_,rfl,wpAny_pure h⟩) htake)
    | exact wpAny_bind (m:=Builtin.Tuple.tupleExact _) (wpAny_newObj_type (wpAny_bind (wpAny_pure (wpAny_pure ⟨_,rfl,wpAny_pure h⟩))) htake)
    | exact wpAny_bind (wpAny_bind (m:=Builtin.Tuple.tupleExact _) (wpAny_newObj_type (wpAny_pure (wpAny_pure ⟨_,rfl,wpAny_pure h⟩)) htake))
    | exact wpAny_bind (wpAny_bind (m:=Builtin.Tuple.tupleExact _) (wpAny_newObj_type (wpAny_pure ⟨_,rfl,wpAny_pure h⟩) htake))
end
end HT
namespace L2
open PySem PySem.Spec PyProof.Rows
noncomputable abbrev TO:=St→Hp→(Option Int→Hp→Prop)→Prop
noncomputable def PO (X:Cx) (e:Option Expr) (t:TO):Prop :=
  ∀ (pins:List (Addr × Obj)) (s:Shared) (σ:St) (H:Hp) (Q:Option Int→Hp→Prop),Inv X pins σ H s→t σ H Q →
    wpAny (model X.prog X.w) X.A (evalPart e X.env) (fun u s'=>∃ o H',Inv X pins σ H' s'∧IsPart u o∧Q o H') X.xe s
noncomputable def a2c:TO:=fun _ H Q=>Q none H
noncomputable def a6y (t:TE):TO:=fun σ H Q=>t σ H fun x H1=>∃ i,x=.int i∧Q (some i) H1
noncomputable section
variable {X:Cx} {e:Expr} {te:TE} {lo hi:Option Expr} {tl th:TO} {pos p2:Pos}
theorem a0z:PO X none a2c:=by
  intro pins s σ H Q I h
  rw [evalPart_none]
  exact wpAny_pure ⟨none,H,I,.none,h⟩
theorem a1r (h:PE X e te):PO X (some e) (a6y te):=by
  intro pins s σ H Q I hw
  rw [evalPart_some]
  refine thn (h pins s σ H _ I hw) fun u s1 z0=>?_
  obtain ⟨x,H1,I1,r1,q1⟩:=z0
  obtain ⟨i,rfl,q⟩:=q1
  obtain ⟨t,rfl⟩:=r1
  exact ⟨some i,H1,I1,.int i t,q⟩
noncomputable def SlR (X:Cx) (r:V→Option Int→Option Int→Hp→VK→Prop):Prop :=
  ∀ (pins:List (Addr × Obj)) (s:Shared) (σ:St) (H:Hp) (x:V) (v vl vu:Value) (lo hi:Option Int) (sl:Addr) (Q:VK),Inv X pins σ H s→RelV x v→s.heap.IsSliceOf sl vl vu .none→IsPart vl lo→IsPart vu hi→r x lo hi H Q →
    ∃ T id,typeLookup (.type T) "__getitem__" = pure (some (.builtin id))∧s.TypeIs v T∧wpAny (model X.prog X.w) X.A (getItem v (.ref sl)) (EP X pins σ Q) X.xe s
theorem SlR.or {r r':V→Option Int→Option Int→Hp→VK→Prop} (h:SlR X r) (h':SlR X r'):SlR X (fun x lo hi H Q=>r x lo hi H Q∨r' x lo hi H Q):=by
  intro pins s σ H x v vl vu lo hi sl Q I rx hs pl pu q
  rcases q with q | q
  · exact h pins s σ H x v vl vu lo hi sl Q I rx hs pl pu q
  · exact h' pins s σ H x v vl vu lo hi sl Q I rx hs pl pu q
noncomputable def tSl (r:V→Option Int→Option Int→Hp→VK→Prop) (te:TE) (tl th:TO):TE:=fun σ H Q=>te σ H fun x H1=>tl σ H1 fun l H2=>th σ H2 fun u H3=>r x l u H3 Q
theorem Yb {r:V→Option Int→Option Int→Hp→VK→Prop} (hr:SlR X r) (he:PE X e te) (hl:PO X lo tl) (hu:PO X hi th):PE X (.Subscript e (.Slice lo hi none p2) pos) (tSl r te tl th):=by
  intro pins s σ H Q I h
  refine Subscript_ (thn (he pins s σ H _ I h) fun v s1 z0=>?_)
  obtain ⟨x,H1,I1,r1,q1⟩:=z0
  refine wpAny_Slice (thn (hl pins s1 σ H1 _ I1 q1) fun vl s2 ⟨l,H2,I2,pl,q2⟩=>thn (hu pins s2 σ H2 _ I2 q2) fun vu s3 ⟨u,H3,I3,pu,q3⟩=>?_)
  rw [evalPart_none]
  refine wpAny_pure ?_
  have I4:Inv X pins σ H3 { s3 with heap:=s3.heap.push { cls:=.type "slice",data:=.fields #[vl,vu,.none] } }:=I3.kept (t':=s3.toks) fun b ob q=>Heap.get?_push_of_some _ q
  obtain ⟨T,id,hT,ht,hg⟩:=hr pins { s3 with heap:=s3.heap.push { cls:=.type "slice",data:=.fields #[vl,vu,.none] } } σ H3 x v vl vu l u s3.heap.objs.size Q I4 r1 (Heap.IsSliceOf.new ..) pl pu q3
  show wpAny (model X.prog X.w) X.A (subscriptTail e (.Slice lo hi none p2) v (.ref s3.heap.objs.size)) (EP X pins σ Q) X.xe { s3 with heap:=s3.heap.push { cls:=.type "slice",data:=.fields #[vl,vu,.none] } }
  exact tail_any (ops:=[.ref s3.heap.objs.size,v]) ht hT hg (by with_unfolding_all rfl)
noncomputable def X6 (xs:List V) (lo hi:Option Int):List V:=(xs.drop (HT.sIx xs.length 0 lo)).take (HT.sIx xs.length xs.length hi - HT.sIx xs.length 0 lo)
theorem G9 (xs:List V) (lo hi:Option Int):(X6 xs lo hi).length≤xs.length:=by
  unfold X6
  rw [List.length_take,List.length_drop]
  omega
noncomputable def a8f (K:PySem.W.Frag):V→Option Int→Option Int→Hp→VK→Prop:=fun x lo hi H Q=>∃ a xs,x=.ref a∧SqT K H a xs ∧
  ¬ (HT.sIx xs.length 0 lo=0∧HT.sIx xs.length xs.length hi=xs.length)∧∀ p,H p=none→Q (.ref p) (upd H p (.tup (X6 xs lo hi)))
theorem a4h:SlR X (a8f X.K):=by
  intro pins s σ H x v vl vu lo hi sl Q I rx hs pl pu h
  obtain ⟨a,xs,rfl,hx,hw,q⟩:=h
  cases rx
  obtain ⟨its,r,ht,hz⟩:=I.tuple hx
  have hlen:its.toArray.size=xs.length:=by rw [List.size_toArray]; exact r.length.symm
  refine ⟨"tuple",_,PyProof.Rows.slot_tuple_getitem.lookup,ht.typeIs,?_⟩
  refine HT.Ep ht hs pl pu (by rw [hlen]; exact hw) ?_ (by rw [hlen]; exact hz)
  rw [hlen]
  refine ⟨.ref s.heap.objs.size,_,I.laid (t':=s.toks) (o:=.tup (X6 xs lo hi)) (fun b ob q=>Heap.get?_push_of_some _ q) (Nat.le_refl _) ?_,rfl,q _ (I.hok.fresh (Nat.le_refl _))⟩
  exact ⟨Nat.le_trans (G9 xs lo hi) hz,_,(r.drop (HT.sIx xs.length 0 lo)).take (HT.sIx xs.length xs.length hi - HT.sIx xs.length 0 lo),Xd.new _ _⟩
noncomputable def a6z (K:PySem.W.Frag):R2:=fun x y H Q=>∃ a b xs ys,x=.ref a∧y=.ref b∧SqT K H a xs∧SqT K H b ys∧xs≠[]∧xs.length+ys.length≤sizeLine ∧
  (ys=[]→Q (.ref a) H)∧(ys≠[]→∀ p,H p=none→Q (.ref p) (upd H p (.tup (xs++ys))))
theorem Vals.Oo {xs:List V} {us:List Value} (r:Vals xs us):us=[]↔xs=[]:=by
  cases r with
  | nil=>simp
  | cons _ _=>simp
theorem a0s:OpR X (binaryOp .Add) (a6z X.K):=by
  intro pins s σ H x y v u Q I rx ry h
  obtain ⟨a,b,xs,ys,rfl,rfl,ha,hb,hx,hz,q1,q2⟩:=h
  cases rx
  cases ry
  obtain ⟨its,r1,p1,_⟩:=I.tuple ha
  obtain ⟨its2,r2,p2,_⟩:=I.tuple hb
  refine HT.a1s p1 p2 (fun z=>hx (r1.Oo.mp z)) (fun z=>⟨.ref a,H,I,rfl,q1 (r2.Oo.mp z)⟩) (fun z=>?_) (by rw [← r1.length,← r2.length]; exact hz)
  refine ⟨.ref s.heap.objs.size,_,I.laid (t':=s.toks) (o:=.tup (xs++ys)) (fun b ob q=>Heap.get?_push_of_some _ q) (Nat.le_refl _) ?_,rfl,q2 (fun w=>z (r2.Oo.mpr w)) _ (I.hok.fresh (Nat.le_refl _))⟩
  exact ⟨by rw [List.length_append]; exact hz,_,r1.append r2,Xd.new _ _⟩
end
end L2
namespace L2
open PySem PySem.Spec PyProof.Rows
noncomputable def ixN (n:Nat) (i:Int):Option Nat:=if 0≤i then (if i<n then some i.toNat else none) else if -(n:Int)≤i then some (i+n).toNat else none
noncomputable def atI {α:Type} (xs:List α) (i:Int):Option α:=(ixN xs.length i).bind fun j=>xs[j]?
theorem a0q {n:Nat} {i:Int} {j:Nat} (h:ixN n i=some j):seqIndex? i n=some j∧j<n∧-(n:Int)≤i∧i<n:=by
  unfold ixN at h
  by_cases h0:0≤i
  · rw [if_pos h0] at h
    by_cases h1:i<n
    · rw [if_pos h1] at h
      have e:i.toNat=j:=Option.some.inj h
      exact ⟨by rw [seqIndex_of h0 h1,e],by omega,by omega,h1⟩
    · rw [if_neg h1] at h; cases h
  · rw [if_neg h0] at h
    by_cases h1:-(n:Int)≤i
    · rw [if_pos h1] at h
      have e:(i+n).toNat=j:=Option.some.inj h
      exact ⟨by rw [seqIndex_neg (by omega) h1,e],by omega,h1,by omega⟩
    · rw [if_neg h1] at h; cases h
theorem Mz {α:Type} {xs:List α} {i:Int} {v:α} (h:atI xs i=some v):∃ j,seqIndex? i xs.length=some j∧xs[j]? = some v∧j<xs.length∧-(xs.length:Int)≤i∧i<xs.length:=by
  unfold atI at h
  cases e:ixN xs.length i with
  | none=>rw [e] at h; cases h
  | some j =>
    rw [e] at h
    obtain ⟨h1,h2,h3,h4⟩:=a0q e
    exact ⟨j,h1,h,h2,h3,h4⟩
noncomputable def Vt (b:Expr):Prop:=∀ o i,subscripted b false o i=operate [o,i] (getItem o i)
noncomputable def IxR (X:Cx) (r:R2):Prop :=
  ∀ (value slice:Expr) (pins:List (Addr × Obj)) (s:Shared) (σ:St) (H:Hp) (x y:V) (v u:Value) (Q:VK),Inv X pins σ H s→RelV x v→RelV y u→r x y H Q →
    subscripted slice false v u=operate [v,u] (getItem v u)→wpAny (model X.prog X.w) X.A (subscriptTail value slice v u) (EP X pins σ Q) X.xe s
noncomputable def MtR (X:Cx) (id:String) (r:V→List V→Hp→VK→Prop):Prop :=
  ∀ (pins:List (Addr × Obj)) (s:Shared) (σ:St) (H:Hp) (x:V) (xs:List V) (v:Value) (us:List Value) (Q:VK),Inv X pins σ H s→RelV x v→Vals xs us→r x xs H Q →
    wpAny (model X.prog X.w) X.A (call (.builtin id) (v::us)) (EP X pins σ Q) X.xe s
noncomputable section
variable {X:Cx} {a b:Expr} {ta tb:TE} {pos:Pos}
theorem IxR.or {r r':R2} (h:IxR X r) (h':IxR X r'):IxR X (fun x y H Q=>r x y H Q∨r' x y H Q):=by
  intro value slice pins s σ H x y v u Q I rx ry q hs
  rcases q with q | q
  · exact h value slice pins s σ H x y v u Q I rx ry q hs
  · exact h' value slice pins s σ H x y v u Q I rx ry q hs
theorem MtR.or {id:String} {r r':V→List V→Hp→VK→Prop} (h:MtR X id r) (h':MtR X id r'):MtR X id (fun x xs H Q=>r x xs H Q∨r' x xs H Q):=by
  intro pins s σ H x xs v us Q I rx rs q
  rcases q with q | q
  · exact h pins s σ H x xs v us Q I rx rs q
  · exact h' pins s σ H x xs v us Q I rx rs q
theorem a73 {r:R2} (hr:IxR X r) (ha:PE X a ta) (hb:PE X b tb) (hs:Vt b):PE X (.Subscript a b pos) (tOp r ta tb):=by
  intro pins s σ H Q I h
  exact Subscript_ (a7j ha hb I h fun v u s2 x y H2 I2 rx ry q=>hr a b pins s2 σ H2 x y v u Q I2 rx ry q (hs _ _))
noncomputable def a8d (K:PySem.W.Frag):R2:=fun x y H Q=>∃ p xs i v,x=.ref p∧y=.int i∧SqL K H p xs∧atI xs i=some v∧Q v H
noncomputable def a7z (K:PySem.W.Frag):R2:=fun x y H Q=>∃ p xs i v,x=.ref p∧y=.int i∧SqT K H p xs∧atI xs i=some v∧Q v H
noncomputable def a80:R2:=fun x y H Q=>∃ z i c,x=.str z∧y=.int i∧z.length≤sizeLine∧atI z.cps.toList i=some c∧Q (.str ⟨#[c]⟩) H
theorem a1b:IxR X (a8d X.K):=by
  intro value slice pins s σ H x y v u Q I rx ry h hs
  obtain ⟨p,xs,i,z,rfl,rfl,hq,he,q⟩:=h
  cases rx
  obtain ⟨t,rfl⟩:=ry
  obtain ⟨its,r,pl,hz⟩:=I.list hq
  obtain ⟨j,h1,h2,h3,h4,h5⟩:=Mz he
  obtain ⟨w,ew,rw'⟩:=r.get h2
  have hl:=r.length
  have hn:=La
  have fin:EP X pins σ Q w s:=⟨z,H,I,rw',q⟩
  by_cases h0:0≤i
  · have hj:i.toNat=j:=by
      rw [seqIndex_of h0 h5] at h1
      exact Option.some.inj h1
    exact item_listR pl.isList h0 (by omega) (by rw [hj]; simpa using ew) fin hs
  · have hj:(i+(its.toArray.size:Int)).toNat=j:=by
      rw [seqIndex_neg (by omega) h4] at h1
      rw [List.size_toArray,← hl]
      exact Option.some.inj h1
    exact subscriptTail_builtinR (x:=w) pl.isList.typeIs slot_list_getitem.lookup
      (wpAny_getItem_list_neg (Q:=fun r s'=>r=w∧EP X pins σ Q r s') pl.isList (by omega) (by rw [List.size_toArray] <;> omega) (by omega) (by rw [hj]; simpa using ew) ⟨rfl,fin⟩) hs
theorem a5b:IxR X (a7z X.K):=by
  intro value slice pins s σ H x y v u Q I rx ry h hs
  obtain ⟨p,xs,i,z,rfl,rfl,hq,he,q⟩:=h
  cases rx
  obtain ⟨t,rfl⟩:=ry
  obtain ⟨its,r,pl,hz⟩:=I.tuple hq
  obtain ⟨j,h1,h2,h3,h4,h5⟩:=Mz he
  obtain ⟨w,ew,rw'⟩:=r.get h2
  have hl:=r.length
  have hn:=La
  have fin:EP X pins σ Q w s:=⟨z,H,I,rw',q⟩
  exact subscriptTail_builtinR (x:=w) pl.typeIs slot_tuple_getitem.lookup
    (getItem_tuple (j:=j) (Q:=fun r s'=>r=w∧EP X pins σ Q r s') pl (by omega) (by omega) (by rw [List.size_toArray,← hl]; exact h1) (by simpa using ew) ⟨rfl,fin⟩) hs
theorem a4r:IxR X a80:=by
  intro value slice pins s σ H x y v u Q I rx ry h hs
  obtain ⟨z,i,c,rfl,rfl,hz,he,q⟩:=h
  obtain ⟨t,rfl⟩:=rx
  obtain ⟨t',rfl⟩:=ry
  obtain ⟨j,h1,h2,h3,h4,h5⟩:=Mz he
  have hl:z.cps.toList.length=z.length:=by simp [Str.length]
  rw [hl] at h1 h4 h5
  have hn:=La
  exact tail_any (typeIs_str s z t) slot_str_getitem.lookup (getItem_str (c:=c) (by
    have e1:decide (i < -(2 ^ 63:Int))=false:=decide_eq_false (by omega)
    have e2:decide (i ≥ 2 ^ 63)=false:=decide_eq_false (by omega)
    rw [e1,e2,Bool.or_false]) (by rw [h1]; simpa using h2) ⟨.str ⟨#[c]⟩,H,I.tok _,⟨_,rfl⟩,q⟩) hs
theorem Inv.lst {pins:List (Addr × Obj)} {σ:St} {H:Hp} {s:Shared} {p:Addr} {xs:List V} (I:Inv X pins σ H s) (h:H p=some (.lst xs)) :
    ∃ (its:List Value) (n:Nat),Vals xs its∧s.heap.get? p=some { cls:=.type "list",data:=.seq its.toArray n }∧xs.length≤sizeLine:=by
  obtain ⟨z,its,n,r,e⟩:=I.hok p _ h
  exact ⟨its,n,r,e,z⟩
theorem Lk (lo hi:Option Int) (n:Nat):(sliceBounds lo hi none n).1=((HT.sIx n 0 lo:Nat):Int)∧(sliceBounds lo hi none n).2.1=((HT.sIx n n hi:Nat):Int)∧(sliceBounds lo hi none n).2.2=1:=by
  refine ⟨?_,?_,rfl⟩
  · cases lo with
    | none=>simp [sliceBounds,HT.sIx]
    | some i =>
      simp only [sliceBounds,HT.sIx,Option.getD_none,show (1:Int) > 0 by decide,if_true]
      by_cases h:i<0
      · simp only [h,if_true] <;> omega
      · simp only [h,if_false] <;> omega
  · cases hi with
    | none=>simp [sliceBounds,HT.sIx]
    | some i =>
      simp only [sliceBounds,HT.sIx,Option.getD_none,show (1:Int) > 0 by decide,if_true]
      by_cases h:i<0
      · simp only [h,if_true] <;> omega
      · simp only [h,if_false] <;> omega
theorem Jk (its:List Value) (lo hi:Option Int):slicePick its.toArray lo hi none=((its.drop (HT.sIx its.length 0 lo)).take (HT.sIx its.length its.length hi - HT.sIx its.length 0 lo)).toArray:=by
  obtain ⟨h1,h2,h3⟩:=Lk lo hi its.toArray.size
  unfold slicePick
  rw [h1,h2,h3]
  simp only [sliceRange_one,pick_run,List.size_toArray] <;> rfl
noncomputable def a88 (K:PySem.W.Frag):V→Option Int→Option Int→Hp→VK→Prop:=fun x lo hi H Q=>∃ a xs,x=.ref a∧SqL K H a xs∧∀ p,H p=none→Q (.ref p) (upd H p (.lst (X6 xs lo hi)))
theorem a0g:SlR X (a88 X.K):=by
  intro pins s σ H x v vl vu lo hi sl Q I rx hs pl pu h
  obtain ⟨a,xs,rfl,hx,q⟩:=h
  cases rx
  obtain ⟨its,r,ht,hz⟩:=I.list hx
  have hlen:=r.length
  refine ⟨"list",_,slot_list_getitem.lookup,ht.isList.typeIs,?_⟩
  refine wpAny_getItem_list_slice ht.isList hs pl pu .none (by simp) ?_ (by rw [List.size_toArray] <;> omega)
  rw [Jk,← hlen]
  refine ⟨.ref s.heap.objs.size,_,I.laid (t':=s.toks) (o:=.lst (X6 xs lo hi)) (fun b ob q=>Heap.get?_push_of_some _ q) (Nat.le_refl _) ?_,rfl,q _ (I.hok.fresh (Nat.le_refl _))⟩
  exact ⟨Nat.le_trans (G9 xs lo hi) hz,_,0,(r.drop (HT.sIx xs.length 0 lo)).take (HT.sIx xs.length xs.length hi - HT.sIx xs.length 0 lo),Heap.get?_push_size _ rfl⟩
theorem Ci:Cy X (.builtin "len") (fun xs H Q=>∃ p ys,xs=[.ref p]∧(SqL X.K H p ys∨SqT X.K H p ys)∧Q (.int ys.length) H):=by
  intro pins s σ H xs us Q I r h
  obtain ⟨p,ys,rfl,hq,q⟩:=h
  obtain ⟨u,rfl,rx⟩:=vals1 r
  cases rx
  have hn:=La
  rcases hq with hq | hq
  · obtain ⟨its,r',pl,hz⟩:=I.list hq
    have hlen:=r'.length
    exact Calls.call_len_list pl.isList (by simp only [List.size_toArray] <;> omega) ⟨.int ys.length,H,I.tok _,⟨s.toks+1,by rw [List.size_toArray,hlen]⟩,q⟩
  · obtain ⟨its,r',pl,hz⟩:=I.tuple hq
    have hlen:=r'.length
    exact len_tuple pl (by simp only [List.size_toArray] <;> omega) ⟨.int ys.length,H,I.tok _,⟨s.toks+1,by rw [List.size_toArray,hlen]⟩,q⟩
theorem Kz:Cy X (.builtin "len") (fun xs H Q=>∃ z,xs=[.str z]∧z.length≤sizeLine∧Q (.int z.length) H):=by
  intro pins s σ H xs us Q I r h
  obtain ⟨z,rfl,hz,q⟩:=h
  obtain ⟨u,rfl,t,rfl⟩:=vals1 r
  have hn:=La
  exact len_str (by omega) ⟨.int z.length,H,I.tok _,⟨_,rfl⟩,q⟩
theorem Cy.or {f:Value} {r r':List V→Hp→VK→Prop} (h:Cy X f r) (h':Cy X f r'):Cy X f (fun xs H Q=>r xs H Q∨r' xs H Q):=by
  intro pins s σ H xs us Q I rs q
  rcases q with q | q
  · exact h pins s σ H xs us Q I rs q
  · exact h' pins s σ H xs us Q I rs q
theorem Cu:Cy X (.type "list") (fun xs H Q=>∃ p ys,xs=[.ref p]∧(SqL X.K H p ys∨SqT X.K H p ys)∧∀ l,H l=none→Q (.ref l) (upd H l (.lst ys))):=by
  intro pins s σ H xs us Q I r h
  obtain ⟨p,ys,rfl,hq,q⟩:=h
  obtain ⟨u,rfl,rx⟩:=vals1 r
  cases rx
  have fin:∀ (its:List Value),Vals ys its→ys.length≤sizeLine→∀ (h':Heap) (c':Nat),(∀ b o',s.heap.get? b=some o'→h'.get? b=some o') →
      h'.get? s.heap.objs.size=some { cls:=.type "list",dict:=none,data:=.seq its.toArray c',slots:=#[] }→EP X pins σ Q (.ref s.heap.objs.size) { s with heap:=h' }:=fun its r' hz h' c' kp e =>
    ⟨.ref s.heap.objs.size,_,I.laid (t':=s.toks) kp (Nat.le_refl _) (show yq X.prog X.w _ h' _ (.lst ys) from ⟨hz,its,c',r',e⟩),rfl,q _ (I.hok.fresh (Nat.le_refl _))⟩
  rcases hq with hq | hq
  · obtain ⟨its,r',pl,hz⟩:=I.list hq
    have hlen:=r'.length
    obtain ⟨o,ho,hc,n,hd⟩:=pl.isList
    exact call_list_seq p (.inl rfl) ho hc hd (fun h' c' kp e=>fin its r' hz h' c' kp e) (by simp only [List.size_toArray] <;> omega)
  · obtain ⟨its,r',pl,hz⟩:=I.tuple hq
    have hlen:=r'.length
    obtain ⟨o,ho,hc,n,hd⟩:=pl
    exact call_list_seq p (.inr rfl) ho hc hd (fun h' c' kp e=>fin its r' hz h' c' kp e) (by simp only [List.size_toArray] <;> omega)
theorem Ej:Cy X (.type "tuple") (fun xs H Q=>∃ p ys,xs=[.ref p]∧((SqL X.K H p ys∧∀ l,H l=none→Q (.ref l) (upd H l (.tup ys)))∨(SqT X.K H p ys∧Q (.ref p) H))):=by
  intro pins s σ H xs us Q I r h
  obtain ⟨p,ys,rfl,h⟩:=h
  obtain ⟨u,rfl,rx⟩:=vals1 r
  cases rx
  rcases h with ⟨hq,q⟩ | ⟨hq,q⟩
  · obtain ⟨its,r',pl,hz⟩:=I.list hq
    have hlen:=r'.length
    refine call_tuple_list pl.isList (fun h' kp=>?_) (by simp only [List.size_toArray] <;> omega)
    have I1:Inv X pins σ H { s with heap:=h' }:=I.kept (t':=s.toks) kp
    have I2:Inv X pins σ (upd H h'.objs.size (.tup ys)) { s with heap:=h'.push { cls:=.type "tuple",data:=.seq its.toArray } } :=
      I1.laid (t':=s.toks) (fun b o e=>Heap.get?_push_of_some _ e) (Nat.le_refl _) (show yq X.prog X.w _ _ _ (.tup ys) from ⟨hz,its,r',Xd.new _ _⟩)
    exact ⟨.ref h'.objs.size,_,I2,rfl,q _ (I1.hok.fresh (Nat.le_refl _))⟩
  · obtain ⟨its,r',pl,hz⟩:=I.tuple hq
    exact call_tuple_same pl ⟨.ref p,H,I,rfl,q⟩
noncomputable def tyV (K:PySem.W.Frag) (T:String) (x:V) (H:Hp):Prop:=match x with
  | .str _=>T = "str"
  | .int _=>T = "int"
  | .ref p=>(T = "list" ∧ ∃ xs,SqL K H p xs)∨(T = "tuple" ∧ ∃ o,K.lookup p=some o∧o.cls=.type "tuple" ∧ o.dict=none) ∨
      (T = "dict" ∧ ((∃ kvs,H p=some (.dK kvs))∨∃ kvs,H p=some (.dT kvs)))∨(T = "set" ∧ ∃ S n,H p=some (.set S n))
  | _=>False
theorem Zi {pins:List (Addr × Obj)} {σ:St} {H:Hp} {s:Shared} {T:String} {x:V} {v:Value} (I:Inv X pins σ H s) (r:RelV x v) (ty:tyV X.K T x H) :
    s.TypeIs v T∧∀ a,v=.ref a→∃ ob,s.heap.get? a=some ob∧ob.dict=none:=by
  cases x with
  | str z =>
    obtain ⟨t,rfl⟩:=r
    cases (show T = "str" from ty)
    exact ⟨typeIs_str s z t,fun _ e=>nomatch e⟩
  | int i =>
    obtain ⟨t,rfl⟩:=r
    cases (show T = "int" from ty)
    exact ⟨typeIs_int s i t,fun _ e=>nomatch e⟩
  | ref p =>
    cases r
    rcases ty with ⟨rfl,xs,hq⟩ | ⟨rfl,o,hk,hc,hd⟩ | ⟨rfl,hk⟩ | ⟨rfl,S,n,hk⟩
    · obtain ⟨its,_,pl,_⟩:=I.list hq
      refine ⟨pl.isList.typeIs,fun a e=>?_⟩
      cases e
      obtain ⟨o,n,e,c,hd,_⟩:=pl
      exact ⟨o,e,hd⟩
    · refine ⟨⟨o,I.kIn p o hk,hc⟩,fun a e=>?_⟩
      cases e
      exact ⟨o,I.kIn _ o hk,hd⟩
    · have z:∃ o,s.heap.get? p=some o∧o.ExactDict:=by
        rcases hk with ⟨kvs,hk⟩ | ⟨kvs,hk⟩
        · obtain ⟨_,_,_,_,o,_,_,e,ex,_⟩:=I.hok p _ hk
          exact ⟨o,e,ex⟩
        · obtain ⟨_,_,_,_,o,_,_,e,ex,_⟩:=I.hok p _ hk
          exact ⟨o,e,ex⟩
      obtain ⟨o,e,ex⟩:=z
      refine ⟨⟨o,e,ex.1⟩,fun a e2=>?_⟩
      cases e2
      exact ⟨o,e,ex.2.1⟩
    · obtain ⟨o,_,_,_,e,ex,_⟩:=I.hok p _ hk
      refine ⟨⟨o,e,ex.1⟩,fun a e2=>?_⟩
      cases e2
      exact ⟨o,e,ex.2.1⟩
  | _=>exact False.elim ty
noncomputable def a7w (K:PySem.W.Frag) (T:String) (r:V→List V→Hp→VK→Prop) (to:TE):TE:=fun σ H Q=>to σ H fun x H1=>tyV K T x H1∧r x [] H1 Q
noncomputable def tBM (K:PySem.W.Frag) (T:String) (r:V→List V→Hp→VK→Prop) (to:TE) (t:TA):TE:=fun σ H Q=>to σ H fun x H1=>tyV K T x H1∧t σ H1 fun xs H2=>r x xs H2 Q
variable {o e:Expr} {es:List Expr} {to:TE} {t:TA} {name:Str} {apos cpos:Pos} {T id:String} {r:V→List V→Hp→VK→Prop}
theorem Zh (pa:PlainAttrs T) (slot:Slot T name id) (hty:typeOf (.builtin id)=pure (.type "method_descriptor")) (hm:MtR X id r) (ho:PE X o to)
    (hbase:attributeBase o name X.env (eval o X.env)=eval o X.env:=by rfl) (hline:(apos.endLine==cpos.line)=true:=by rfl):PE X (.Call (.Attribute o name apos) [] [] cpos) (a7w X.K T r to):=by
  intro pins s σ H Q I h
  refine wpAny_Call_method0_late hbase hline (thn (ho pins s σ H _ I h) fun v s1 z0=>?_)
  obtain ⟨x,H1,I1,r1,ty,q1⟩:=z0
  obtain ⟨h1,h2⟩:=Zi I1 r1 ty
  exact ⟨T,id,pa,slot,hty,h1,h2,Calls.callWith_builtin rfl (PySem.evalArgs_none (hm pins s1 σ H1 x [] v [] Q I1 r1 .nil q1))⟩
theorem Lw (pa:PlainAttrs T) (slot:Slot T name id) (hty:typeOf (.builtin id)=pure (.type "method_descriptor")) (hm:MtR X id r) (ho:PE X o to) (ha:PA X (e::es) t)
    (hbase:attributeBase o name X.env (eval o X.env)=eval o X.env:=by rfl)
    (hfew:((backTo cpos (starEach (e::es) X.env)).all (fun x=>!x.1)&&(backToKw cpos (keywordEach [] X.env)).all (fun x=>x.1.isSome)
      && decide ((e::es).length+([]:List Keyword).length+(if ([]:List Keyword).isEmpty then 0 else 1)<30))=true:=by rfl)
    (hline:(apos.endLine==cpos.line)=true:=by rfl) (hs:starEach (e::es) X.env=(false,eval e X.env)::starEach es X.env:=by rfl) (hplain:(backTo cpos (starEach es X.env)).any (·.1)=false:=by rfl) :
    PE X (.Call (.Attribute o name apos) (e::es) [] cpos) (tBM X.K T r to t):=by
  intro pins s σ H Q I h
  refine wpAny_Call_method_late hbase hfew hline rfl (thn (ho pins s σ H _ I h) fun v s1 z0=>?_)
  obtain ⟨x,H1,I1,r1,ty,q1⟩:=z0
  obtain ⟨h1,h2⟩:=Zi I1 r1 ty
  refine ⟨T,id,pa,slot,hty,h1,h2,?_⟩
  have hA:=ha cpos pins s1 σ H1 _ I1 q1
  rw [hs] at hA ⊢
  refine Calls.callWith_builtin (by show (false||(backTo cpos (starEach es X.env)).any (·.1))=false; rw [hplain] <;> rfl) (Calls.evalArgs_plain ?_)
  exact thn hA fun us s2 ⟨vs,H2,I2,r2,q2⟩=>hm pins s2 σ H2 x vs v us Q I2 r1 r2 q2
end
end L2
namespace L2
open PySem PySem.Spec PyProof.Rows
noncomputable def MtM (X:Cx) (id:String) (r:V→List V→Hp→VK→Prop):Prop :=
  ∀ (pins:List (Addr × Obj)) (s:Shared) (σ:St) (H:Hp) (x:V) (xs:List V) (v:Value) (us:List Value) (Q:VK),Inv X pins σ H s→RelV x v→Vals xs us→r x xs H Q →
    wpAny (model X.prog X.w) X.A (call (.builtin id) (v::us)) (EP X pins σ Q) X.xe s
theorem Vals.one:∀ {x:V} {us:List Value},Vals [x] us→∃ u,us=[u]∧RelV x u
  | _,_,.cons r .nil=>⟨_,rfl,r⟩
theorem Vals.two:∀ {x y:V} {us:List Value},Vals [x,y] us→∃ u v,us=[u,v]∧RelV x u∧RelV y v
  | _,_,_,.cons r (.cons q .nil)=>⟨_,_,rfl,r,q⟩
theorem Vals.zero:∀ {us:List Value},Vals [] us→us=[]
  | _,.nil=>rfl
theorem Vals.dropLast {xs:List V} {us:List Value} (h:Vals xs us):Vals xs.dropLast us.dropLast:=by
  induction h with
  | nil=>exact .nil
  | cons r t ih =>
    cases t with
    | nil=>exact .nil
    | cons q t'=>exact .cons r ih
theorem Vals.reverse {xs:List V} {us:List Value} (h:Vals xs us):Vals xs.reverse us.reverse:=by
  induction h with
  | nil=>exact .nil
  | cons r t ih=>rw [List.reverse_cons,List.reverse_cons]; exact Vals.append ih (.cons r .nil)
theorem Vals.rep {xs:List V} {us:List Value} (h:Vals xs us):∀ k:Nat,Vals (List.replicate k xs).flatten (List.replicate k us).flatten
  | 0=>.nil
  | k+1=>by
    rw [List.replicate_succ,List.replicate_succ,List.flatten_cons,List.flatten_cons]
    exact Vals.append h (Vals.rep h k)
theorem Rp {α:Type} (l:List α):l.eraseIdx (l.length - 1)=l.dropLast:=by
  induction l with
  | nil=>rfl
  | cons a r ih =>
    cases r with
    | nil=>rfl
    | cons b r =>
      have e:(a::b::r).length - 1=((b::r).length - 1)+1:=by
        have h1:(a::b::r).length=r.length+2:=rfl
        have h2:(b::r).length=r.length+1:=rfl
        omega
      rw [e,List.eraseIdx_cons_succ,ih]
      all_goals rfl
noncomputable section
variable {X:Cx} {pins:List (Addr × Obj)} {σ:St} {H:Hp} {s:Shared} {l b:Addr} {xs ys zs:List V}
theorem Inv.a74 {its its':List Value} {n:Nat} {f:Array Value→Array Value} {t':Nat} (I:Inv X pins σ H s) (hH:H l=some (.lst xs))
    (e:s.heap.get? l=some { cls:=.type "list",data:=.seq its.toArray n }) (hf:f its.toArray=its'.toArray) (hv:Vals ys its') (hz:ys.length≤sizeLine) :
    Inv X pins σ (upd H l (.lst ys)) { s with heap:=s.heap.update l (Obj.mapSeq f),toks:=t' }:=by
  have q:=PySem.IsL.update e f
  rw [hf] at q
  refine I.write (x:=l) (e:=l) (by rw [hH]; exact trivial) (.inl rfl) (fun b' u hb hu=>(Heap.get?_update_other s.heap (Obj.mapSeq f) (Ne.symm hb)).trans hu) ⟨_,q⟩ ?_
  exact ⟨hz,its',_,hv,q⟩
theorem Inv.a8a {its:List Value} {t':Nat} (I:Inv X pins σ H s) (hv:Vals ys its) (hz:ys.length≤sizeLine) :
    Inv X pins σ (upd H s.heap.objs.size (.lst ys)) { s with heap:=s.heap.push { cls:=.type "list",data:=.seq its.toArray },toks:=t' } :=
  I.laid (fun _ _ q=>Heap.get?_push_of_some _ q) (Nat.le_refl _) ⟨hz,its,0,hv,Heap.get?_push_size _ rfl⟩
theorem Inv.fresh (I:Inv X pins σ H s):H s.heap.objs.size=none:=I.hok.fresh (Nat.le_refl _)
theorem Inv.a6n (I:Inv X pins σ H s) (hH:H l=some (.lst xs)):xs.length≤sizeLine∧∃ (its:List Value) (n:Nat),Vals xs its∧xs.length=its.length∧s.heap.get? l=some { cls:=.type "list",data:=.seq its.toArray n }:=by
  obtain ⟨z,its,n,r,e⟩:=I.hok l _ hH
  exact ⟨z,its,n,r,r.length,e⟩
theorem Yu {n:Nat} (h:n≤sizeLine):Builtin.List.listTooLong n=false:=by
  unfold Builtin.List.listTooLong
  exact decide_eq_false (by omega)
end
noncomputable section
variable {X:Cx}
noncomputable def Vq:V→List V→Hp→VK→Prop:=fun x vs H Q=>∃ l xs y,x=.ref l∧vs=[y]∧H l=some (.lst xs)∧xs.length<sizeLine∧Q .non (upd H l (.lst (xs++[y])))
theorem Bc:MtM X "list.append" Vq:=by
  intro pins s σ H x vs v us Q I rx rv h
  obtain ⟨l,xs,y,rfl,rfl,hH,hz,q⟩:=h
  cases rx
  obtain ⟨u,rfl,ru⟩:=rv.one
  obtain ⟨z,its,n,r,hl,e⟩:=I.a6n hH
  refine call_meets F.slot_list_append ⟨_,e,rfl⟩ F.entry_list_append (F.args_list_append_2 _ _) (PySem.list_append l its.toArray n u (by rw [List.size_toArray]; omega)) ⟨e,?_⟩
  refine ⟨.non,_,I.a74 (its':=its++[u]) hH e (by simp) (r.append (.cons ru .nil)) ?_,rfl,q⟩
  rw [List.length_append,List.length_singleton]
  omega
noncomputable def a7u:V→List V→Hp→VK→Prop:=fun x vs H Q=>∃ l xs y,x=.ref l∧vs=[]∧H l=some (.lst xs)∧xs[xs.length - 1]? = some y∧Q y (upd H l (.lst xs.dropLast))
theorem Zn:MtM X "list.pop" a7u:=by
  intro pins s σ H x vs v us Q I rx rv h
  obtain ⟨l,xs,y,rfl,rfl,hH,hy,q⟩:=h
  cases rx
  have hus:=rv.zero
  subst hus
  obtain ⟨z,its,n,r,hl,e⟩:=I.a6n hH
  obtain ⟨u,hu,ru⟩:=r.get hy
  have hy':its.toArray[its.toArray.size - 1]? = some u:=by
    show its.toArray[its.length - 1]? = some u
    rw [← Array.getElem?_toList,← hl]
    exact hu
  refine call_meets F.slot_list_pop ⟨_,e,rfl⟩ F.entry_list_pop (F.args_list_pop_1 _) (MeetsSeq.list_pop_last l its.toArray n u hy' (by rw [List.size_toArray]; omega)) ⟨e,?_⟩
  refine ⟨y,_,I.a74 (its':=its.dropLast) hH e ?_ r.dropLast ?_,ru,q⟩
  · show its.toArray.eraseIdxIfInBounds (its.toArray.size - 1)=its.dropLast.toArray
    rw [List.size_toArray,List.eraseIdxIfInBounds_toArray,Rp]
  · rw [List.length_dropLast]
    omega
end
noncomputable section
variable {prog:Program} {w:World} {A:Around} {E:Value→Shared→Prop} {s:Shared}
end
noncomputable section
variable {X:Cx}
end
end L2
end
noncomputable section
set_option linter.all false
set_option maxRecDepth 100000
namespace L2
open PySem PySem.Spec PyProof.Rows
noncomputable section
variable {κ:Type} [DecidableEq κ]
noncomputable def O4 (kvs:List (κ × V)) (k:κ):Option V:=(kvs.find? fun kv=>decide (kv.1=k)).map (·.2)
noncomputable def putK (kvs:List (κ × V)) (k:κ) (v:V):List (κ × V) :=
  if (kvs.any fun kv=>decide (kv.1=k))=true then kvs.map (fun kv=>if kv.1=k then (kv.1,v) else kv) else kvs++[(k,v)]
theorem Fz {p:κ × V} {r:List (κ × V)} {k:κ} (e:p.1=k):O4 (p::r) k=some p.2:=by simp [O4,List.find?_cons,e]
theorem Fy {p:κ × V} {r:List (κ × V)} {k:κ} (e:¬ p.1=k):O4 (p::r) k=O4 r k:=by simp [O4,List.find?_cons,e]
theorem Ph (k:κ):∀ kvs:List (κ × V),(kvs.any fun kv=>decide (kv.1=k))=(O4 kvs k).isSome
  | []=>rfl
  | p::r=>by
    rw [List.any_cons]
    by_cases e:p.1=k
    · simp only [Fz e,decide_eq_true e,Bool.true_or,Option.isSome_some]
    · rw [Fy e,decide_eq_false e,Bool.false_or]; exact Ph k r
theorem Dp (kvs:List (κ × V)) (k:κ) (v:V):(putK kvs k v).length≤kvs.length+1:=by
  unfold putK
  split
  · rw [List.length_map]; omega
  · rw [List.length_append,List.length_cons,List.length_nil]; omega
theorem Mf.Uu {o:Option V} {u:Option Value} (r:Mf o u):o.isSome=u.isSome:=by
  cases o with
  | none=>cases u with
    | none=>rfl
    | some _=>exact (show False from r).elim
  | some _=>cases u with
    | none=>exact (show False from r).elim
    | some _=>rfl
theorem Mf.getD {o:Option V} {u:Option Value} {d:V} {d':Value} (r:Mf o u) (rd:RelV d d'):RelV (o.getD d) (u.getD d'):=by
  cases o with
  | none=>cases u with
    | none=>exact rd
    | some _=>exact (show False from r).elim
  | some _=>cases u with
    | none=>exact (show False from r).elim
    | some _=>exact r
theorem KV.val {kvs:List (κ × V)} {vs:List (κ × Value)} (r:KV kvs vs) (k:κ):Mf (O4 kvs k) (valueAt vs k):=by
  unfold KV at r
  induction r with
  | nil=>exact True.intro
  | @cons p q ps qs h t ih =>
    obtain ⟨h1,h2⟩:=h
    by_cases e:p.1=k
    · have e':q.1=k:=h1.symm.trans e
      have b:valueAt (q::qs) k=some q.2:=by simp [valueAt,List.find?_cons,e']
      rw [Fz e,b]; exact h2
    · have e':¬ q.1=k:=fun z=>e (h1.trans z)
      have b:valueAt (q::qs) k=valueAt qs k:=by simp [valueAt,List.find?_cons,e']
      rw [Fy e,b]; exact ih
theorem KV.any {kvs:List (κ × V)} {vs:List (κ × Value)} (r:KV kvs vs) (k:κ):(kvs.any fun kv=>decide (kv.1=k))=vs.any fun kv=>decide (kv.1=k):=by
  unfold KV at r
  induction r with
  | nil=>rfl
  | cons h t ih=>rw [List.any_cons,List.any_cons,ih,h.1]
theorem KV.repl {kvs:List (κ × V)} {vs:List (κ × Value)} (r:KV kvs vs) (k:κ) {y:V} {u:Value} (ry:RelV y u) :
    KV (kvs.map fun kv=>if kv.1=k then (kv.1,y) else kv) (vs.map fun kv=>if kv.1=k then (kv.1,u) else kv):=by
  unfold KV at r ⊢
  induction r with
  | nil=>exact .nil
  | @cons p q ps qs h t ih =>
    rw [List.map_cons,List.map_cons]
    refine .cons ?_ ih
    obtain ⟨h1,h2⟩:=h
    by_cases e:p.1=k
    · rw [if_pos e,if_pos (h1.symm.trans e)]; exact ⟨h1,ry⟩
    · rw [if_neg e,if_neg (fun z=>e (h1.trans z))]; exact ⟨h1,h2⟩
theorem KV.put {kvs:List (κ × V)} {vs:List (κ × Value)} (r:KV kvs vs) (k:κ) {y:V} {u:Value} (ry:RelV y u):KV (putK kvs k y) (stored vs k u):=by
  unfold putK stored
  rw [r.any k]
  by_cases e:(vs.any fun kv=>decide (kv.1=k))=true
  · rw [if_pos e,if_pos e]; exact r.repl k ry
  · rw [if_neg e,if_neg e]; exact Paired.snoc r ⟨rfl,ry⟩
theorem KV.keys {kvs:List (κ × V)} {vs:List (κ × Value)} (r:KV kvs vs):kvs.map (·.1)=vs.map (·.1):=by
  unfold KV at r
  induction r with
  | nil=>rfl
  | cons h t ih=>rw [List.map_cons,List.map_cons,ih,h.1]
theorem KV.length {kvs:List (κ × V)} {vs:List (κ × Value)} (r:KV kvs vs):kvs.length=vs.length:=Paired.length r
end
theorem Wx {P:Program} {w:World} {k:Key} {u:Value} (r:RelV (kV k) u):(ud P w).is k u=true:=by
  cases k with
  | inl i=>obtain ⟨t,e⟩:=(show ∃ t,u=Value.int i t from r); subst e; exact Mq P w i t
  | inr x=>obtain ⟨t,e⟩:=(show ∃ t,u=Value.str x t from r); subst e; exact Nf P w x t
theorem Kh {P:Program} {w:World}:∀ {ks:List Key} {us:List Value},Vals (ks.map kV) us→ItemsAre (ud P w) ks us
  | [],_,r=>by rw [List.map_nil] at r; cases r; exact .nil
  | k::ks,_,r=>by
    rw [List.map_cons] at r
    cases r with
    | cons h t=>exact .cons (Wx h) (Kh t)
noncomputable abbrev KT (H:Hp):List (List Key × V)→List (List Key × Addr × Value)→Prop:=Paired fun p q=>p.1=q.1∧H q.2.1=some (.tup (p.1.map kV))∧RelV p.2 q.2.2
theorem KT.val {H:Hp} {kvs:List (List Key × V)} {xs:List (List Key × Addr × Value)} (r:KT H kvs xs) (k:List Key):Mf (O4 kvs k) ((atKey xs k).map (·.2)):=by
  induction r with
  | nil=>exact True.intro
  | @cons p q ps qs h t ih =>
    obtain ⟨h1,_,h2⟩:=h
    by_cases e:p.1=k
    · have e':q.1=k:=h1.symm.trans e
      have b:atKey (q::qs) k=some q.2:=by simp [atKey,List.find?_cons,e']
      rw [Fz e,b]; exact h2
    · have e':¬ q.1=k:=fun z=>e (h1.trans z)
      have b:atKey (q::qs) k=atKey qs k:=by simp [atKey,List.find?_cons,e']
      rw [Fy e,b]; exact ih
theorem KT.repl {H:Hp} {kvs:List (List Key × V)} {xs:List (List Key × Addr × Value)} (r:KT H kvs xs) (k:List Key) {y:V} {u:Value} (ry:RelV y u) :
    KT H (kvs.map fun kv=>if kv.1=k then (kv.1,y) else kv) (xs.map (putAt k u)):=by
  induction r with
  | nil=>exact .nil
  | @cons p q ps qs h t ih =>
    rw [List.map_cons,List.map_cons]
    refine .cons ?_ ih
    obtain ⟨h1,h2,h3⟩:=h
    unfold putAt
    by_cases e:p.1=k
    · rw [if_pos e,if_pos (h1.symm.trans e)]; exact ⟨h1,h2,ry⟩
    · rw [if_neg e,if_neg (fun z=>e (h1.trans z))]; exact ⟨h1,h2,h3⟩
theorem KT.put {H:Hp} {kvs:List (List Key × V)} {xs:List (List Key × Addr × Value)} (r:KT H kvs xs) (k:List Key) {b:Addr} {y:V} {u:Value} (hb:H b=some (.tup (k.map kV))) (ry:RelV y u) :
    KT H (putK kvs k y) (storedH xs k b u):=by
  have e:(kvs.any fun kv=>decide (kv.1=k))=(atKey xs k).isSome:=by
    rw [Ph,(r.val k).Uu,Option.isSome_map]
  unfold putK storedH
  rw [e]
  by_cases q:(atKey xs k).isSome=true
  · rw [if_pos q,if_pos q]; exact r.repl k ry
  · rw [if_neg q,if_neg q]; exact Paired.snoc r ⟨rfl,hb,ry⟩
theorem KT.keeps {H H':Hp} {kvs:List (List Key × V)} {xs:List (List Key × Addr × Value)} (r:KT H kvs xs) (ht:∀ b ys,H b=some (.tup ys)→H' b=some (.tup ys)):KT H' kvs xs :=
  Paired.a6v r fun _ _ z=>⟨z.1,ht _ _ z.2.1,z.2.2⟩
noncomputable section
variable {P:Program} {w:World} {H:Hp} {h:Heap} {a:Addr}
theorem a5i {u:HO} (ok:HOk P w H h) (e:Rd H a u):yq P w H h a u:=e.ok ok
theorem Iu {kvs:List (Key × V)} (ok:HOk P w H h) (e:Rd H a (.dK kvs)):kvs.length≤sizeLine∧(a==sysModules)=false∧∃ vs,KV kvs vs∧h.DictOf (ud P w) a vs :=
  show yq P w H h a (.dK kvs) from a5i ok e
theorem a5e {kvs:List (Key × V)} (ok:HOk P w H h) (e:H a=some (.dK kvs)):kvs.length≤sizeLine∧(a==sysModules)=false∧∃ vs,KV kvs vs∧h.DictOf (ud P w) a vs:=Iu ok (.inl e)
theorem Qk {ks:List Key} (ok:HOk P w H h) (e:H a=some (.tup (ks.map kV))):(tupleKind (ud P w)).is h ks a:=by
  obtain ⟨_,its,r,o,h1,h2,_,n,h3⟩:=(show yq P w H h a (.tup (ks.map kV)) from ok a _ e)
  exact ⟨o,its.toArray,n,h1,h2,h3,by simpa using Kh r⟩
theorem Wh {kvs:List (List Key × V)} (ok:HOk P w H h) (e:Rd H a (.dT kvs)):kvs.length≤sizeLine∧(a==sysModules)=false ∧
    ∃ xs,KT H kvs xs∧h.DictOfH (tupleKind (ud P w)) a xs:=by
  obtain ⟨z,y,xs,r,o,es,ep,h1,h2,h3,h4,h5⟩:=(show yq P w H h a (.dT kvs) from a5i ok e)
  refine ⟨z,y,xs,r,o,es,ep,h1,h2,h3,h4,fun x hx=>?_,h5⟩
  have all:∀ {l:List (List Key × V)} {m:List (List Key × Addr × Value)},KT H l m→∀ x∈m,(tupleKind (ud P w)).is h x.1 x.2.1:=by
    intro l m q
    induction q with
    | nil=>intro x hx; exact nomatch hx
    | @cons p q ps qs hq t ih =>
      intro x hx
      rcases List.mem_cons.mp hx with e | hx
      · subst e
        exact Qk ok (by rw [← hq.1]; exact hq.2.1)
      · exact ih x hx
  exact all r x hx
theorem a6q {kvs:List (List Key × V)} (ok:HOk P w H h) (e:H a=some (.dT kvs)):kvs.length≤sizeLine∧(a==sysModules)=false ∧
    ∃ xs,KT H kvs xs∧h.DictOfH (tupleKind (ud P w)) a xs:=Wh ok (.inl e)
end
noncomputable def Xo (H:Hp) (a:Addr) (y:V) (r:Option V):Prop :=
  (∃ kvs k,Rd H a (.dK kvs)∧y=kV k∧r=O4 kvs k)∨∃ kvs k b,Rd H a (.dT kvs)∧y=.ref b∧H b=some (.tup (k.map kV))∧r=O4 kvs k
noncomputable def a2o (H:Hp) (a:Addr) (y v:V) (H':Hp):Prop :=
  (∃ kvs k,H a=some (.dK kvs)∧y=kV k∧kvs.length<sizeLine∧H'=upd H a (.dK (putK kvs k v))) ∨
  ∃ kvs k b,H a=some (.dT kvs)∧y=.ref b∧H b=some (.tup (k.map kV))∧kvs.length<sizeLine∧H'=upd H a (.dT (putK kvs k v))
theorem Xo.k {H:Hp} {a:Addr} {kvs:List (Key × V)} {k:Key} (e:H a=some (.dK kvs)):Xo H a (kV k) (O4 kvs k):=.inl ⟨kvs,k,.inl e,rfl,rfl⟩
theorem Xo.t {H:Hp} {a b:Addr} {kvs:List (List Key × V)} {k:List Key} (e:H a=some (.dT kvs)) (eb:H b=some (.tup (k.map kV))):Xo H a (.ref b) (O4 kvs k):=.inr ⟨kvs,k,b,.inl e,rfl,eb,rfl⟩
theorem a2o.k {H:Hp} {a:Addr} {kvs:List (Key × V)} {k:Key} {v:V} (e:H a=some (.dK kvs)) (hl:kvs.length<sizeLine):a2o H a (kV k) v (upd H a (.dK (putK kvs k v))):=.inl ⟨kvs,k,e,rfl,hl,rfl⟩
theorem a2o.t {H:Hp} {a b:Addr} {kvs:List (List Key × V)} {k:List Key} {v:V} (e:H a=some (.dT kvs)) (eb:H b=some (.tup (k.map kV))) (hl:kvs.length<sizeLine) :
    a2o H a (.ref b) v (upd H a (.dT (putK kvs k v))):=.inr ⟨kvs,k,b,e,rfl,eb,hl,rfl⟩
noncomputable section
variable {X:Cx} {pins:List (Addr × Obj)} {σ:St} {H:Hp} {s:Shared} {a:Addr} {y v:V} {u r:Value} {o:Option V} {A:Around} {E:Value→Shared→Prop}
theorem Inv.big (I:Inv X pins σ H s):sysModules<s.heap.objs.size:=by
  have h:mainGlobals<s.heap.objs.size:=(I.mod.glob.keeps I.bk).lt
  exact Nat.lt_trans (by decide) h
theorem Vk {Q:Value→Shared→Prop} (hu:A.units+1<cLine) (I:Inv X pins σ H s) (g:Xo H a y (some v)) (ry:RelV y u) (h:∀ w' s',Inv X pins σ H s'→RelV v w'→Q w' s') :
    wpAny (model X.prog X.w) A (getItem (.ref a) u) Q E s:=by
  rcases g with ⟨kvs,k,e,ey,l⟩ | ⟨kvs,k,b,e,ey,eb,l⟩
  · subst ey
    obtain ⟨z,hd,vs,rel,dd⟩:=Iu I.hok e
    obtain ⟨w',hw,rw'⟩:=Mf.some_of (v:=v) (o:=valueAt vs k) (by rw [l]; exact rel.val k)
    exact wpAny_getItem_of (Wx ry) dd.mapOf hw (h w' _ (I.tok _) rw')
  · subst ey
    cases (show u=Value.ref b from ry)
    obtain ⟨z,hd,xs,rel,dd⟩:=Wh I.hok e
    obtain ⟨w',hw,rw'⟩:=Mf.some_of (v:=v) (o:=(atKey xs k).map (·.2)) (by rw [l]; exact rel.val k)
    obtain ⟨p,hp,hp2⟩:=Option.map_eq_some_iff.mp hw
    refine wpAny_getItem_heap (tupleKind_room_in1 hu) (Qk I.hok eb) dd hp ?_
    rw [hp2]
    exact h w' _ (I.tok _) rw'
theorem Mv {h':Heap} {t':Nat} {ob:HO} (I:Inv X pins σ H s) (mu:Mut (H a)) (hs:Heap.SameBut a s.heap h') (he:∃ q,h'.get? a=some q) (new:yq X.prog X.w (upd H a ob) h' a ob) :
    Inv X pins σ (upd H a ob) { s with heap:=h',toks:=t' } :=
  I.write (x:=a) (e:=a) mu (.inl rfl) (fun b q hb z=>(hs.2 b hb).trans z) he new
theorem Zg {P:Program} {w:World} {H':Hp} {h':Heap} {kvs:List (Key × V)} {vs:List (Key × Value)} (z:kvs.length≤sizeLine) (hd:(a==sysModules)=false) (rel:KV kvs vs) (dd:h'.DictOf (ud P w) a vs) :
    yq P w H' h' a (.dK kvs):=⟨z,hd,vs,rel,dd⟩
theorem V0 {H':Hp} {Q:Unit→Shared→Prop} (hu:A.units+1<cLine) (I:Inv X pins σ H s) (g:a2o H a y v H') (ry:RelV y u) (rv:RelV v r) (h:∀ s',Inv X pins σ H' s'→Q () s') :
    wpAny (model X.prog X.w) A (setItem (.ref a) u r) Q E s:=by
  rcases g with ⟨kvs,k,e,ey,l,eH⟩ | ⟨kvs,k,b,e,ey,eb,l,eH⟩
  · subst ey eH
    obtain ⟨z,hd,vs,rel,dd⟩:=a5e I.hok e
    have hz:vs.length≤sizeLine:=by rw [← rel.length]; exact z
    have hl:(putK kvs k v).length≤sizeLine:=by have:=Dp kvs k v; omega
    refine wpAny_setItem_pairs (hsz:=hz) (Wx ry) dd fun h' dd' hs=>h _ ?_
    have he:∃ q,h'.get? a=some q:=let ⟨q,_,_,hq,_⟩:=dd'; ⟨q,hq⟩
    exact Mv I (by rw [e]; exact True.intro) hs he (Zg hl hd (rel.put k rv) dd')
  · subst ey eH
    cases (show u=Value.ref b from ry)
    obtain ⟨z,hd,xs,rel,dd⟩:=a6q I.hok e
    have hz:xs.length≤sizeLine:=by rw [← Paired.length rel]; exact z
    have hl:(putK kvs k v).length≤sizeLine:=by have:=Dp kvs k v; omega
    refine wpAny_setItem_heap (hsz:=hz) (tupleKind_room_in1 hu) (Qk I.hok eb) dd fun h' dd' hs=>h _ ?_
    obtain ⟨q,es,ep,hq,h2,h3,h4,_,h5⟩:=dd'
    refine Mv I (by rw [e]; exact True.intro) hs ⟨q,hq⟩ ⟨hl,hd,_,(rel.put k eb rv).keeps fun c ys ec=>?_,q,es,ep,hq,h2,h3,h4,h5⟩
    rw [nq (a6o ec e (fun z=>nomatch z))]
    exact ec
end
noncomputable section
variable {X:Cx} {pins:List (Addr × Obj)} {σ:St} {H:Hp} {s:Shared} {a:Addr} {kvs:List (Key × V)} {k:Key} {u:Value} {A:Around} {E:Value→Shared→Prop}
theorem a5t {Q:Value→Shared→Prop} (I:Inv X pins σ H s) (e:Rd H a (.dK kvs)) (h:∀ t s',Inv X pins σ H s'→Q (.int kvs.length t) s'):wpAny (model X.prog X.w) A (call (.builtin "len") [.ref a]) Q E s:=by
  obtain ⟨z,hd,vs,rel,dd⟩:=Iu I.hok e
  refine call_len_dict hd dd (by rw [← rel.length]; rw [sizeLine_eq] at z; omega) ?_
  rw [← rel.length]
  exact h _ _ (I.tok _)
end
theorem Nv {X:Cx} {pins:List (Addr × Obj)} {σ:St} {H:Hp} {s:Shared} {a:Addr} {y:V} {o:Option V} (I:Inv X pins σ H s) (g:Xo H a y o):s.TypeIs (.ref a) "dict" := by
  rcases g with ⟨kvs,k,e,_,_⟩ | ⟨kvs,k,b,e,_,_,_⟩
  · obtain ⟨_,_,vs,_,dd⟩:=Iu I.hok e
    exact dd.typeIs
  · obtain ⟨_,_,xs,_,dd⟩:=Wh I.hok e
    exact dd.typeIs
noncomputable def a6w (td ty tv:TE):TS:=fun D σ H=>tv σ H fun v H1=>td σ H1 fun x H2=>ty σ H2 fun y H3=>∃ a H4,x=.ref a∧a2o H3 a y v H4∧D.nx σ H4
noncomputable section
variable {X:Cx} {o i e value:Expr} {pos pos' tpos:Pos} {td ty tv:TE}
theorem a0k (hu:X.A.units+1<cLine) (ho:PE X o td) (hi:PE X i ty) (hv:PE X value tv) (hs:swapsWith value (some (.Subscript o i pos')) pos.line X.env=pure false) :
    PS X (.Assign [.Subscript o i pos'] value pos) (a6w td ty tv):=by
  intro pins s σ H D I h
  refine wpAny_Assign_Subscript (thn (hv pins s σ H _ I h) fun r s1 ⟨v,H1,I1,rv,q1⟩=>thn (ho pins s1 σ H1 _ I1 q1) fun u s2 ⟨x,H2,I2,rx,q2⟩=>thn (hi pins s2 σ H2 _ I2 q2) fun iv s3 ⟨y,H3,I3,ry,a,H4,ex,g,q3⟩=>?_) hs
  subst ex
  obtain rfl:u=Value.ref a:=rx
  exact V0 hu I3 g ry rv fun s4 I4=>⟨σ,H4,I4,q3⟩
end
theorem Py {P:Program} {w:World} {H:Hp} (h:Heap) (hb:sysModules<h.objs.size):yq P w H (h.push { cls:=.type "dict",data:=.dict #[] }) h.objs.size (.dK []) :=
  ⟨Nat.zero_le _,beq_eq_false_iff_ne.mpr (Ne.symm (Nat.ne_of_lt hb)),[],.nil,Heap.DictOf.new h⟩
noncomputable def a5f:TE:=fun _ H Q=>∀ p,H p=none→Q (.ref p) (upd H p (.dK []))
noncomputable section
variable {X:Cx} {pos:Pos}
theorem Xw:PE X (.Dict [] [] pos) a5f:=fun pins s σ H Q I h =>
  wpAny_Dict_empty ⟨.ref s.heap.objs.size,_,I.laid (a:=s.heap.objs.size) (o:=.dK []) (t':=s.toks) (fun _ _ q=>Heap.get?_push_of_some _ q) (Nat.le_refl _) (Py s.heap I.big),rfl,h _ (I.hok.fresh (Nat.le_refl _))⟩
end
noncomputable def Vl:List (TE × TE)→St→Hp→(List (V × V)→Hp→Prop)→Prop
  | [],_,H,Q=>Q [] H
  | (tk,tv)::r,σ,H,Q=>tk σ H fun x H1=>tv σ H1 fun y H2=>Vl r σ H2 fun ps H3=>Q ((x,y)::ps) H3
noncomputable abbrev VV:List (V × V)→List (Value × Value)→Prop:=Paired fun p q=>RelV p.1 q.1∧RelV p.2 q.2
noncomputable def PPs (X:Cx) (pos:Pos) (keys:List (Option Expr)) (values:List Expr) (trs:List (TE × TE)):Prop :=
  ∀ (pins:List (Addr × Obj)) (s:Shared) (σ:St) (H:Hp) (Q:List (V × V)→Hp→Prop),Inv X pins σ H s→Vl trs σ H Q →
    wpAny (model X.prog X.w) X.A (evalPairs (pairTrees keys values X.env pos)) (fun vs s'=>∃ ps H',Inv X pins σ H' s'∧VV ps vs∧Q ps H') X.xe s
theorem a2f {X:Cx} {pos:Pos}:PPs X pos [] [] []:=fun pins s σ H Q I h=>pairTrees_nil_walk ⟨[],H,I,.nil,h⟩
theorem Ye {X:Cx} {pos:Pos} {k v:Expr} {ks:List (Option Expr)} {vs:List Expr} {tk tv:TE} {trs:List (TE × TE)} (hk:PE X k tk) (hv:PE X v tv) (hr:PPs X pos ks vs trs) :
    PPs X pos (some k::ks) (v::vs) ((tk,tv)::trs):=fun pins s σ H Q I h =>
  pairTrees_cons_walk (thn (hk pins s σ H _ I h) fun u s1 ⟨x,H1,I1,rx,q1⟩=>thn (hv pins s1 σ H1 _ I1 q1) fun w2 s2 ⟨y,H2,I2,ry,q2⟩ =>
    thn (hr pins s2 σ H2 _ I2 q2) fun ws s3 z7=>by obtain ⟨ps,H3,I3,rel,q3⟩:=z7; exact ⟨(x,y)::ps,H3,I3,.cons ⟨rx,ry⟩ rel,q3⟩)
noncomputable def Hz (kvs more:List (Key × V)):List (Key × V):=more.foldl (fun acc kv=>putK acc kv.1 kv.2) kvs
theorem KV.merge:∀ {more:List (Key × V)} {rs:List (Key × Value)} {kvs:List (Key × V)} {vs:List (Key × Value)},KV more rs→KV kvs vs→KV (Hz kvs more) (merged vs rs):=by
  intro more rs kvs vs r
  unfold KV at r
  induction r generalizing kvs vs with
  | nil=>intro q; exact q
  | @cons p q ps qs h t ih =>
    intro r0
    have e:KV (putK kvs p.1 p.2) (stored vs q.1 q.2):=by
      have:=r0.put p.1 h.2
      rw [← h.1]; exact this
    exact ih e
theorem Ef:∀ (more kvs:List (Key × V)),(Hz kvs more).length≤kvs.length+more.length
  | [],kvs=>by show kvs.length≤kvs.length+0; omega
  | p::r,kvs=>by
    have h1:=Ef r (putK kvs p.1 p.2)
    have h2:=Dp kvs p.1 p.2
    show (Hz (putK kvs p.1 p.2) r).length≤_
    rw [List.length_cons]; omega
theorem Iz {P:Program} {w:World}:∀ {kvs:List (Key × V)} {ws:List (Value × Value)},VV (kvs.map fun kv=>(kV kv.1,kv.2)) ws→∃ rs,Carries (ud P w) ws rs∧KV kvs rs
  | [],_,r=>by rw [List.map_nil] at r; cases r; exact ⟨[],True.intro,.nil⟩
  | p::kvs,_,r=>by
    rw [List.map_cons] at r
    cases r with
    | @cons a b as bs h t =>
      obtain ⟨rs,c,q⟩:=Iz (P:=P) (w:=w) t
      obtain ⟨b1,b2⟩:=b
      exact ⟨(p.1,b2)::rs,⟨Wx h.1,rfl,c⟩,.cons ⟨rfl,h.2⟩ q⟩
noncomputable def a7m (trs:List (TE × TE)):TE:=fun σ H Q=>∀ p,H p=none→Vl trs σ (upd H p (.dK [])) fun ps H2=>H2 p=some (.dK [])∧∃ kvs:List (Key × V),ps=kvs.map (fun kv=>(kV kv.1,kv.2))∧kvs.length≤15∧Q (.ref p) (upd H2 p (.dK (Hz [] kvs)))
theorem a0h {X:Cx} {pos:Pos} {keys:List (Option Expr)} {values:List Expr} {trs:List (TE × TE)} (h:PPs X pos keys values trs) (hall:keys.all (·.isSome)=true) (hl:keys.length=values.length) (h0:keys≠[])
    (h15:keys.length≤15):PE X (.Dict keys values pos) (a7m trs):=by
  intro pins s σ H Q I q
  have hn:=I.hok.fresh (Nat.le_refl s.heap.objs.size)
  have I1:=I.laid (a:=s.heap.objs.size) (o:=.dK []) (h':=s.heap.push { cls:=.type "dict",data:=.dict #[] }) (t':=s.toks) (fun _ _ q=>Heap.get?_push_of_some _ q) (Nat.le_refl _) (Py s.heap I.big)
  refine wpAny_Dict_walk (knd:=ud X.prog X.w) hall hl h0 h15 (thn (h pins _ σ _ _ I1 (q _ hn)) fun ws s2 z0=>?_)
  obtain ⟨ps,H2,I2,rel,e,kvs,ep,lk,q2⟩:=z0
  subst ep
  obtain ⟨rs,c,rk⟩:=Iz (P:=X.prog) (w:=X.w) rel
  obtain ⟨z,hd,vs0,r0,dd⟩:=a5e I2.hok e
  cases r0
  refine ⟨rs,c,dd,fun h' dd' hs=>⟨.ref s.heap.objs.size,_,?_,rfl,q2⟩⟩
  have hz:(Hz [] kvs).length≤sizeLine:=by
    have h1:=Ef kvs []
    rw [List.length_nil] at h1
    rw [sizeLine_eq]; omega
  have he:∃ q,h'.get? s.heap.objs.size=some q:=let ⟨q,_,_,hq,_⟩:=dd'; ⟨q,hq⟩
  exact Mv I2 (by rw [e]; exact True.intro) hs he (Zg hz hd (rk.merge .nil) dd')
structure M1 (X:Cx) (o:Expr) (m:Str) (apos:Pos) (e:Expr) (cpos:Pos):Prop where
  base:attributeBase o m X.env (eval o X.env)=eval o X.env
  few:((backTo cpos (starEach [e] X.env)).all (fun x=>!x.1)&&(backToKw cpos (keywordEach [] X.env)).all (fun x=>x.1.isSome)
    && decide (([e]:List Expr).length+([]:List Keyword).length+(if ([]:List Keyword).isEmpty then 0 else 1)<30))=true
  line:(apos.endLine==cpos.line)=true
  trees:backTo cpos (starEach [e] X.env)=[(false,eval e X.env)]
structure M2 (X:Cx) (o:Expr) (m:Str) (apos:Pos) (e f:Expr) (cpos:Pos):Prop where
  base:attributeBase o m X.env (eval o X.env)=eval o X.env
  few:((backTo cpos (starEach [e,f] X.env)).all (fun x=>!x.1)&&(backToKw cpos (keywordEach [] X.env)).all (fun x=>x.1.isSome)
    && decide (([e,f]:List Expr).length+([]:List Keyword).length+(if ([]:List Keyword).isEmpty then 0 else 1)<30))=true
  line:(apos.endLine==cpos.line)=true
  trees:backTo cpos (starEach [e,f] X.env)=[(false,eval e X.env),(false,eval f X.env)]
noncomputable def IsD (H:Hp) (a:Addr):Prop:=(∃ kvs,Rd H a (.dK kvs))∨∃ kvs,Rd H a (.dT kvs)
theorem a5c {X:Cx} {pins:List (Addr × Obj)} {σ:St} {H:Hp} {s:Shared} {a:Addr} (I:Inv X pins σ H s) (d:IsD H a) :
    s.TypeIs (.ref a) "dict" ∧ (∀ b,Value.ref a=.ref b→∃ ob,s.heap.get? b=some ob∧ob.dict=none)∧(a==sysModules)=false:=by
  rcases d with ⟨kvs,e⟩ | ⟨kvs,e⟩
  · obtain ⟨_,hd,vs,_,dd⟩:=Iu I.hok e
    refine ⟨dd.typeIs,fun b q=>?_,hd⟩
    cases q
    obtain ⟨ob,_,_,h1,h2,_⟩:=dd
    exact ⟨ob,h1,h2.2.1⟩
  · obtain ⟨_,hd,xs,_,dd⟩:=Wh I.hok e
    refine ⟨dd.typeIs,fun b q=>?_,hd⟩
    cases q
    obtain ⟨ob,_,_,h1,h2,_⟩:=dd
    exact ⟨ob,h1,h2.2.1⟩
noncomputable section
variable {X:Cx} {pins:List (Addr × Obj)} {σ:St} {H:Hp} {s:Shared} {a:Addr} {y d:V} {u r:Value} {o:Option V} {A:Around} {E:Value→Shared→Prop}
theorem a3n {Q:Value→Shared→Prop} (hu:A.units+1<cLine) (I:Inv X pins σ H s) (g:Xo H a y o) (ry:RelV y u) (rd:RelV d r) (h:∀ w' s',Inv X pins σ H s'→RelV (o.getD d) w'→Q w' s') :
    wpAny (model X.prog X.w) A (call (.builtin "dict.get") [.ref a,u,r]) Q E s:=by
  rcases g with ⟨kvs,k,e,ey,l⟩ | ⟨kvs,k,b,e,ey,eb,l⟩
  · subst ey
    obtain ⟨z,hd,vs,rel,dd⟩:=Iu I.hok e
    refine call_meetsIn PySem.F.slot_dict_get dd.typeIs PySem.F.entry_dict_get (PySem.F.args_dict_get_3 _ _ _) (meets_dict_get_default (ud X.prog X.w) a (Wx ry) hd r) ⟨_,dd.mapOf,h _ _ (I.tok _) ?_⟩
    rw [l]
    exact (rel.val k).getD rd
  · subst ey
    cases (show u=Value.ref b from ry)
    obtain ⟨z,hd,xs,rel,dd⟩:=Wh I.hok e
    refine call_meetsIn PySem.F.slot_dict_get dd.typeIs PySem.F.entry_dict_get (PySem.F.args_dict_get_3 _ _ _) (meetsH_dict_get_default (tupleKind (ud X.prog X.w)) a b hd r) ⟨tupleKind_room_in1 hu,k,xs,Qk I.hok eb,dd,h _ _ (I.tok _) ?_⟩
    rw [l]
    exact (rel.val k).getD rd
end
noncomputable def a5j (td ty tx:TE):TE:=fun σ H Q=>td σ H fun x H1=>∃ a,x=.ref a∧IsD H1 a∧ty σ H1 fun y H2=>tx σ H2 fun z H3=>∃ o,Xo H3 a y o∧Q (o.getD z) H3
noncomputable section
variable {X:Cx} {o e f:Expr} {apos cpos:Pos} {td ty tx:TE}
theorem Xz (hu:X.A.units+1<cLine) (ho:PE X o td) (he:PE X e ty) (hf:PE X f tx) (m:M2 X o "get" apos e f cpos):PE X (.Call (.Attribute o "get" apos) [e,f] [] cpos) (a5j td ty tx):=by
  intro pins s σ H Q I h
  refine wpAny_Call_method m.base m.few m.line PySem.F.plainAttrs_dict PySem.F.slot_dict_get PySem.F.type_dict_get (thn (ho pins s σ H _ I h) fun u s1 z0=>?_)
  obtain ⟨x,H1,I1,rx,a,ex,d,q1⟩:=z0
  subst ex
  obtain rfl:u=Value.ref a:=rx
  obtain ⟨t1,t2,_⟩:=a5c I1 d
  refine ⟨t1,t2,?_⟩
  rw [m.trees]
  refine Calls.callWith_builtin rfl (Calls.evalArgs_plain (Calls.spliced_cons (thn (he pins s1 σ H1 _ I1 q1) fun iv s2 ⟨y,H2,I2,ry,q2⟩ =>
    Calls.spliced_cons (thn (hf pins s2 σ H2 _ I2 q2) fun fv s3 ⟨z,H3,I3,rz,ov,g,q3⟩=>Calls.spliced_nil ?_))))
  exact a3n hu I3 g ry rz fun w' s4 I4 rw'=>⟨_,H3,I4,rw',q3⟩
end
noncomputable section
variable {X:Cx} {pins:List (Addr × Obj)} {σ:St} {H:Hp} {s:Shared} {a:Addr} {kvs:List (Key × V)} {A:Around} {E:Value→Shared→Prop}
end
noncomputable section
variable {X:Cx} {pins:List (Addr × Obj)} {σ:St} {H:Hp} {s:Shared} {a:Addr} {y:V} {u:Value} {A:Around} {E:Value→Shared→Prop}
end
end L2
end
noncomputable section
set_option linter.all false
set_option maxRecDepth 100000
namespace Att
open PySem PySem.W PySem.Calls PyProof.Rows
theorem Hr {P:Params} {h:Heap}:∀ (ns:List Int) (vs:List Value),WellAll P h vs (ns.map WData.int)→IntsAre vs ns:=by
  intro ns
  induction ns with
  | nil =>
    intro vs w
    rw [List.map_nil] at w
    cases w
    exact .nil
  | cons n ns ih =>
    intro vs w
    rw [List.map_cons] at w
    cases w with
    | cons a b =>
      cases a
      exact .cons _ _ (ih _ b)
theorem Ws {l:OpenLaw} {n:Nat} (hn:l.most=some n) {P:Params} {h:Heap} {args:List WData} {vals:List Value}
    (hpre:l.row.toRowW.claim.pre args=true) (hwl:WellAll P h vals args) :
    ∃ a vs ns,vals=[Value.ref a]∧args=[WData.list (ns.map WData.int)]∧h.get? a=some { cls:=.type "list",data:=.seq vs.toArray }∧IntsAre vs ns∧ns.length≤n:=by
  have hsh:WShape.hasAll [] args [.list .int]=true:=(pre_splitW hpre).1
  have hc:l.pre.holds [] { args:=args } = true:=(pre_splitW hpre).2
  obtain ⟨d,r,rfl,h1,h2⟩:=hasAllW_cons hsh
  obtain rfl:=hasAllW_nil h2
  obtain ⟨xs,rfl,h3⟩:=hasW_list h1
  obtain ⟨ns,rfl⟩:=items_int h3
  have hlen:ns.length≤n:=by
    unfold OpenLaw.pre at hc
    have h4:(WTm.not (.lt (.lit (.int (n:Int))) (.len (.arg 0)))).holds [] { args:=[.list (ns.map .int)] } = true:=by
      have h4:=(holds_andW hc).1
      rw [hn] at h4
      exact h4
    have h5:=condW_of h4 (w_not (w_lt w_lit (w_len_list (w_arg rfl))))
    rw [List.length_map] at h5
    refine Nat.le_of_not_lt fun q=>?_
    have q':(n:Int)<((ns.length:Nat):Int):=by omega
    first
      | (rw [decide_eq_true q'] at h5; exact absurd h5 (by decide))
      | (simp at h5; omega)
  cases hwl with
  | cons w1 w2 =>
    cases w2
    cases w1 with
    | list ho hall=>exact ⟨_,_,ns,rfl,rfl,ho,Hr ns _ hall,hlen⟩
theorem Vs (l:OpenLaw) (args:List WData):l.row.toRowW.claim.post args (.bool true) args=true :=
  postW_of (r:=l.row.toRowW) (X:=(true==true))
    (show WShape.has [] (.bool true) .bool=true by first | rfl | decide | simp [WShape.has,WShape.arms,WShape.armsAll])
    (show (WTm.eq .res (.lit (.bool true))).value [] { args:=args,res:=some (.bool true),after:=args } = some (.bool (true==true)) from w_eq_bool (w_res rfl) w_lit) rfl
theorem Nj {l:OpenLaw} {n:Nat} {q:Program} {loose:List Str} {XP:(Str→Option Value)→Heap→Prop} {YP:World→Heap→Prop} {d:DefRec}
    (hn:l.most=some n) (hdf:d.params.defaults=[])
    (call:∀ (w:World) (s₀ s₁:Shared) (mg mb:Str→Option Value) (fa:Addr) (o:Obj) (pm cd doc:Value) (a:Addr) (vs:List Value) (ns:List Int),
      Ground q loose [] XP w s₀ mg mb s₁.heap→YP w s₁.heap →
      s₁.heap.get? fa=some o→o.data=.func (docDef d.name d.params d.body d.scope pm cd doc)→s₁.heap.CodeRec cd d.name→mg d.name=some (.ref fa) →
      s₁.heap.get? a=some { cls:=.type "list",data:=.seq vs.toArray }→IntsAre vs ns→ns.length≤n→s₁.gens = #[] →
      codeAny (model l.prog w) callerA (.call (.ref fa) ⟨[.ref a],[]⟩) (fun r s'=>r=.ok (.ret (.bool true))∧OldK s₁.heap s'.heap∧s'.os=s₁.os∧AllBare s'.gens) s₁) :
    WalkO q loose XP YP l.row.toRowW d [] (fun f vs=>PySem.call f vs):=by
  intro w s₀ s₁ mg mb G Y fa o pm cd doc dV kV ho hd hcd hD hmg hg args vals as hpre hlay hrd hwl hlo
  obtain rfl:dV=.none:=Dflts.none hD hdf
  obtain rfl:kV=.none:=Dflts.noKw hD
  obtain ⟨a,vs,ns,rfl,rfl,hobj,hints,hlen⟩:=Ws hn hpre hwl
  refine enter_call (codeAny_mono (call w s₀ s₁ mg mb fa o pm cd doc a vs ns G Y ho (fd_plain hd) hcd hmg hobj hints hlen hg) fun r s' hq=>?_)
  obtain ⟨rfl,h2,h3,h4⟩:=hq
  exact ⟨.inl ⟨.bool true,.bool true,[],rfl,fun _=>rfl,.bool true,Vs l _,fun _=>⟨List.Pairwise.nil,fun _ hm=>(nomatch hm)⟩⟩,h2,h3,h4⟩
noncomputable section
variable {prog:Program} {w:World} {A:Around} {E:Value→Shared→Prop} {s:Shared} {K:Frag}
end
end Att
namespace L2
open PySem PySem.Spec PyProof.Rows
theorem Ka:∀ {vs:List Value} {ns:List Int},IntsAre vs ns→Vals (ns.map V.int) vs
  | _,_,.nil=>.nil
  | _,_,.cons n t h=>.cons ⟨t,rfl⟩ (Ka h)
noncomputable def Only (H:Hp):Prop:=∀ b,H b=none∨∃ o xs,H b=some (.frz o (.lst xs))
theorem Yg {P:Program} {w:World} {K:PySem.W.Frag} {mg mb:Str→Option Value} {CX:CXT} {k:Nat} {fa a:Addr} {fd:FuncData} {x:Str} {sp:Sp} {s₁:Shared} {vs:List Value} {ns:List Int}
    (KX:K.In s₁.heap) (hns:s₁.heap.Ns mainGlobals mg) (hb:s₁.heap.Ns builtinsNs mb) (hbb:∀ x:Str,x ≠ "__name__" → mb x=bootBuiltins x) (hlim:s₁.heap.NoLimit) (hg:s₁.gens = #[])
    (ha:s₁.heap.get? a=some { cls:=.type "list",data:=.seq vs.toArray }) (hi:IntsAre vs ns) (hl:ns.length≤sizeLine) (hr:Il k callerA)
    (F:∀ base:Heap,K.In base→base.Ns mainGlobals mg→Ad P w K mg base CX k fa fd [x] sp) (hbind:∀ (s:Shared) (u:Value),BindsTo s fd ⟨[u],[]⟩ [(x,u)])
    (hsp:∀ H:Hp,Only H→SqL K H a (ns.map V.int)→sp [.ref a] H (fun v _=>v=.bl true) fun _ _ _=>False)
    (hCX:∀ H e s',CX [] H s₁ (fun _ _ _=>False) e s'→False) :
    codeAny (model P w) callerA (.call (.ref fa) ⟨[.ref a],[]⟩) (fun r s'=>r=.ok (.ret (.bool true))∧OldK s₁.heap s'.heap∧s'.os=s₁.os∧AllBare s'.gens) s₁:=by
  have rv:=Ka hi
  have lenV:=hi.length
  have core:∀ H:Hp,Only H→SqL K H a (ns.map V.int)→HOk P w H s₁.heap→(∀ b,H b≠none→b=a)→(H a≠none→K.lookup a=none) →
      codeAny (model P w) callerA (.call (.ref fa) ⟨[.ref a],[]⟩) (fun r s'=>r=.ok (.ret (.bool true))∧OldK s₁.heap s'.heap∧s'.os=s₁.os∧AllBare s'.gens) s₁:=by
    intro H hO hS hok hA hK
    have base_of:∀ {b:Addr} {o:Obj},s₁.heap.get? b=some o→H b=none→(Y9 s₁.heap H).get? b=some o:=fun e n=>Y8 e n
    have noA:∀ {b:Addr} {o:Obj} {es:Array DictEntry} {ep:Nat},s₁.heap.get? b=some o→o.data=.dict es ep→H b=none:=fun {b o es ep} e d=>by
      cases q:H b with
      | none=>rfl
      | some u =>
        have e':b=a:=hA b (by rw [q]; simp)
        subst e'
        rw [ha] at e; cases e
        have d':Data.seq vs.toArray _=Data.dict es ep:=d
        cases d'
    have nsK:∀ {b:Addr} {m:Str→Option Value},s₁.heap.Ns b m→(Y9 s₁.heap H).Ns b m:=fun {b m} ⟨o,es,ep,e,d,r⟩=>⟨o,es,ep,base_of e (noA e d),d,r⟩
    have hKb:K.In (Y9 s₁.heap H):=fun b o e=>base_of (KX b o e) (by
      cases q:H b with
      | none=>rfl
      | some u =>
        have e':b=a:=hA b (by rw [q]; simp)
        subst e'
        rw [hK (by rw [q]; simp)] at e; cases e)
    have hM:Mod K mg (Y9 s₁.heap H):=⟨hKb,nsK hns,⟨mb,nsK hb,hbb⟩,let ⟨mc,h1,h2⟩:=hlim; ⟨mc,nsK h1,h2⟩⟩
    have e0:a6d P w K mg (Y9 s₁.heap H) callerA [] s₁ H:=⟨rfl,hM,fun b o e=>a2p e,Nat.le_of_eq (Tz _ _),trivial,fun b hb=>absurd (show b∈([]:List Addr) from hb) (by simp),hok,.of_eq hg⟩
    refine codeAny_mono ((F _ hKb (nsK hns)).run callerA [] s₁ H ⟨[.ref a],[]⟩ [.ref a] [.ref a] _ _ hr e0 (hbind s₁ (.ref a)) (.cons rfl .nil) (hsp H hO hS)) fun r s' h=>?_
    cases r with
    | error e=>exact (hCX H e s' h).elim
    | ok fl =>
      cases fl with
      | next=>exact False.elim h
      | brk=>exact False.elim h
      | cont=>exact False.elim h
      | ret u =>
        obtain ⟨v,H',os,bare,un,hok',r',q⟩:=h
        have q':v=.bl true:=q
        subst q'
        obtain rfl:u=Value.bool true:=r'
        refine ⟨rfl,OldK.of_keep fun b o e=>?_,os,bare⟩
        cases q:H b with
        | none=>exact un.keep b o e q (by intro z; exact absurd (show b∈([]:List Addr) from z) (by simp)) (by simp)
        | some u =>
          rcases hO b with z | ⟨ob,xs,z⟩
          · rw [q] at z; cases z
          · have z2:=un.frzs b ob _ z
            obtain ⟨e1,_⟩:=hok b _ z
            obtain ⟨e2,_⟩:=hok' b _ z2
            rw [e] at e1; cases e1
            exact e2
  cases hk:K.lookup a with
  | some o =>
    have e:=KX a o hk
    rw [ha] at e
    cases e
    refine core (fun _=>none) (fun _=>.inl rfl) (.inr ⟨_,vs.toArray,_,hk,rfl,rfl,rfl,by rw [List.size_toArray,lenV]; exact hl,by simpa using rv⟩) (fun b u z=>by have z':(none:Option HO)=some u:=z; cases z') (fun b z=>absurd rfl z) fun z=>absurd rfl z
  | none =>
    refine core (fun b=>if b=a then some (.frz { cls:=.type "list",data:=.seq vs.toArray } (.lst (ns.map V.int))) else none) (fun b=>?_) (.inl (.inr ⟨{ cls:=.type "list",data:=.seq vs.toArray },if_pos rfl⟩)) (fun b u z=>?_) (fun b z=>?_) fun _=>hk
    · by_cases hb:b=a
      · exact .inr ⟨_,_,if_pos hb⟩
      · exact .inl (if_neg hb)
    · by_cases hb:b=a
      · have z':=(if_pos hb).symm.trans z
        cases z'
        subst hb
        exact ⟨ha,by rw [List.length_map]; exact hl,vs,_,rv,ha⟩
      · have z':=(if_neg hb).symm.trans z
        cases z'
    · by_cases hb:b=a
      · exact hb
      · exact absurd (if_neg hb) z
end L2
namespace L2
open PySem PySem.Spec PyProof.Rows
theorem a2h {l:PySem.W.OpenLaw} {n k:Nat} {q:Program} {loose:List Str} {XP:(Str→Option Value)→Heap→Prop} {YP:World→Heap→Prop} {d:DefRec} {K:Params→PySem.W.Frag} {CX:World→CXT} {sp:World→Sp} {x:Str}
    (hn:l.most=some n) (hn2:n≤sizeLine) (hdf:d.params.defaults=[]) (hr:Il k callerA)
    (hY:∀ (w:World) (h:Heap),YP w h→(K w.params).In h)
    (F:∀ (w:World) (mg:Str→Option Value) (fa:Addr) (h:Heap),(K w.params).In h→h.Ns mainGlobals mg→mg d.name=some (.ref fa) →
      ∃ fd:FuncData,(∀ (s:Shared) (u:Value),BindsTo s fd ⟨[u],[]⟩ [(x,u)]) ∧
        ∀ base:Heap,(K w.params).In base→base.Ns mainGlobals mg→Ad l.prog w (K w.params) mg base (CX w) k fa fd [x] (sp w))
    (hsp:∀ (w:World) (H:Hp) (a:Addr) (ns:List Int),ns.length≤n→Only H→SqL (K w.params) H a (ns.map V.int)→sp w [.ref a] H (fun v _=>v=.bl true) fun _ _ _=>False)
    (hCX:∀ (w:World) (H:Hp) (s:Shared) (e:Value) (s':Shared),CX w [] H s (fun _ _ _=>False) e s'→False) :
    PySem.W.WalkO q loose XP YP l.row.toRowW d [] (fun f vs=>PySem.call f vs):=by
  refine Att.Nj hn hdf fun w s₀ s₁ mg mb fa o pm cd doc a vs ns G Y ho hd hcd hmg hobj hints hlen hg=>?_
  have KX:=hY w _ Y
  obtain ⟨fd,hb,hF⟩:=F w mg fa _ KX G.T.g hmg
  exact Yg KX G.T.g G.T.b G.T.builtins G.T.nolimit hg hobj hints (Nat.le_trans hlen hn2) hr hF hb (fun H hO hS=>hsp w H a ns hlen hO hS) fun H e s'=>hCX w H s₁ e s'
end L2
namespace L2
open PySem PySem.Spec PyProof.Rows
noncomputable def m7 (s:Stmt):Arguments:=match s with
  | .FunctionDef _ a _ _ _ _ _ _ _ _=>a
  | _=>{ posonlyargs:=[],args:=[],vararg:=none,kwonlyargs:=[],kw_defaults:=[],kwarg:=none,defaults:=[] }
noncomputable def lq (s:Stmt):List Stmt:=match s with
  | .FunctionDef _ _ b _ _ _ _ _ _ _=>b
  | _=>[]
noncomputable def gw (s:Stmt):Scope:=match s with
  | .FunctionDef _ _ _ _ _ _ sc _ _ _=>sc
  | _=>{ kind:=.function,names:=[],isGenerator:=false,isCoroutine:=false }
noncomputable abbrev CX0:CXT:=fun _ _ _ _ _ _=>False
noncomputable abbrev E0:XK:=fun _ _ _=>False
theorem a79 {X:Cx}:Passes CX0 X E0:=fun _ _ _ _ _ _ _ h=>h.elim
structure Fun (K:PySem.W.Frag) (x qual:Str) (st:Stmt) (f:Addr) (fd:FuncData):Prop where
  ex:∃ (oc:Value) (od:Option Addr) (kV doc pm:Value) (an:Option Addr) (cdv ct:Value) (osl:Array (Option Value)),
    fd=PySem.W.fnOf x qual (m7 st) (lq st) (gw st) .none kV doc pm an cdv ct∧K.lookup f=some ⟨oc,od,.func fd,osl⟩∧PySem.W.codeIn K cdv qual=true
  kp:PySem.W.keepIn K (.ref f)=true
noncomputable section
variable {P:Program} {w:World} {K:PySem.W.Frag} {mg:Str→Option Value} {base:Heap}
theorem Fun.ok {x qual:Str} {st:Stmt} {f:Addr} {fd:FuncData} {N ps:List Str} {k:Nat} {sp:Sp} (F:Fun K x qual st f fd) (S:mj N ps (gw st)) (len:∀ vs H Q E,sp vs H Q E→vs.length=ps.length)
    (hbody:∀ (cdv:Value) (A:Around) (outer:List Env) (s:Shared) (H:Hp) (vs:List V) (Q:VK) (E:XK),Il k (A.deeper (envOfC qual (gw st) s.heap.objs.size f cdv))→sp vs H Q E →
      ∃ t,PSs (a1h CX0 P w K mg base N qual (gw st) f cdv A outer s H E).nox (lq st) t∧t { nx:=fun _ H'=>Q .non H',rt:=Q } (start N vs) H):Ad P w K mg base CX0 (k+1) f fd ps sp:=by
  obtain ⟨oc,od,kV,doc,pm,an,cdv,ct,osl,rfl,lk,hcd⟩:=F.ex
  refine a6j lk hcd S len fun A outer s H vs Q E hr hsp=>?_
  obtain ⟨t,h,q⟩:=hbody cdv A outer s H vs Q E hr hsp
  exact ⟨t,h.nox,q⟩
theorem Fun.binds {x qual:Str} {st:Stmt} {f:Addr} {fd:FuncData} {ps:List Str} (F:Fun K x qual st f fd)
    (h:∀ (kV doc pm:Value) (an:Option Addr) (cdv ct:Value) (us:List Value),us.length=ps.length→bindArgs (PySem.W.fnOf x qual (m7 st) (lq st) (gw st) .none kV doc pm an cdv ct) ⟨us,[]⟩=pure (ps.zip us)):Binds K fd ps []:=by
  obtain ⟨oc,od,kV,doc,pm,an,cdv,ct,osl,rfl,lk,hcd⟩:=F.ex
  exact .all (h kV doc pm an cdv ct)
theorem bd1 {fd:FuncData} {ps:List Str} (h:∀ a,bindArgs fd ⟨[a],[]⟩=pure (ps.zip [a])) (us:List Value) (hl:us.length=1):bindArgs fd ⟨us,[]⟩=pure (ps.zip us):=by
  cases us with
  | nil=>exact nomatch hl
  | cons a us =>
  cases us with
  | cons _ _=>simp at hl
  | nil=>exact h a
theorem bd2 {fd:FuncData} {ps:List Str} (h:∀ a b,bindArgs fd ⟨[a,b],[]⟩=pure (ps.zip [a,b])) (us:List Value) (hl:us.length=2):bindArgs fd ⟨us,[]⟩=pure (ps.zip us):=by
  cases us with
  | nil=>exact nomatch hl
  | cons a us =>
  cases us with
  | nil=>exact nomatch hl
  | cons b us =>
  cases us with
  | cons _ _=>simp at hl
  | nil=>exact h a b
theorem bd3 {fd:FuncData} {ps:List Str} (h:∀ a b c,bindArgs fd ⟨[a,b,c],[]⟩=pure (ps.zip [a,b,c])) (us:List Value) (hl:us.length=3):bindArgs fd ⟨us,[]⟩=pure (ps.zip us):=by
  cases us with
  | nil=>exact nomatch hl
  | cons a us =>
  cases us with
  | nil=>exact nomatch hl
  | cons b us =>
  cases us with
  | nil=>exact nomatch hl
  | cons c us =>
  cases us with
  | cons _ _=>simp at hl
  | nil=>exact h a b c
theorem bd4 {fd:FuncData} {ps:List Str} (h:∀ a b c d,bindArgs fd ⟨[a,b,c,d],[]⟩=pure (ps.zip [a,b,c,d])) (us:List Value) (hl:us.length=4):bindArgs fd ⟨us,[]⟩=pure (ps.zip us):=by
  cases us with
  | nil=>exact nomatch hl
  | cons a us =>
  cases us with
  | nil=>exact nomatch hl
  | cons b us =>
  cases us with
  | nil=>exact nomatch hl
  | cons c us =>
  cases us with
  | nil=>exact nomatch hl
  | cons d us =>
  cases us with
  | cons _ _=>simp at hl
  | nil=>exact h a b c d
theorem bd5 {fd:FuncData} {ps:List Str} (h:∀ a b c d e,bindArgs fd ⟨[a,b,c,d,e],[]⟩=pure (ps.zip [a,b,c,d,e])) (us:List Value) (hl:us.length=5):bindArgs fd ⟨us,[]⟩=pure (ps.zip us):=by
  cases us with
  | nil=>exact nomatch hl
  | cons a us =>
  cases us with
  | nil=>exact nomatch hl
  | cons b us =>
  cases us with
  | nil=>exact nomatch hl
  | cons c us =>
  cases us with
  | nil=>exact nomatch hl
  | cons d us =>
  cases us with
  | nil=>exact nomatch hl
  | cons e us =>
  cases us with
  | cons _ _=>simp at hl
  | nil=>exact h a b c d e
theorem rm {x qual:Str} {st:Stmt} {f:Addr} {oc:Value} {od an:Option Addr} {osl:Array (Option Value)} {kV doc pm cdv ct:Value} (l:K.lookup f=some ⟨oc,od,.func (PySem.W.fnOf x qual (m7 st) (lq st) (gw st) .none kV doc pm an cdv ct),osl⟩)
    (c:PySem.W.codeIn K cdv qual=true) (k:PySem.W.keepIn K (.ref f)=true):Fun K x qual st f (PySem.W.fnOf x qual (m7 st) (lq st) (gw st) .none kV doc pm an cdv ct):=⟨⟨oc,od,kV,doc,pm,an,cdv,ct,osl,rfl,l,c⟩,k⟩
end
theorem yh {A:Around} {k:Nat} (hr:Il k A):A.units+1<cLine:=Nat.lt_of_le_of_lt (Nat.add_le_add_left (by decide:1≤64) _) hr.units
theorem Hg {n:Nat} (h:n≤1000):n<sizeLine:=Nat.lt_of_le_of_lt h (by decide)
noncomputable section
variable {X:Cx}
theorem pv (i:Nat) {x:Str} {pos:Pos} (hN:X.N[i]? = some x:=by rfl) (hv:Vis X.env.scope x:=by first | exact Or.inl rfl | exact Or.inr (Or.inl rfl) | exact Or.inr (Or.inr rfl)) (hd:(x==("__debug__" : Str))=false:=by decide)
    (hcd:(x==("__classdict__" : Str))=false:=by decide):PE X (.Name x pos) (Yz i):=a4k hN hv hd hcd
end
theorem a0o {A B:Prop} (h:B):if false=true then A else B:=by
  rw [if_neg Bool.false_ne_true]
  exact h
theorem a1t {A B:Prop} (h:A):if true=true then A else B:=by
  rw [if_pos rfl]
  exact h
noncomputable def Same (H H':Hp):Prop:=∀ b o,H b=some o→H' b=some o
theorem Same.refl (H:Hp):Same H H:=fun _ _ h=>h
theorem Same.trans {H H1 H2:Hp} (a:Same H H1) (b:Same H1 H2):Same H H2:=fun c o h=>b c o (a c o h)
theorem Same.free {H H':Hp} (e:Same H H') {l:Addr} (h:H' l=Option.none):H l=Option.none:=by
  cases q:H l with
  | none=>rfl
  | some o =>
    rw [e l o q] at h
    cases h
theorem Same.seq {K:PySem.W.Frag} {H H':Hp} {a:Addr} {xs:List V} (e:Same H H') (h:SqL K H a xs):SqL K H' a xs:=by
  rcases h with (h | ⟨o,h⟩) | h
  · exact .inl (.inl (e _ _ h))
  · exact .inl (.inr ⟨o,e _ _ h⟩)
  · exact .inr h
end L2
end
noncomputable section
set_option linter.all false
set_option maxRecDepth 100000
namespace L2
open PySem PySem.Spec PyProof.Rows
noncomputable section
variable {X:Cx}
end
noncomputable section
variable {κ:Type} [DecidableEq κ]
end
end L2
end
noncomputable section
namespace C
open PySem
noncomputable abbrev Key:=Sum Int Str
inductive T where
  | non | bl (b:Bool) | int (i:Int) | str (x:Str)
  | tup (xs:List T) | lst (xs:List T) | dic (kvs:List (Key × T)) | obj (n:Nat)
instance:Inhabited T:=⟨.non⟩
inductive SO where
  | dic (kvs:List (Key × T)) | lst (xs:List T) | ins (c:Str) (fs:List (Str × T))
noncomputable abbrev Slot:=Option (T × Bool)
structure Sta where
  env:List Slot
  sto:List SO
noncomputable abbrev M (α:Type):=Sta→Option (α × Sta)
noncomputable def Rj (k:Key):List (Key × T)→Option T
  | []=>none
  | (q,t)::r=>if q=k then some t else Rj k r
noncomputable def a0y (k:Key) (t:T) (kvs:List (Key × T)):List (Key × T) :=
  if kvs.any fun p=>decide (p.1=k) then kvs.map fun p=>if p.1=k then (p.1,t) else p else kvs++[(k,t)]
noncomputable def keyOf:T→Option Key
  | .int i=>some (.inl i)
  | .str x=>some (.inr x)
  | _=>none
noncomputable def T9:Key→T
  | .inl i=>.int i
  | .inr x=>.str x
mutual
noncomputable def dat:T→Option PyData
  | .non=>some .none
  | .bl b=>some (.bool b)
  | .int i=>some (.int i)
  | .str x=>if PyData.canLay0 (.str x) then some (.str x) else none
  | .tup xs=>(Mh xs).map .tuple
  | .lst xs=>(Mh xs).map .list
  | .dic _=>none
  | .obj _=>none
noncomputable def Mh:List T→Option (List PyData)
  | []=>some []
  | x::r=>match dat x with
    | some a=>(Mh r).map (a :: ·)
    | none=>none
end
noncomputable def eqD (a b:T):Option Bool:=match dat a with
  | some x=>match dat b with
    | some y=>if x.depth≤40 then some (PyData.eqv x y) else none
    | none=>none
  | none=>none
noncomputable def a2v:List (Key × T)→List (Key × T)→Option Bool
  | [],_=>some true
  | (k,x)::r,ys=>match Rj k ys with
    | none=>some false
    | some y=>match eqD x y with
      | some e=>(a2v r ys).map (e && ·)
      | none=>none
noncomputable def eqT:T→T→Option Bool
  | .dic a,.dic b=>if a.length=b.length then a2v a b else some false
  | x,y=>eqD x y
noncomputable def aq (t:T):M T:=fun s=>some (t,s)
noncomputable def bw (i:Nat):M T:=fun s=>match s.env[i]? with
  | some (some (t,false))=>some (t,s)
  | some (some (t,true))=>some (t,{ s with env:=s.env.set i (some (t,false)) })
  | _=>none
noncomputable def dw:M (List T):=fun s=>some ([],s)
noncomputable def ak (a:M T) (r:M (List T)):M (List T):=fun s=>match a s with
  | some (t,s1)=>match r s1 with
    | some (ts,s2)=>some (t::ts,s2)
    | none=>none
  | none=>none
noncomputable def jc:List Str→M (List T)
  | []=>dw
  | x::r=>ak (aq (.str x)) (jc r)
noncomputable def gn (f:List T→Option T) (a:M (List T)):M T:=fun s=>match a s with
  | some (ts,s1)=>match f ts with
    | some t=>some (t,s1)
    | none=>none
  | none=>none
noncomputable def mUn (f:T→Option T) (a:M T):M T:=fun s=>match a s with
  | some (t,s1)=>match f t with
    | some u=>some (u,s1)
    | none=>none
  | none=>none
noncomputable def mOp (f:T→T→Option T) (a b:M T):M T:=fun s=>match a s with
  | some (t,s1)=>match b s1 with
    | some (u,s2)=>match f t u with
      | some v=>some (v,s2)
      | none=>none
    | none=>none
  | none=>none
noncomputable abbrev Fn:=List T→List SO→Option (T × List SO)
noncomputable def dz (F:Fn) (a:M (List T)):M T:=fun s=>match a s with
  | some (ts,s1)=>match F ts s1.sto with
    | some (t,sto)=>some (t,{ s1 with sto:=sto })
    | none=>none
  | none=>none
noncomputable def fj (a:M T):M Bool:=fun s=>match a s with
  | some (.bl b,s1)=>some (b,s1)
  | _=>none
noncomputable def oh (a:M Bool):M Bool:=fun s=>match a s with
  | some (b,s1)=>some (!b,s1)
  | none=>none
noncomputable def kj (a b:M Bool):M Bool:=fun s=>match a s with
  | some (true,s1)=>b s1
  | some (false,s1)=>some (false,s1)
  | none=>none
noncomputable def mOr (a b:M Bool):M Bool:=fun s=>match a s with
  | some (true,s1)=>some (true,s1)
  | some (false,s1)=>b s1
  | none=>none
noncomputable def iz (a:M Bool):M T:=fun s=>match a s with
  | some (b,s1)=>some (.bl b,s1)
  | none=>none
noncomputable def mIf (c:M Bool) (a b:M T):M T:=fun s=>match c s with
  | some (true,s1)=>a s1
  | some (false,s1)=>b s1
  | none=>none
noncomputable abbrev lim:Nat:=1000000
noncomputable def Av (i:Int):Bool:=decide (-(2 ^ 64)<i∧i<2 ^ 64)
noncomputable def ju:T→T→Option T
  | .int i,.int j=>some (.int (i+j))
  | .str x,.str y=>if x.length+y.length<lim then some (.str (x++y)) else none
  | .tup x,.tup y=>if x.length+y.length<lim then some (.tup (x++y)) else none
  | .lst x,.lst y=>if x.length+y.length<lim then some (.lst (x++y)) else none
  | _,_=>none
noncomputable def qb:T→T→Option T
  | .int i,.int j=>some (.int (i - j))
  | _,_=>none
noncomputable def Ms:T→T→Option T
  | .int i,.int j=>if Av i||Av j then some (.int (i * j)) else none
  | .str x,.int j=>if 0≤j∧j≤1000∧x.length≤100 then some (.str ⟨((List.replicate j.toNat x.cps.toList).flatten).toArray⟩) else none
  | _,_=>none
noncomputable def jy:T→T→Option T
  | .int i,.int j=>if 0<j then some (.int (i%j)) else none
  | _,_=>none
noncomputable def fdl:Nat:=2 ^ 200
noncomputable def j8:T→T→Option T
  | .int i,.int j=>if 0<j∧(j<1073741824∨j.natAbs<fdl) then some (.int (i / j)) else none
  | _,_=>none
noncomputable def Tp:T→T→Option T
  | .int i,.int j=>if 0≤j∧j≤1000∧i.natAbs<1000 then some (.int (i ^ j.toNat)) else none
  | _,_=>none
noncomputable def ni:T→Option T
  | .int i=>some (.int (-i))
  | _=>none
noncomputable def ltT:T→T→Option T
  | .int i,.int j=>some (.bl (decide (i<j)))
  | _,_=>none
noncomputable def leT:T→T→Option T
  | .int i,.int j=>some (.bl (decide (i≤j)))
  | _,_=>none
noncomputable def gtT:T→T→Option T
  | .int i,.int j=>some (.bl (decide (j<i)))
  | _,_=>none
noncomputable def eqO (x y:T):Option T:=match eqT x y with
  | some b=>some (.bl b)
  | none=>none
noncomputable def neO (x y:T):Option T:=match eqT x y with
  | some b=>some (.bl (!b))
  | none=>none
noncomputable def ixI (n:Nat) (i:Int):Option Nat:=if 0≤i then (if i<n then some i.toNat else none) else if -(n:Int)≤i then some (i+n).toNat else none
noncomputable def iw:T→T→Option T
  | .tup xs,.int i=>(ixI xs.length i).bind (xs[·]?)
  | .lst xs,.int i=>(ixI xs.length i).bind (xs[·]?)
  | .str x,.int i=>if x.length<lim then (ixI x.cps.toList.length i).bind fun j=>(x.cps.toList[j]?).map fun c=>.str ⟨#[c]⟩ else none
  | .dic kvs,k=>(keyOf k).bind (Rj · kvs)
  | _,_=>none
noncomputable def m9:List T→Option T
  | [.tup xs]=>some (.int xs.length)
  | [.lst xs]=>some (.int xs.length)
  | [.str x]=>if x.length<lim then some (.int x.length) else none
  | [.dic kvs]=>some (.int kvs.length)
  | _=>none
noncomputable def Bb:List T→Option T
  | [.lst xs]=>some (.tup xs)
  | [.tup xs]=>some (.tup xs)
  | _=>none
noncomputable def Cr:List T→Option T
  | [.lst xs]=>some (.lst xs)
  | [.tup xs]=>some (.lst xs)
  | _=>none
noncomputable def Fb:List T→Option (List Bool)
  | []=>some []
  | .bl b::r=>(Fb r).map (b :: ·)
  | _=>none
noncomputable def Sg:List T→Option T
  | [.lst xs]=>(Fb xs).map fun l=>.bl (l.all id)
  | _=>none
noncomputable def Fp:List T→Option (List Str)
  | []=>some []
  | .str x::r=>(Fp r).map (x :: ·)
  | _=>none
noncomputable def Tr (x:Str):List Str→List Str
  | []=>[x]
  | y::r=>if decide (x.cps.toList<y.cps.toList) then x::y::r else y::Tr x r
noncomputable def Bj (l:List Str):List Str:=l.foldl (fun acc x=>Tr x acc) []
noncomputable def Br:List T→Option T
  | [.lst xs]=>if xs.length<64 then (Fp xs).map fun l=>.lst ((Bj l).map .str) else none
  | [.dic kvs]=>if kvs.length<64 then (Fp (kvs.map fun p=>T9 p.1)).map fun l=>.lst ((Bj l).map .str) else none
  | _=>none
noncomputable def isTup:List T→Option T
  | [.tup _]=>some (.bl true)
  | [.obj _]=>none
  | [_]=>some (.bl false)
  | _=>none
noncomputable def isInt:List T→Option T
  | [.int _]=>some (.bl true)
  | [.bl _]=>some (.bl true)
  | [.obj _]=>none
  | [_]=>some (.bl false)
  | _=>none
noncomputable def a5u:List T→Option T
  | [.bl _]=>some (.bl true)
  | [.obj _]=>none
  | [_]=>some (.bl false)
  | _=>none
noncomputable def isStr:List T→Option T
  | [.str _]=>some (.bl true)
  | [.obj _]=>none
  | [_]=>some (.bl false)
  | _=>none
noncomputable def Wk:T→Option T
  | .lst xs=>some (.lst xs.reverse)
  | .tup xs=>some (.tup xs.reverse)
  | _=>none
noncomputable def N8:T→Bool
  | .non=>true
  | _=>false
noncomputable def a2x (x y:T):Option T:=if N8 y then some (.bl (N8 x)) else none
noncomputable def pq:List T→Option T
  | [.int i]=>some (.int (if i<0 then -i else i))
  | _=>none
noncomputable def Aj (i:Nat):M T:=fun s=>match s.env[i]? with
  | some (some (.lst xs,_))=>some (.int xs.length,s)
  | some (some (.dic xs,_))=>some (.int xs.length,s)
  | _=>none
noncomputable def Ng (i:Nat) (s:Sta):Bool:=match s.env[i]? with
  | some (some (.dic _,_))=>true
  | _=>false
noncomputable def j9 (i:Nat) (s:Sta):Bool:=match s.env[i]? with
  | some (some (.lst _,_))=>true
  | _=>false
noncomputable def En (i:Nat) (k d:M T):M T:=fun s=>if Ng i s then (match k s with
  | some (kt,s1)=>match d s1 with
    | some (dt,s2)=>match s2.env[i]? with
      | some (some (.dic kvs,_))=>match keyOf kt with
        | some q=>some ((Rj q kvs).getD dt,s2)
        | none=>none
      | _=>none
    | none=>none
  | none=>none) else none
inductive Flow where
  | next | ret (t:T) | brk | cont
noncomputable abbrev S:=Sta→Option (Flow × Sta)
noncomputable def jt:S:=fun s=>some (.next,s)
noncomputable def jd (a b:S):S:=fun s=>match a s with
  | some (.next,s1)=>b s1
  | r=>r
noncomputable def jl (e:M T):S:=fun s=>match e s with
  | some (t,s1)=>some (.ret t,s1)
  | none=>none
noncomputable def sIf (c:M Bool) (a b:S):S:=fun s=>match c s with
  | some (true,s1)=>a s1
  | some (false,s1)=>b s1
  | none=>none
noncomputable def cg (i:Nat) (t:T) (own:Bool) (s:Sta):Sta:={ s with env:=s.env.set i (some (t,own)) }
noncomputable def jk (i:Nat) (e:M T):S:=fun s=>match e s with
  | some (t,s1)=>some (.next,cg i t false s1)
  | none=>none
noncomputable def sNew (i:Nat) (e:M T):S:=fun s=>match e s with
  | some (t,s1)=>some (.next,cg i t true s1)
  | none=>none
noncomputable def dg (i:Nat) (e:M T):S:=fun s=>if j9 i s then (match e s with
  | some (t,s1)=>match s1.env[i]? with
    | some (some (.lst xs,true))=>if xs.length<lim then some (.next,cg i (.lst (xs++[t])) true s1) else none
    | _=>none
  | none=>none) else none
noncomputable def j6:T→Option (List T)
  | .lst xs=>some xs
  | .tup xs=>some xs
  | _=>none
noncomputable def dj (i:Nat) (e:M T):S:=fun s=>if j9 i s then (match e s with
  | some (t,s1)=>match j6 t,s1.env[i]? with
    | some ys,some (some (.lst xs,true))=>if xs.length+ys.length<lim then some (.next,cg i (.lst (xs++ys)) true s1) else none
    | _,_=>none
  | none=>none) else none
noncomputable def Es (i:Nat) (k v:M T):S:=fun s=>match v s with
  | some (t,s1)=>if Ng i s1 then (match k s1 with
    | some (kt,s2)=>match s2.env[i]?,keyOf kt with
      | some (some (.dic kvs,true)),some q=>if kvs.length<lim then some (.next,cg i (.dic (a0y q t kvs)) true s2) else none
      | _,_=>none
    | none=>none) else none
  | none=>none
noncomputable def cj (i:Nat):S:=fun s=>match s.env[i]? with
  | some (some (.lst xs,true))=>some (.next,cg i (.lst xs.reverse) true s)
  | _=>none
noncomputable def sNx (u:S):S:=fun s=>match u s with
  | some (.next,s1)=>some (.next,s1)
  | _=>none
noncomputable def fu (i:Nat):S:=fun s=>match s.env[i]? with
  | some (some (t,true))=>some (.ret t,s)
  | _=>none
noncomputable abbrev G:=T→Sta→Option Sta
noncomputable def hName (i:Nat):G:=fun t s=>some (cg i t false s)
noncomputable def m8 (is:List Nat):G:=fun t s=>match t with
  | .tup xs=>if xs.length=is.length then some ((is.zip xs).foldl (fun s p=>cg p.1 p.2 false s) s) else none
  | _=>none
noncomputable def sGo (g:G) (m:M T):S:=fun s=>match m s with
  | some (t,s1)=>match g t s1 with
    | some s2=>some (.next,s2)
    | none=>none
  | none=>none
noncomputable def forL (g:G) (b:S):List T→S
  | []=>fun s=>some (.next,s)
  | t::r=>fun s=>match g t s with
    | some s1=>match b s1 with
      | some (.next,s2)=>forL g b r s2
      | some (.cont,s2)=>forL g b r s2
      | some (.brk,s2)=>some (.next,s2)
      | some (.ret v,s2)=>some (.ret v,s2)
      | none=>none
    | none=>none
noncomputable def mz (g:G) (it:M (List T)) (b:S):S:=fun s=>match it s with
  | some (ts,s1)=>forL g b ts s1
  | none=>none
noncomputable def rangeT (n:Nat):List T:=(List.range n).map fun (k:Nat)=>.int (k:Int)
noncomputable def gk (a:M T):M (List T):=fun s=>match a s with
  | some (.int n,s1)=>if n.natAbs<lim then some (rangeT n.toNat,s1) else none
  | _=>none
noncomputable def jw (a:M T):M (List T):=fun s=>match a s with
  | some (.lst xs,s1)=>if xs.length<lim then some (xs,s1) else none
  | some (.tup xs,s1)=>if xs.length<lim then some (xs,s1) else none
  | _=>none
noncomputable def n6 (s:Slot):Slot:=match s with
  | some (t,_)=>some (t,false)
  | none=>none
noncomputable def qj (s:Sta):Sta:={ s with env:=s.env.map n6 }
noncomputable def Bu (g:G) (c:M Bool) (e:M T):List T→Sta→List T→Option (List T × Sta)
  | [],s,acc=>some (acc,s)
  | t::r,s,acc=>match g t s with
    | some s1=>match c s1 with
      | some (true,s2)=>match e s2 with
        | some (u,s3)=>if acc.length<lim then Bu g c e r (qj s3) (acc++[u]) else none
        | none=>none
      | some (false,s2)=>Bu g c e r (qj s2) acc
      | none=>none
    | none=>none
noncomputable def j5:M Bool:=fun s=>some (true,s)
noncomputable def bh (is:List Nat) (env:List Slot):List Slot:=is.foldl (fun e i=>match e[i]? with
  | some (some (t,_))=>e.set i (some (t,false))
  | _=>e) env
noncomputable def qz (nv:Nat) (cap:List Nat) (g:G) (it:M (List T)) (c:M Bool) (e:M T):M T:=fun s=>match it s with
  | some (ts,s1) =>
    let env:=bh cap s1.env
    match Bu g c e ts ⟨List.replicate nv none++cap.map (fun i=>(env[i]?).getD none),s1.sto⟩ [] with
    | some (us,s2)=>some (.lst us,⟨env,s2.sto⟩)
    | none=>none
  | none=>none
noncomputable def iy (n:Nat) (b:S):Fn:=fun ts sto=>match b ⟨ts.map (fun t=>some (t,false))++List.replicate (n - ts.length) none,sto⟩ with
  | some (.ret t,s)=>some (t,s.sto)
  | some (.next,s)=>some (.non,s.sto)
  | _=>none
noncomputable section
variable {s s':Sta} {t v:T} {a b:M T}
theorem Oj {f:T→T→Option T} (h:mOp f a b s=some (v,s')):∃ t s1 u,a s=some (t,s1)∧b s1=some (u,s')∧f t u=some v:=by
  unfold mOp at h
  cases ha:a s with
  | none=>rw [ha] at h; cases h
  | some p =>
    obtain ⟨t,s1⟩:=p; rw [ha] at h; dsimp only at h
    cases hb:b s1 with
    | none=>rw [hb] at h; cases h -- here
    | some p =>
      obtain ⟨u,s2⟩:=p; rw [hb] at h; dsimp only at h
      cases hf:f t u with
      | none=>rw [hf] at h; cases h
      | some w=>rw [hf] at h; cases h; exact ⟨t,s1,u,rfl,hb,hf⟩
theorem Nr {f:T→Option T} (h:mUn f a s=some (v,s')):∃ t,a s=some (t,s')∧f t=some v:=by
  unfold mUn at h
  cases ha:a s with
  | none=>rw [ha] at h; cases h
  | some p =>
    obtain ⟨t,s1⟩:=p; rw [ha] at h; dsimp only at h
    cases hf:f t with
    | none=>rw [hf] at h; cases h
    | some w=>rw [hf] at h; cases h; exact ⟨t,rfl,hf⟩
theorem Bl {f:List T→Option T} {a:M (List T)} (h:gn f a s=some (v,s')):∃ ts,a s=some (ts,s')∧f ts=some v:=by
  unfold gn at h
  cases ha:a s with
  | none=>rw [ha] at h; cases h
  | some p =>
    obtain ⟨t,s1⟩:=p; rw [ha] at h; dsimp only at h
    cases hf:f t with
    | none=>rw [hf] at h; cases h
    | some w=>rw [hf] at h; cases h; exact ⟨t,rfl,hf⟩
theorem Bg {r:M (List T)} {ts:List T} (h:ak a r s=some (ts,s')):∃ t s1 us,a s=some (t,s1)∧r s1=some (us,s')∧ts=t::us:=by
  unfold ak at h
  cases ha:a s with
  | none=>rw [ha] at h; cases h
  | some p =>
    obtain ⟨t,s1⟩:=p; rw [ha] at h; dsimp only at h
    cases hb:r s1 with
    | none=>rw [hb] at h; cases h -- here
    | some p=>obtain ⟨u,s2⟩:=p; rw [hb] at h; cases h; exact ⟨t,s1,u,rfl,hb,rfl⟩
theorem W8 {F:Fn} {a:M (List T)} (h:dz F a s=some (v,s')):∃ ts s1 sto,a s=some (ts,s1)∧F ts s1.sto=some (v,sto)∧s' = { s1 with sto:=sto }:=by
  unfold dz at h
  cases ha:a s with
  | none=>rw [ha] at h; cases h
  | some p =>
    obtain ⟨t,s1⟩:=p; rw [ha] at h; dsimp only at h
    cases hf:F t s1.sto with
    | none=>rw [hf] at h; cases h
    | some w=>obtain ⟨w,sto⟩:=w; rw [hf] at h; cases h; exact ⟨t,s1,sto,rfl,hf,rfl⟩
theorem Ck {b:Bool} (h:fj a s=some (b,s')):a s=some (.bl b,s'):=by
  unfold fj at h
  cases ha:a s with
  | none=>rw [ha] at h; cases h
  | some p =>
    obtain ⟨t,s1⟩:=p; rw [ha] at h
    cases t <;> first | (cases h; rfl) | (cases h)
theorem K7 {c:M Bool} (h:iz c s=some (v,s')):∃ b,c s=some (b,s')∧v=.bl b:=by
  unfold iz at h
  cases ha:c s with
  | none=>rw [ha] at h; cases h
  | some p=>obtain ⟨t,s1⟩:=p; rw [ha] at h; cases h; exact ⟨t,rfl,rfl⟩
theorem Ot {c:M Bool} {b:Bool} (h:oh c s=some (b,s')):∃ k,c s=some (k,s')∧b=!k:=by
  unfold oh at h
  cases ha:c s with
  | none=>rw [ha] at h; cases h
  | some p=>obtain ⟨t,s1⟩:=p; rw [ha] at h; cases h; exact ⟨t,rfl,rfl⟩
theorem Qf {c d:M Bool} {b:Bool} (h:kj c d s=some (b,s')):(∃ s1,c s=some (true,s1)∧d s1=some (b,s'))∨(c s=some (false,s')∧b=false):=by
  unfold kj at h
  cases ha:c s with
  | none=>rw [ha] at h; cases h
  | some p =>
    obtain ⟨k,s1⟩:=p; rw [ha] at h
    cases k with
    | true=>exact .inl ⟨s1,rfl,h⟩
    | false=>cases h; exact .inr ⟨rfl,rfl⟩
theorem a1c {c d:M Bool} {b:Bool} (h:mOr c d s=some (b,s')):(∃ s1,c s=some (false,s1)∧d s1=some (b,s'))∨(c s=some (true,s')∧b=true):=by
  unfold mOr at h
  cases ha:c s with
  | none=>rw [ha] at h; cases h
  | some p =>
    obtain ⟨k,s1⟩:=p; rw [ha] at h
    cases k with
    | false=>exact .inl ⟨s1,rfl,h⟩
    | true=>cases h; exact .inr ⟨rfl,rfl⟩
theorem a2b {c:M Bool} (h:mIf c a b s=some (v,s')):(∃ s1,c s=some (true,s1)∧a s1=some (v,s'))∨(∃ s1,c s=some (false,s1)∧b s1=some (v,s')):=by
  unfold mIf at h
  cases ha:c s with
  | none=>rw [ha] at h; cases h
  | some p =>
    obtain ⟨k,s1⟩:=p; rw [ha] at h
    cases k with
    | true=>exact .inl ⟨s1,rfl,h⟩
    | false=>exact .inr ⟨s1,rfl,h⟩
theorem Xh {i:Nat} (h:bw i s=some (v,s')):(s.env[i]? = some (some (v,false))∧s'=s)∨(s.env[i]? = some (some (v,true))∧s' = { s with env:=s.env.set i (some (v,false)) }):=by
  unfold bw at h
  split at h
  · rename_i t e; cases h; exact .inl ⟨e,rfl⟩
  · rename_i t e; cases h; exact .inr ⟨e,rfl⟩
  · cases h
end
end C
end
noncomputable section
set_option linter.all false
set_option maxRecDepth 100000
set_option maxHeartbeats 4000002
namespace L2
open PySem PySem.Spec PyProof.Rows
noncomputable section
variable {pr:Program} {wd:World} {Ar:Around} {Rs:Result→Shared→Prop} {s:Shared}
theorem Mg {el tgt itr:Expr} {cs:List Expr} {scp:Scope} {ps:Pos} {itv accv:Value} {en:Env} (J:Nat→Shared→Prop)
    (turn:∀ n z,J n z→wpAny (model pr wd) Ar (pyNext itv) (fun nx z1=>match nx with
      | none=>Rs (.ok .next) z1
      | some v=>wpAny (model pr wd) Ar (letOwnedTupleGo tgt itv v) (fun _ z2=>wpAny (model pr wd) Ar (assign tgt en v) (fun _ z3 =>
          wpAny (model pr wd) Ar (forIn cs true fun c go=>if go=true then do let ok ← isTrue c en (eval c en); pure (ForInStep.yield ok) else pure (ForInStep.yield go)) (fun ok z4 =>
            if ok=true then wpAny (model pr wd) Ar (eval el en) (fun x z5 =>
              wpAny (model pr wd) Ar (call (.builtin "list.append") [accv,x]) (fun _ z6=>∃ m,m<n∧J m z6) (fun _ _=>False) z5) (fun _ _=>False) z4
            else ∃ m,m<n∧J m z4) (fun _ _=>False) z3) (fun _ _=>False) z2) (fun _ _=>False) z1) (fun _ _=>False) z)
    (n:Nat) (h:J n s) :
    codeAny (model pr wd) Ar (.compLoop (.ListComp el [⟨tgt,itr,cs,0⟩] scp ps) 0 itv accv en) Rs s:=by
  refine codeAny_loop rfl J (fun k z hz=>?_) n h
  show wpAny _ Ar ((compTurn (.ListComp el [⟨tgt,itr,cs,0⟩] scp ps) 0 itv accv en).onRaise (fun ex=>do noteFrame ex en; theTreesLotGoes ex)) _ _ z
  refine wpAny_noted ?_
  rw [compTurn_list]
  refine wpAny_bind (wpAny_standAt (wpAny_bind (wpAny_mono (turn k z hz) (fun nx z1 g1=>?_) fun _ _ no=>no.elim)))
  cases nx with
  | none=>exact wpAny_pure g1
  | some v =>
    refine wpAny_bind (wpAny_mono g1 (fun _ z2 g2=>?_) fun _ _ no=>no.elim)
    refine wpAny_bind (wpAny_mono g2 (fun _ z3 g3=>wpAny_bind (wpAny_mono g3 (fun ok z4 g4=>?_) fun _ _ no=>no.elim)) fun _ _ no=>no.elim)
    cases ok with
    | false=>exact wpAny_pure (And.intro rfl g4)
    | true =>
      exact wpAny_bind (wpAny_bind (wpAny_mono g4 (fun x z5 g5=>wpAny_bind (wpAny_mono g5 (fun _ z6 g6=>wpAny_pure (wpAny_pure (And.intro rfl g6))) fun _ _ no=>no.elim)) fun _ _ no=>no.elim))
end
noncomputable def Sd (env:Env):List (Str × NameKind)→List (Str × Addr)→List (Str × Addr)
  | [],cs=>cs
  | (n,k)::r,cs=>Sd env r (if (k==NameKind.free)=true then (match env.cells.lookup n with | some c=>(n,c)::cs | none=>cs) else cs)
noncomputable def Cv (env:Env) (names:List (Str × NameKind)):Bool:=names.all fun y=>!(y.2==NameKind.free)||(env.cells.lookup y.1).isSome
theorem Ds {scope:Scope} {env:Env} (h:Cv env scope.names=true):closureFor scope env=pure (Sd env scope.names []):=by
  have key:∀ (l:List (Str × NameKind)) (cs:List (Str × Addr)),Cv env l=true →
      (forIn (m:=Sem) l cs fun x r=>(do
        if (x.2==NameKind.free)=true then
          let c ← cellOf env x.1
          pure (ForInStep.yield ((x.1,c)::r))
        else pure (ForInStep.yield r)))=pure (Sd env l cs):=by
    intro l
    induction l with
    | nil=>intro cs _; rfl
    | cons x r ih =>
      intro cs h
      obtain ⟨n,k⟩:=x
      unfold Cv at h
      rw [List.all_cons,Bool.and_eq_true] at h -- here
      obtain ⟨h1,h2⟩:=h
      rw [List.forIn_cons]
      by_cases hk:(k==NameKind.free)=true
      · have h1':(env.cells.lookup n).isSome=true:=by simpa [hk] using h1
        obtain ⟨c,hc⟩:=Option.isSome_iff_exists.mp h1'
        have e:cellOf env n=pure c:=by unfold cellOf; rw [hc]
        simp only [hk,if_true,e,pure_bind]
        rw [ih _ h2]
        simp only [Sd,hk,if_true,hc]
      · simp only [hk,if_false,pure_bind,Bool.false_eq_true]
        rw [ih _ h2]
        simp only [Sd,hk,if_false,Bool.false_eq_true]
  have:=key scope.names [] h
  unfold closureFor
  simpa using this
noncomputable def yg (X:Cx) (scope:Scope) (N:List Str) (C:Addr) (s₀:Shared) (H₀:Hp) (ex:List Addr) (pn:List (Addr × Obj)):Cx :=
  { X with N:=N,s₀:=s₀,H₀:=H₀,env:=compEnvC scope (Sd X.env scope.names []) C X.env,outer:=X.stack,ex:=ex,fn:=fun _=>false,pn:=pn,xe:=fun _ _=>False }
structure J4 (X:Cx) (scope:Scope) (N:List Str):Prop where
  has:Cv X.env scope.names=true
  kind:scope.kind=.function
  nocell:∀ y∈scope.names,y.2≠.cell
  names:∀ y∈scope.names,y.2=.local→scope.names.lookup y.1=some .local
noncomputable def a6c (X:Cx) (scope:Scope) (x:Str):Prop :=
  (X.env.kindOf x=some .cell∨X.env.kindOf x=some .free)∧Vis X.env.scope x∧((relabel scope X.env).names.lookup x=some .cell∨(relabel scope X.env).names.lookup x=some .free)
theorem Hs {env:Env}:∀ (l:List (Str × NameKind)) (cs:List (Str × Addr)),(∀ x c,cs.lookup x=some c→env.cells.lookup x=some c) →
    ∀ x c,(Sd env l cs).lookup x=some c→env.cells.lookup x=some c
  | [],cs,h,x,c,e=>h x c e
  | (n,k)::r,cs,h,x,c,e=>by
    rw [Sd] at e
    refine Hs r _ (fun y d q=>?_) x c e
    split at q
    · split at q
      · rename_i c' hc'
        rw [List.lookup_cons] at q
        split at q
        · rename_i hb
          cases q
          have hyn:=eq_of_beq hb
          rw [hyn]; exact hc'
        · exact h y d q
      · exact h y d q
    · exact h y d q
theorem U9 {env:Env}:∀ (l:List (Str × NameKind)) (cs:List (Str × Addr)) (x:Str),(∃ c,cs.lookup x=some c)→∃ c,(Sd env l cs).lookup x=some c
  | [],cs,x,h=>h
  | (n,k)::r,cs,x,h=>by
    rw [Sd]
    refine U9 r _ x ?_
    split
    · split
      · rename_i c' hc'
        rw [List.lookup_cons]
        split
        · exact ⟨_,rfl⟩
        · exact h
      · exact h
    · exact h
theorem Vv {env:Env}:∀ (l:List (Str × NameKind)) (cs:List (Str × Addr)) (x:Str),Cv env l=true→(x,NameKind.free)∈l→∃ c,(Sd env l cs).lookup x=some c
  | [],cs,x,_,h=>by simp at h
  | (n,k)::r,cs,x,hh,h=>by
    unfold Cv at hh
    rw [List.all_cons,Bool.and_eq_true] at hh
    rw [Sd]
    rcases List.mem_cons.mp h with e | h'
    · injection e with e1 e2
      subst e1; subst e2
      have h1:(env.cells.lookup x).isSome=true:=by simpa using hh.1
      obtain ⟨c,hc⟩:=Option.isSome_iff_exists.mp h1
      refine U9 r _ x ?_
      simp [hc]
    · exact Vv r _ x hh.2 h'
theorem mem_of_lookup {α:Type}:∀ {l:List (Str × α)} {x:Str} {k:α},l.lookup x=some k→(x,k)∈l
  | [],_,_,h=>by simp at h
  | (n,k')::r,x,k,h=>by
    rw [List.lookup_cons] at h
    split at h
    · rename_i hb
      cases h
      have hyn:=eq_of_beq hb
      rw [hyn]; exact List.mem_cons_self
    · exact List.mem_cons_of_mem _ (mem_of_lookup h)
theorem Qs {scope:Scope} {env:Env} (nc:∀ y∈scope.names,y.2≠.cell) {x:Str} (h:(relabel scope env).names.lookup x=some .cell∨(relabel scope env).names.lookup x=some .free):(x,NameKind.free)∈scope.names:=by
  have:∃ k,(x,k)∈(relabel scope env).names∧(k=.cell∨k=.free):=by
    rcases h with h | h
    · exact ⟨_,mem_of_lookup h,.inl rfl⟩
    · exact ⟨_,mem_of_lookup h,.inr rfl⟩
  obtain ⟨k,hm,hk⟩:=this
  obtain ⟨⟨n,k'⟩,hm',e⟩:=List.mem_map.mp hm
  dsimp only at e
  split at e
  · rename_i hc
    cases e
    simp only [Bool.and_eq_true,beq_iff_eq] at hc
    obtain ⟨⟨h1,_⟩,_⟩:=hc
    subst h1; exact hm'
  · cases e
    rcases hk with rfl | rfl
    · exact absurd rfl (nc _ hm')
    · exact hm'
noncomputable def PTs (X:Cx) (ifs:List Expr) (t:TT):Prop:=∀ (pins:List (Addr × Obj)) (s:Shared) (σ:St) (H:Hp) (Q:Bool→Hp→Prop),Inv X pins σ H s→t σ H Q →
  wpAny (model X.prog X.w) X.A (forIn ifs true fun c r=>if r=true then do let ok ← isTrue c X.env (eval c X.env); pure (ForInStep.yield ok) else pure (ForInStep.yield r)) (TP X pins σ Q) X.xe s
theorem a0v {X:Cx}:PTs X [] (fun _ H Q=>Q true H):=fun pins s σ H Q I h=>wpAny_tests_nil ⟨H,I,h⟩
theorem a09 {X:Cx} {c:Expr} {t:TT} (h:PT X c t):PTs X [c] t:=fun pins s σ H Q I q=>wpAny_tests_one (h pins s σ H Q I q)
noncomputable def Mr (X:Cx) (scope:Scope) (N:List Str) (g:TG) (tc:TT) (te:TE) (σ:St) (J:It) (H1:Hp) (Q:VK):Prop:=∀ D,H1 D=none→∃ σ0:St,σ0.length=N.length ∧
  (∀ (i:Nat) (v:V) (x:Str),σ0[i]? = some (some v)→N[i]? = some x→Vis (relabel scope X.env) x→∃ k:Nat,X.N[k]? = some x∧σ[k]? = some (some v)∧a6c X scope x) ∧
  ∃ W:Nat→Nat→St→Hp→Prop,(∃ m,W 0 m σ0 (upd H1 D (.lst [])))∧∀ i m σ' H',W i m σ' H' →
    (J.stop i H'∧Q (.ref D) H')∨(J.go i H'∧∀ x H2,J.yld i H' x H2→g x σ' H2 fun σ2 H3=>tc σ2 H3 fun b H4=>if b=true then te σ2 H4 fun y H5=>∃ l,H5 D=some (.lst l)∧l.length<sizeLine∧∃ m',m'<m∧W (i+1) m' σ2 (upd H5 D (.lst (l++[y]))) else ∃ m',m'<m∧W (i+1) m' σ2 H4)
noncomputable def a2l (X:Cx) (scope:Scope) (N:List Str) (wi:TI) (g:TG) (tc:TT) (te:TE):TE:=fun σ H Q=>wi σ H fun J H1=>Mr X scope N g tc te σ J H1 Q
noncomputable section
variable {X:Cx} {scope:Scope} {N:List Str}
theorem Vx (sc:J4 X scope N) {pins:List (Addr × Obj)} {σ:St} {H:Hp} {s:Shared} {fp:List Addr} (I:Inv X pins σ H s) (hf:∀ b∈fp,M8 X pins H b) (hfl:∀ b∈fp,b<s.heap.objs.size) :
    (yg X scope N s.heap.objs.size s H fp (X.pn++pins)).Ok where
  mod:=I.ok.mod
  kind:=sc.kind
  glob:=I.ok.glob
  blt:=I.ok.blt
  above:=Nat.le_refl _
  inj:=fun x y c h1 h2=>I.ok.inj x y c (Hs _ [] (fun _ _ z=>by simp at z) x c h1) (Hs _ [] (fun _ _ z=>by simp at z) y c h2)
  has:=fun x h=>Vv _ [] x sc.has (Qs sc.nocell h)
  cab:=fun x c h=>by cases h
  hd:=I.ok.hd
  frames:=I.ok.frames
  stk:=.inl rfl
  exf:=fun b hb=>⟨Nat.ne_of_lt (hfl b hb),fun x c h=>(hf b hb).2.2.2.2.1 x c (Hs _ [] (fun _ _ z=>by simp at z) x c h)⟩
  bs:=I.bs
  bsz:=Nat.le_trans I.ok.bsz I.sz
  noex:=fun b o e hb=>by
    rcases (hf b hb).2.2.2.1 with z | z
    · exact I.ok.noex b o e z
    · exact absurd (Nat.lt_of_lt_of_le (Heap.lt_size e) (Nat.le_trans I.ok.bsz z)) (Nat.lt_irrefl _)
  exfs:=fun b hb z=>by
    rcases List.mem_cons.mp (I.Qt b z) with e | e
    · exact (hf b hb).2.1 e
    · exact (hf b hb).2.2.1 e
  Tt:=I.stack
  frf:=I.U3
theorem Tf (sc:J4 X scope N) {pins:List (Addr × Obj)} {σ σ0:St} {H:Hp} {s:Shared} {fp:List Addr} {h':Heap} {m:Str→Option Value} {tk:Nat} (I:Inv X pins σ H s) (hf:∀ b∈fp,M8 X pins H b) (hfl:∀ b∈fp,b<s.heap.objs.size)
    (hl:σ0.length=N.length) (h0:∀ (i:Nat) (v:V) (x:Str),σ0[i]? = some (some v)→N[i]? = some x→Vis (relabel scope X.env) x→∃ k:Nat,X.N[k]? = some x∧σ[k]? = some (some v)∧a6c X scope x)
    (hn:h'.Ns s.heap.objs.size m) (hk:∀ b o,s.heap.get? b=some o→h'.get? b=some o) :
    Inv (yg X scope N s.heap.objs.size s H fp (X.pn++pins)) [] σ0 H { s with heap:=h',toks:=tk } where
  ok:=Vx sc I hf hfl
  os:=rfl
  bare:=I.bare
  base:=Un.kept hk
  loc:=⟨m,hn,fun i x v e1 e2 e3=>by
    obtain ⟨k,n2,n3,ck,cv,cr⟩:=h0 i v x e2 e1 e3
    obtain ⟨m0,_,hl0⟩:=I.loc
    obtain ⟨u,r,l⟩:=hl0 k x v n2 n3 cv
    refine ⟨u,r,.inr ⟨cr,?_⟩⟩
    rcases l with ⟨l1,_⟩ | ⟨_,c,hc,z⟩
    · rcases ck with q | q <;> (rw [l1] at q; cases q)
    · obtain ⟨c',hc'⟩:=Vv (env:=X.env) scope.names [] x sc.has (Qs sc.nocell cr)
      have q:=Hs scope.names [] (fun _ _ z=>by simp at z) x c' hc'
      rw [hc] at q; cases q
      obtain ⟨o,ho,hd⟩:=z
      exact ⟨c,hc',o,hk _ _ ho,hd⟩⟩
  cell:=fun x c e=>by
    obtain ⟨v,o,ho,hd⟩:=I.cell x c (Hs scope.names [] (fun _ _ z=>by simp at z) x c e)
    exact ⟨v,o,hk _ _ ho,hd⟩
  free:=I.hok.fresh (Nat.le_refl _)
  freeC:=fun x c e=>I.freeC x c (Hs scope.names [] (fun _ _ z=>by simp at z) x c e)
  pin:=fun p hp=>by
    have hp':p∈X.pn++pins:=by simpa [yg] using hp
    obtain ⟨a,b,c,d,e⟩:=I.pin p hp'
    refine ⟨hk _ _ a,b,Nat.ne_of_lt (Heap.lt_size a),fun z=>?_,e⟩
    rcases List.mem_cons.mp (I.Qt p.1 z) with q | q
    · exact c q
    · exact d q
  hok:=I.hok.kept hk
  len:=hl
theorem Ow {pins:List (Addr × Obj)} {σ σ':St} {H H':Hp} {s s':Shared} {fp:List Addr} {h':Heap} (I:Inv X pins σ H s) (hf:∀ b∈fp,M8 X pins H b)
    (J:Inv (yg X scope N s.heap.objs.size s H fp (X.pn++pins)) [] σ' H' s') (hs:Heap.SameBut s.heap.objs.size s'.heap h'):Inv X pins σ H' { s' with heap:=h' }:=by
  have kb:∀ b o,b≠s.heap.objs.size→s'.heap.get? b=some o→h'.get? b=some o:=fun b o n e=>hs.extBut b o n e
  have ne:∀ b o,s.heap.get? b=some o→b≠s.heap.objs.size:=fun b o e=>Nat.ne_of_lt (Heap.lt_size e)
  have fr:H' s.heap.objs.size=none:=J.free
  have u0:Un (frs X.stack) fp H H' s.heap s'.heap:=J.base
  have u:Un (frs X.stack) fp H H' s.heap h':=⟨fun b o e n h1 h2=>kb b o (ne b o e) (u0.keep b o e n h1 h2),fun b o e n h1 h2=>by
      obtain ⟨sl,q⟩:=u0.slot b o e n h1 h2
      exact ⟨sl,kb b _ (ne b o e) q⟩,u0.free,fun b o e h=>by
      obtain ⟨o',q⟩:=u0.there b o e h
      exact ⟨o',kb b _ (ne b o e) q⟩,u0.tups,u0.frzs,u0.tbls⟩
  have hok:HOk X.prog X.w H' h':=fun b o e=>by
    refine (J.hok b o e).stay (fun c v hc q=>kb c v ?_ q) (fun _ q=>q) fun _ _ q=>q
    rcases hc with z | z
    · rw [z]; intro y; rw [y] at e; rw [fr] at e; cases e
    · intro y; rw [y] at z; rw [fr] at z; cases z
  have hos:s'.os=s.os:=J.os
  obtain ⟨hh,g,d,t,os'⟩:=s'
  obtain rfl:os'=s.os:=hos
  exact Inv.call (X:=X) (s:=s) (H:=H) (h':=h') (g':=g) (d':=d) (t':=t) (ch:=fp) I u hok J.bare fun b hb=>⟨(hf b hb).2.2.2.1,(hf b hb).2.1,(hf b hb).2.2.2.2.1,(hf b hb).2.2.2.2.2⟩
variable {tg iter elt:Expr} {ifs:List Expr} {pos:Pos} {g:TG} {tc:TT} {te:TE}
theorem J8 (sc:J4 X scope N) (calm:X.calm=true)
    (hg:∀ C s₀ H₀ ex pn,PG (yg X scope N C s₀ H₀ ex pn) tg g) (hc:∀ C s₀ H₀ ex pn,PTs (yg X scope N C s₀ H₀ ex pn) ifs tc) (he:∀ C s₀ H₀ ex pn,PE (yg X scope N C s₀ H₀ ex pn) elt te)
    {pins:List (Addr × Obj)} {σ:St} {H1:Hp} {s₂:Shared} {it:Addr} {fp:List Addr} {tn:Nat→Heap→Prop} {J:It} {Q:VK} {E:Value→Shared→Prop} {RR:Value→Addr→Result→Shared→Prop}
    (I:Inv X pins σ H1 s₂) (T:Turn X.prog X.w X.K tg J fp it tn) (st2:tn 0 s₂.heap) (f2:∀ b∈fp,M8 X pins H1 b) (q:Mr X scope N g tc te σ J H1 Q)
    (hRR:∀ D s₃ H3 σ' H' s',Inv X pins σ H3 s₃→(∀ b∈fp,M8 X pins H3 b)→Inv (yg X scope N s₃.heap.objs.size s₃ H3 fp (X.pn++pins)) [] σ' H' s'→Q (.ref D) H'→RR (.ref D) s₃.heap.objs.size (.ok .next) s') :
    wpAny (model X.prog X.w) X.A (newList []) (fun acc s₃=>wpAny (model X.prog X.w) X.A (newFunctionEnv scope X.env.globals (Sd X.env scope.names []) [] X.env.qual none .none (some X.env)) (fun cenv s₄ =>
      codeAny (model X.prog X.w) X.A (.compStart (.ListComp elt [⟨tg,iter,ifs,0⟩] scope pos) 0 (.ref it) acc { cenv with scope:=relabel scope X.env }) (RR acc cenv.locals) s₄) E s₃) E s₂:=by
  refine wpAny_newObj_type (wpAny_newFunctionEnv sc.nocell (by intro y hy; simp at hy) (fun h₁ hns₁ hsb₁=>?_) sc.kind)
  dsimp only at hns₁ hsb₁ ⊢
  have I3:Inv X pins σ (upd H1 s₂.heap.objs.size (.lst [])) { s₂ with heap:=s₂.heap.push { cls:=.type "list",dict:=none,data:=.seq ([]:List Value).toArray } } :=
    I.laid (t':=s₂.toks) (fun b ob q=>Heap.get?_push_of_some _ q) (Nat.le_refl _) ⟨Nat.zero_le _,[],_,.nil,Heap.get?_push_size _ rfl⟩
  generalize hs3:({ s₂ with heap:=s₂.heap.push { cls:=.type "list",dict:=none,data:=.seq ([]:List Value).toArray } }:Shared)=s₃ at I3
  have hheap:s₂.heap.push { cls:=.type "list",dict:=none,data:=.seq ([]:List Value).toArray } = s₃.heap:=by rw [← hs3]
  have hstate:∀ (h:Heap) (t:Nat),({ s₂ with heap:=h,toks:=t }:Shared) = { s₃ with heap:=h,toks:=t }:=fun h t=>by rw [← hs3]
  rw [hheap] at hns₁ hsb₁ ⊢
  have lt2:∀ b∈fp,b<s₂.heap.objs.size:=fun b hb=>by
    obtain ⟨o,ho,_⟩:=T.obj _ _ st2 b hb
    exact Heap.lt_size ho
  have sz3:s₃.heap.objs.size=s₂.heap.objs.size+1:=by rw [← hheap,Heap.size_push]
  have k23:∀ b o,s₂.heap.get? b=some o→s₃.heap.get? b=some o:=fun b o e=>by rw [← hheap]; exact Heap.get?_push_of_some _ e
  have f3:∀ b∈fp,M8 X pins (upd H1 s₂.heap.objs.size (.lst [])) b:=fun b hb=>⟨by rw [nq (Nat.ne_of_lt (lt2 b hb))]; exact (f2 b hb).1,(f2 b hb).2⟩
  have lt3:∀ b∈fp,b<s₃.heap.objs.size:=fun b hb=>by rw [sz3]; exact Nat.lt_succ_of_lt (lt2 b hb)
  obtain ⟨σ0,hl,h0,W,⟨m0,w0⟩,turn⟩:=q s₂.heap.objs.size (I.hok.fresh (Nat.le_refl _))
  have k34:∀ b o,s₃.heap.get? b=some o→h₁.get? b=some o:=fun b o e=>hsb₁.extBut b o (Nat.ne_of_lt (Heap.lt_size e)) (Heap.get?_push_of_some _ e)
  rw [hstate]
  have J0:=Tf (tk:=s₂.toks+([]:List (Str × Value)).length) sc I3 f3 lt3 hl h0 hns₁ k34
  have st4:tn 0 h₁:=T.keep _ _ _ st2 fun b _ o e=>k34 b o (k23 b o e)
  have key:∀ s₄:Shared,s₄ = { s₃ with heap:=h₁,toks:=s₂.toks+([]:List (Str × Value)).length }→codeAny (model X.prog X.w) X.A (.compLoop (.ListComp elt [⟨tg,iter,ifs,0⟩] scope pos) 0 (.ref it) (.ref s₂.heap.objs.size)
      (yg X scope N s₃.heap.objs.size s₃ (upd H1 s₂.heap.objs.size (.lst [])) fp (X.pn++pins)).env) (RR (.ref s₂.heap.objs.size) s₃.heap.objs.size) s₄:=by
    rintro s₄ rfl
    generalize hX:yg X scope N s₃.heap.objs.size s₃ (upd H1 s₂.heap.objs.size (.lst [])) fp (X.pn++pins)=X' at J0
    have hP:X'.prog=X.prog:=by rw [← hX]; rfl
    have hW:X'.w=X.w:=by rw [← hX]; rfl
    have hA:X'.A=X.A:=by rw [← hX]; rfl
    have hxe:X'.xe=fun _ _=>False:=by rw [← hX]; rfl
    have hK:X'.K=X.K:=by rw [← hX]; rfl
    have hcal:X'.calm=true:=by rw [← hX]; exact calm
    have stat:∀ {H':Hp},(∀ b∈fp,H' b=none)→∀ b∈fp,M8 X' [] H' b:=fun hn b hb=>by
      have z:=Vx sc I3 f3 lt3
      rw [hX] at z
      refine ⟨hn b hb,(z.exf b (by rw [← hX]; exact hb)).1,z.exfs b (by rw [← hX]; exact hb),.inl (by rw [← hX]; exact hb),(z.exf b (by rw [← hX]; exact hb)).2,fun p hp=>?_⟩
      have hp':p∈X.pn++pins:=by rw [← hX] at hp; simpa [yg] using hp
      exact (f3 b hb).2.2.2.2.2 p hp'
    have hg':PG X' tg g:=by rw [← hX]; exact hg _ _ _ _ _
    have hc':PTs X' ifs tc:=by rw [← hX]; exact hc _ _ _ _ _
    have he':PE X' elt te:=by rw [← hX]; exact he _ _ _ _ _
    have fin:∀ σ' H' s',Inv X' [] σ' H' s'→Q (.ref s₂.heap.objs.size) H'→RR (.ref s₂.heap.objs.size) s₃.heap.objs.size (.ok .next) s':=fun σ' H' s' I' q'=>hRR _ s₃ _ σ' H' s' I3 f3 (by rw [hX]; exact I') q'
    have T':Turn X'.prog X'.w X'.K tg J fp it tn:=by rw [hP,hW,hK]; exact T
    rw [← hP,← hW,← hA]
    refine Mg (J:=fun n s'=>∃ i σ' H',Inv X' [] σ' H' s'∧tn i s'.heap∧(∀ b∈fp,H' b=none)∧W i n σ' H') ?_ m0 ⟨0,σ0,_,J0,st4,fun b hb=>(f3 b hb).1,w0⟩
    rintro n s5 ⟨i,σ5,H5,I5,st5,fr5,w5⟩
    rcases turn i n σ5 H5 w5 with ⟨stop,qn⟩ | ⟨go,step⟩
    · refine thn (T'.done X' rfl rfl rfl hcal i [] s5 σ5 H5 _ I5 (stat fr5) st5 stop) fun r s6 z0=>?_
      obtain ⟨hr,I6⟩:=z0
      subst hr
      exact fin _ _ _ I6 qn
    · refine thn (T'.item X' rfl rfl rfl hcal i [] s5 σ5 H5 _ I5 (stat fr5) st5 go) fun r s6 z0=>?_
      obtain ⟨u,hr,h6⟩:=z0
      subst hr
      refine thn h6 fun _ s7 z0=>?_
      obtain ⟨x,H7,I7,r7,y7,st7,fr7⟩:=z0
      have I7':=I7.pinned (stat fr7) (T'.obj _ _ st7)
      have a1:=hg' _ s7 σ5 H7 x u _ I7' r7 (step x H7 y7)
      rw [hxe] at a1
      refine thn a1 fun _ s8 z0=>?_
      obtain ⟨σ8,H8,I8,q8⟩:=z0
      have a2:=hc' _ s8 σ8 H8 _ I8 q8
      rw [hxe] at a2
      refine thn a2 fun ok s9 z0=>?_
      obtain ⟨H9,I9,q9⟩:=z0
      have again:∀ {σ7:St} {H7:Hp} {s':Shared} {m':Nat},Inv X' ([]++Ls fp s7.heap) σ7 H7 s'→m'<n→W (i+1) m' σ7 H7→∃ m,m<n∧∃ i σ' H',Inv X' [] σ' H' s'∧tn i s'.heap∧(∀ b∈fp,H' b=none)∧W i m σ' H':=fun {σ7 H7 s' m'} I7 hm w7=>by
        refine ⟨m',hm,i+1,σ7,H7,I7.Ec,T'.keep _ _ _ st7 fun b hb o e=>(I7.pin (b,o) (List.mem_append_right _ (List.mem_append_right _ (Bh hb e)))).1,fun b hb=>?_,w7⟩
        obtain ⟨o,e,d⟩:=T'.obj _ _ st7 b hb
        exact (I7.pin (b,o) (List.mem_append_right _ (List.mem_append_right _ (Bh hb e)))).2.1
      cases ok with
      | false =>
        rw [if_neg Bool.false_ne_true] at q9 ⊢
        obtain ⟨m',hm,w9⟩:=q9
        exact again I9 hm w9
      | true =>
        rw [if_pos rfl] at q9 ⊢
        have a3:=he' _ s9 σ8 H9 _ I9 q9
        rw [hxe] at a3
        refine thn a3 fun xv s10 z0=>?_
        obtain ⟨y,H10,I10,r10,l,hl10,hz10,m',hm,w10⟩:=z0
        have a4:=Bc (X:=X') _ s10 σ8 H10 (.ref s₂.heap.objs.size) [y] (.ref s₂.heap.objs.size) [xv] (fun _ H'=>H'=upd H10 s₂.heap.objs.size (.lst (l++[y]))) I10 rfl (.cons r10 .nil) ⟨_,l,y,rfl,rfl,hl10,hz10,rfl⟩
        rw [hxe] at a4
        refine thn a4 fun _ s11 z0=>?_
        obtain ⟨v,H11,I11,_,e11⟩:=z0
        subst e11
        exact again I11 hm w10
  exact codeAny_compStart_list (key _ rfl) (T.self _ 0 _ _ _ st4 (key _ rfl))
theorem a1g {wi:TI} (sc:J4 X scope N) (calm:X.calm=true) (hi:PI X tg iter wi)
    (hg:∀ C s₀ H₀ ex pn,PG (yg X scope N C s₀ H₀ ex pn) tg g) (hc:∀ C s₀ H₀ ex pn,PTs (yg X scope N C s₀ H₀ ex pn) ifs tc) (he:∀ C s₀ H₀ ex pn,PE (yg X scope N C s₀ H₀ ex pn) elt te)
    (hs:∀ x,foldedSetIterable iter X.env x=pure x:=by intro _; rfl):PE X (.ListComp elt [⟨tg,iter,ifs,0⟩] scope pos) (a2l X scope N wi g tc te):=by
  intro pins s σ H Q I h
  rw [eval_ListComp]
  refine wpAny_comprehension_free (use:=none) rfl hs (Ds sc.has) sc.kind sc.names ?_
  refine wpAny_mono (hi pins s σ H _ I h) (fun x s₁ h₁=>wpAny_mono h₁ (fun itv s₂ h₂=>?_) fun _ _ e=>e) fun _ _ e=>e
  obtain ⟨it,fp,tn,J,H1,rfl,I2,T,st2,f2,q⟩:=h₂
  refine J8 (RR:=fun acc C=>compPost (model X.prog X.w) X.A X.xe none (EP X pins σ Q) acc C) sc calm hg hc he I2 T st2 f2 q ?_
  intro D s₃ H3 σ' H' s' I3 f3 I' qn
  obtain ⟨m,hn,_⟩:=I'.loc
  exact ⟨m,hn,fun h' hs'=>⟨.ref D,H',Ow I3 f3 I' hs',rfl,qn⟩⟩
theorem N7 {wi:TI} {y:Str} {py spos:Pos} {i:Nat} (sc:J4 X scope N) (calm:X.calm=true) (hi:PI X tg iter wi)
    (hg:∀ C s₀ H₀ ex pn,PG (yg X scope N C s₀ H₀ ex pn) tg g) (hc:∀ C s₀ H₀ ex pn,PTs (yg X scope N C s₀ H₀ ex pn) ifs tc) (he:∀ C s₀ H₀ ex pn,PE (yg X scope N C s₀ H₀ ex pn) elt te)
    (hgN:PG X (.Name y py) (Jj i)) (hsw:swapsWith (.ListComp elt [⟨tg,iter,ifs,0⟩] scope pos) (some (.Name y py)) spos.line X.env=pure true)
    (hs:∀ x,foldedSetIterable iter X.env x=pure x:=by intro _; rfl):PS X (.Assign [.Name y py] (.ListComp elt [⟨tg,iter,ifs,0⟩] scope pos) spos) (a2r (a2l X scope N wi g tc te) (Jj i)):=by
  intro pins s σ H D I h
  rw [exec_Assign_Name_used _ _ _ _ hsw] -- here
  refine wpAny_bind (wpAny_standAt (wpAny_bind ?_)) -- here
  show wpAny _ X.A (do let _ ← comprehension (.ListComp elt [⟨tg,iter,ifs,0⟩] scope pos) scope X.env _ (newList []) false (eval iter X.env) (some (assign (.Name y py) X.env))) _ _ s
  refine wpAny_bind (wpAny_mono (wpAny_comprehension_free (use:=some (assign (.Name y py) X.env)) (Q:=fun _ s'=>SP X pins D .next s') rfl hs (Ds sc.has) sc.kind sc.names ?_) (fun _ s' hq=>wpAny_pure (wpAny_pure hq)) fun _ _ e=>e)
  refine wpAny_mono (hi pins s σ H _ I h) (fun x s₁ h₁=>wpAny_mono h₁ (fun itv s₂ h₂=>?_) fun _ _ e=>e) fun _ _ e=>e
  obtain ⟨it,fp,tn,J,H1,rfl,I2,T,st2,f2,q⟩:=h₂
  refine J8 (RR:=fun acc C=>compPost (model X.prog X.w) X.A X.xe (some (assign (.Name y py) X.env)) (fun _ s'=>SP X pins D .next s') acc C) sc calm hg hc he I2 T st2 f2 q ?_
  intro D' s₃ H3 σ' H' s' I3 f3 I' qn
  obtain ⟨m,hn,_⟩:=I'.loc
  obtain ⟨oC,es,ep,hoC,hdC,hrest⟩:=id hn
  have IX:Inv X pins σ H' s':=Ow I3 f3 I' (.refl ..)
  have fC:M8 X pins H' s₃.heap.objs.size:=I3.a4j (Nat.le_refl _) I'.free
  have IXp:=IX.pinned (fp:=[s₃.heap.objs.size]) (fun b hb=>by rw [List.mem_singleton.mp hb]; exact fC) (fun b hb=>by
    rw [List.mem_singleton.mp hb]
    exact ⟨oC,hoC,fun v z=>by rw [hdC] at z; cases z⟩)
  show wpAny _ X.A (assign (.Name y py) X.env (.ref D')) _ _ _
  refine thn (hgN _ s' σ H' (.ref D') (.ref D') _ IXp rfl qn) fun _ s'' z0=>?_
  obtain ⟨σ'',H'',I'',q''⟩:=z0
  have pC:=I''.pin (s₃.heap.objs.size,oC) (List.mem_append_right _ (List.mem_append_right _ (Bh (by simp) hoC)))
  refine ⟨m,⟨oC,es,ep,pC.1,hdC,hrest⟩,fun h' hs'=>⟨σ'',H'',?_,q''⟩⟩
  exact I''.Ec.turned (h':=h') (t':=s''.toks) (it:=s₃.heap.objs.size) (fun b o ne e=>hs'.extBut b o ne e) pC.2.1 fC.2.1 fC.2.2.2.1 fC.2.2.2.2.1 fC.2.2.2.2.2
end
end L2
end
noncomputable section
set_option linter.all false
set_option maxHeartbeats 4000002
set_option autoImplicit false
namespace C
open PySem PySem.Spec PyProof.Rows L2
mutual
inductive Rep (K:PySem.W.Frag) (S:Hp) (as:List Addr):V→T→Prop where
  | non:Rep K S as .non .non
  | bl (b:Bool):Rep K S as (.bl b) (.bl b)
  | int (i:Int):Rep K S as (.int i) (.int i)
  | str (x:Str):Rep K S as (.str x) (.str x)
  | tup {a:Addr} {vs:List V} {ts:List T}:SqT K S a vs→wu K S as vs ts→Rep K S as (.ref a) (.tup ts)
  | lst {a:Addr} {vs:List V} {ts:List T}:SqL K S a vs→wu K S as vs ts→Rep K S as (.ref a) (.lst ts)
  | dic {a:Addr} {kvs:List (L2.Key × V)} {ts:List (L2.Key × T)}:Rd S a (.dK kvs)→Dq K S as kvs ts→Rep K S as (.ref a) (.dic ts)
  | obj {n:Nat} {a:Addr}:as[n]? = some a→Rep K S as (.ref a) (.obj n)
inductive wu (K:PySem.W.Frag) (S:Hp) (as:List Addr):List V→List T→Prop where
  | nil:wu K S as [] []
  | cons {v:V} {t:T} {vs:List V} {ts:List T}:Rep K S as v t→wu K S as vs ts→wu K S as (v::vs) (t::ts)
inductive Dq (K:PySem.W.Frag) (S:Hp) (as:List Addr):List (L2.Key × V)→List (L2.Key × T)→Prop where
  | nil:Dq K S as [] []
  | cons {k:L2.Key} {v:V} {t:T} {vs:List (L2.Key × V)} {ts:List (L2.Key × T)}:Rep K S as v t→Dq K S as vs ts→Dq K S as ((k,v)::vs) ((k,t)::ts)
end
theorem Ay {S S':Hp} {a:Addr} {u:HO} (e:Same S S') (h:Rd S a u):Rd S' a u:=by
  rcases h with h | ⟨o,h⟩
  · exact .inl (e _ _ h)
  · exact .inr ⟨o,e _ _ h⟩
theorem qt {K:PySem.W.Frag} {S S':Hp} {a:Addr} {xs:List V} (e:Same S S') (h:SqT K S a xs):SqT K S' a xs:=by
  rcases h with h | h
  · exact .inl (Ay e h)
  · exact .inr h
theorem qp {K:PySem.W.Frag} {S S':Hp} {a:Addr} {xs:List V} (e:Same S S') (h:SqL K S a xs):SqL K S' a xs:=by
  rcases h with h | h
  · exact .inl (Ay e h)
  · exact .inr h
noncomputable section
variable {K:PySem.W.Frag} {S S':Hp} {as as':List Addr}
theorem a1o {α:Type} {l r:List α} {n:Nat} {a:α} (h:l[n]? = some a):(l++r)[n]? = some a:=by
  have:=(List.getElem?_eq_some_iff.mp h).1
  rw [List.getElem?_append_left this]; exact h
mutual
theorem Rep.mono (e:Same S S') (x:∃ l,as'=as++l):∀ {v:V} {t:T},Rep K S as v t→Rep K S' as' v t
  | _,_,.non=>.non
  | _,_,.bl b=>.bl b
  | _,_,.int i=>.int i
  | _,_,.str y=>.str y
  | _,_,.tup h r=>.tup (qt e h) (wu.mono e x r)
  | _,_,.lst h r=>.lst (qp e h) (wu.mono e x r)
  | _,_,.dic h r=>.dic (Ay e h) (Dq.mono e x r)
  | _,_,.obj h=>.obj (by obtain ⟨l,rfl⟩:=x; exact a1o h)
theorem wu.mono (e:Same S S') (x:∃ l,as'=as++l):∀ {v:List V} {t:List T},wu K S as v t→wu K S' as' v t
  | _,_,.nil=>.nil
  | _,_,.cons h r=>.cons (Rep.mono e x h) (wu.mono e x r)
theorem Dq.mono (e:Same S S') (x:∃ l,as'=as++l):∀ {v:List (L2.Key × V)} {t:List (L2.Key × T)},Dq K S as v t→Dq K S' as' v t
  | _,_,.nil=>.nil
  | _,_,.cons h r=>.cons (Rep.mono e x h) (Dq.mono e x r)
end
theorem wu.length:∀ {vs:List V} {ts:List T},wu K S as vs ts→vs.length=ts.length
  | _,_,.nil=>rfl
  | _,_,.cons _ r=>congrArg (· + 1) r.length
theorem Dq.length:∀ {vs:List (L2.Key × V)} {ts:List (L2.Key × T)},Dq K S as vs ts→vs.length=ts.length
  | _,_,.nil=>rfl
  | _,_,.cons _ r=>congrArg (· + 1) r.length
theorem wu.get:∀ {vs:List V} {ts:List T} {i:Nat} {t:T},wu K S as vs ts→ts[i]? = some t→∃ v,vs[i]? = some v∧Rep K S as v t
  | _,_,_,_,.nil,e=>by simp at e
  | _,_,0,_,.cons r _,e=>by simp at e; subst e; exact ⟨_,rfl,r⟩
  | _,_,i+1,t,.cons _ r,e=>by
    obtain ⟨v,h1,h2⟩:=wu.get (i:=i) (t:=t) r (by simpa using e)
    exact ⟨v,by simpa using h1,h2⟩
theorem wu.append:∀ {vs:List V} {ts:List T} {ws:List V} {us:List T},wu K S as vs ts→wu K S as ws us→wu K S as (vs++ws) (ts++us)
  | _,_,_,_,.nil,q=>q
  | _,_,_,_,.cons h r,q=>.cons h (wu.append r q)
theorem wu.reverse:∀ {vs:List V} {ts:List T},wu K S as vs ts→wu K S as vs.reverse ts.reverse
  | _,_,.nil=>.nil
  | _,_,.cons h r=>by rw [List.reverse_cons,List.reverse_cons]; exact wu.append (wu.reverse r) (.cons h .nil)
theorem wu.drop:∀ (n:Nat) {vs:List V} {ts:List T},wu K S as vs ts→wu K S as (vs.drop n) (ts.drop n)
  | 0,_,_,r=>r
  | _+1,_,_,.nil=>.nil
  | n+1,_,_,.cons _ r=>wu.drop n r
theorem Dq.get (k:L2.Key):∀ {vs:List (L2.Key × V)} {ts:List (L2.Key × T)},Dq K S as vs ts→(∃ v t,O4 vs k=some v∧Rj k ts=some t∧Rep K S as v t)∨(O4 vs k=none∧Rj k ts=none)
  | _,_,.nil=>.inr ⟨rfl,rfl⟩
  | _,_,.cons (k:=q) (v:=v) (t:=t) (vs:=vs) (ts:=ts) h r=>by
    by_cases e:q=k
    · exact .inl ⟨v,t,Fz (p:=(q,v)) e,by rw [Rj,if_pos e],h⟩
    · rw [Fy (p:=(q,v)) e,Rj,if_neg e]
      exact Dq.get k r
end
structure Bas where
  S:Hp
  as:List Addr
  H:Hp
structure a6g (B:Bas) (S:Hp) (as:List Addr) (H:Hp):Prop where
  same:Same B.S S
  more:∃ l,as=B.as++l
  keep:∀ p o,B.H p=some o→B.S p=none→p∉B.as→H p=some o∧S p=none∧p∉as
structure Ext (S H S' H':Hp):Prop where
  s:Same S S'
  h:Same H H'
  sub:Same S' H'
  new:∀ p,S' p≠none→S p≠none∨H p=none
theorem Ext.refl {S H:Hp} (h:Same S H):Ext S H S H:=⟨Same.refl _,Same.refl _,h,fun _ q=>.inl q⟩
theorem Same.upd {H:Hp} {p:Addr} (h:H p=none) (o:HO):Same H (upd H p o):=fun b u q=>by rw [nq (um q h)]; exact q
theorem Ext.laid {S H:Hp} (h:Same S H) {p:Addr} (n:H p=none) (o:HO):Ext S H (upd S p o) (upd H p o) where
  s:=Same.upd (h.free n) o
  h:=Same.upd n o
  sub:=fun b u q=>by
    by_cases e:b=p
    · subst e; rw [ji] at q ⊢; exact q
    · rw [nq e] at q ⊢; exact h _ _ q
  new:=fun b q=>by
    by_cases e:b=p
    · subst e; exact .inr n
    · rw [nq e] at q; exact .inl q
theorem Ext.trans {S H S1 H1 S2 H2:Hp} (a:Ext S H S1 H1) (b:Ext S1 H1 S2 H2):Ext S H S2 H2 where
  s:=a.s.trans b.s
  h:=a.h.trans b.h
  sub:=b.sub
  new:=fun p q=>by
    rcases b.new p q with z | z
    · exact a.new p z
    · exact .inr (a.h.free z)
noncomputable def Own (K:PySem.W.Frag) (S:Hp) (as:List Addr) (H:Hp) (p:Addr):T→Prop
  | .lst ts=>∃ vs,H p=some (.lst vs)∧wu K S as vs ts
  | .dic ts=>∃ kvs,H p=some (.dK kvs)∧Dq K S as kvs ts
  | _=>False
structure S8 (K:PySem.W.Frag) (B:Bas) (S:Hp) (as:List Addr) (H:Hp) (p:Addr) (t:T):Prop where
  own:Own K S as H p t
  out:S p=none
  nas:p∉as
  new:B.H p=none
noncomputable def a2t (K:PySem.W.Frag) (S:Hp) (as:List Addr) (H:Hp) (a:Addr):SO→Prop
  | .dic ts=>∃ kvs,H a=some (.dK kvs)∧Dq K S as kvs ts
  | .lst ts=>∃ vs,H a=some (.lst vs)∧wu K S as vs ts
  | .ins _ _=>False
structure Fg (K:PySem.W.Frag) (S:Hp) (as:List Addr) (H:Hp) (sto:List SO):Prop where
  len:as.length=sto.length
  nd:as.Nodup
  at':∀ (n:Nat) so,sto[n]? = some so→∃ a,as[n]? = some a∧S a=none∧a2t K S as H a so
structure Rel (K:PySem.W.Frag) (B:Bas) (st:Sta) (σ:L2.St) (H:Hp) (ps:List (V × T)) (S:Hp) (as:List Addr):Prop where
  sub:Same S H
  grow:a6g B S as H
  slots:∀ (i:Nat) t f,st.env[i]? = some (some (t,f))→∃ v,σ[i]? = some (some v)∧(f=false→Rep K S as v t)∧(f=true→∃ p,v=.ref p∧S8 K B S as H p t)
  apart:∀ (i j:Nat) t u p,st.env[i]? = some (some (t,true))→st.env[j]? = some (some (u,true))→σ[i]? = some (some (.ref p))→σ[j]? = some (some (.ref p))→i=j
  sto:Fg K S as H st.sto
  pend:∀ p∈ps,Rep K S as p.1 p.2
  len:σ.length=st.env.length
noncomputable section
variable {K:PySem.W.Frag} {B:Bas} {st:Sta} {σ:L2.St} {H H' S S':Hp} {ps:List (V × T)} {as:List Addr}
theorem nol {as:List Addr}:∃ l:List Addr,as=as++l:=⟨[],(List.append_nil _).symm⟩
theorem Own.mono {p:Addr} {t:T} (hs:Same S S') (hh:H p=H' p) (o:Own K S as H p t):Own K S' as H' p t:=by
  cases t with
  | lst ts=>obtain ⟨vs,h,r⟩:=o; exact ⟨vs,hh ▸ h,r.mono hs nol⟩
  | dic ts=>obtain ⟨vs,h,r⟩:=o; exact ⟨vs,hh ▸ h,r.mono hs nol⟩
  | _=>exact o.elim
theorem Own.there {p:Addr} {t:T} (o:Own K S as H p t):∃ ob,H p=some ob:=by
  cases t with
  | lst ts=>obtain ⟨vs,h,r⟩:=o; exact ⟨_,h⟩
  | dic ts=>obtain ⟨vs,h,r⟩:=o; exact ⟨_,h⟩
  | _=>exact o.elim
theorem a2t.mono {a:Addr} {so:SO} (hs:Same S S') (hh:H a=H' a) (o:a2t K S as H a so):a2t K S' as H' a so:=by
  cases so with
  | dic ts=>obtain ⟨vs,h,r⟩:=o; exact ⟨vs,hh ▸ h,r.mono hs nol⟩
  | lst ts=>obtain ⟨vs,h,r⟩:=o; exact ⟨vs,hh ▸ h,r.mono hs nol⟩
  | ins c f=>exact o.elim
theorem a2t.there {a:Addr} {so:SO} (o:a2t K S as H a so):∃ ob,H a=some ob:=by
  cases so with
  | dic ts=>obtain ⟨vs,h,r⟩:=o; exact ⟨_,h⟩
  | lst ts=>obtain ⟨vs,h,r⟩:=o; exact ⟨_,h⟩
  | ins c f=>exact o.elim
theorem Ext.outs (x:Ext S H S' H') {p:Addr} {o:HO} (h:H p=some o) (n:S p=none):S' p=none:=by
  cases q:S' p with
  | none=>rfl
  | some u =>
    rcases x.new p (by rw [q]; exact Option.some_ne_none _) with z | z
    · exact absurd n z
    · rw [h] at z; cases z
theorem Fg.ext {sto:List SO} (r:Fg K S as H sto) (x:Ext S H S' H'):Fg K S' as H' sto where
  len:=r.len
  nd:=r.nd
  at':=fun n so e=>by
    obtain ⟨a,h1,h2,h3⟩:=r.at' n so e
    obtain ⟨ob,ho⟩:=h3.there
    exact ⟨a,h1,x.outs ho h2,h3.mono x.s (by rw [ho,x.h _ _ ho])⟩
theorem Rel.ext (r:Rel K B st σ H ps S as) (x:Ext S H S' H'):Rel K B st σ H' ps S' as where
  sub:=x.sub
  grow:=⟨r.grow.same.trans x.s,r.grow.more,fun p o h1 h2 h3=>by
    obtain ⟨a,b,c⟩:=r.grow.keep p o h1 h2 h3
    exact ⟨x.h _ _ a,x.outs a b,c⟩⟩
  slots:=fun i t f e=>by
    obtain ⟨v,h1,h2,h3⟩:=r.slots i t f e
    refine ⟨v,h1,fun q=>(h2 q).mono x.s nol,fun q=>?_⟩
    obtain ⟨p,e,o⟩:=h3 q
    obtain ⟨ob,ho⟩:=o.own.there
    exact ⟨p,e,o.own.mono x.s (by rw [ho,x.h _ _ ho]),x.outs ho o.out,o.nas,o.new⟩
  apart:=r.apart
  sto:=r.sto.ext x
  pend:=fun p hp=>(r.pend p hp).mono x.s nol
  len:=r.len
theorem Rel.push (r:Rel K B st σ H ps S as) {v:V} {t:T} (h:Rep K S as v t):Rel K B st σ H ((v,t)::ps) S as :=
  ⟨r.sub,r.grow,r.slots,r.apart,r.sto,fun p hp=>by
    rcases List.mem_cons.mp hp with rfl | z
    · exact h
    · exact r.pend p z,r.len⟩
theorem Rel.drop {p:V × T} (r:Rel K B st σ H (p::ps) S as):Rel K B st σ H ps S as :=
  ⟨r.sub,r.grow,r.slots,r.apart,r.sto,fun q hq=>r.pend q (List.mem_cons_of_mem _ hq),r.len⟩
theorem Rel.top {v:V} {t:T} (r:Rel K B st σ H ((v,t)::ps) S as):Rep K S as v t:=r.pend (v,t) List.mem_cons_self
theorem Rel.top2 {v:V} {t:T} {q:V × T} (r:Rel K B st σ H (q::(v,t)::ps) S as):Rep K S as v t:=r.pend (v,t) (List.mem_cons_of_mem _ List.mem_cons_self)
end
inductive tOf (K:PySem.W.Frag) (B:Bas) (m:M T) (σ:L2.St) (H:Hp) (Q:VK):Prop
  | mk (st:Sta) (ps:List (V × T)) (S:Hp) (as:List Addr) (R:Rel K B st σ H ps S as) (t:T) (st':Sta) (e:m st=some (t,st')) (q:∀ v H' S' as',Rel K B st' σ H' ((v,t)::ps) S' as'→Q v H')
inductive cOf (K:PySem.W.Frag) (B:Bas) (m:M Bool) (σ:L2.St) (H:Hp) (Q:Bool→Hp→Prop):Prop
  | mk (st:Sta) (ps:List (V × T)) (S:Hp) (as:List Addr) (R:Rel K B st σ H ps S as) (b:Bool) (st':Sta) (e:m st=some (b,st')) (q:∀ H' S' as',Rel K B st' σ H' ps S' as'→Q b H')
inductive aOf (K:PySem.W.Frag) (B:Bas) (m:M (List T)) (σ:L2.St) (H:Hp) (Q:List V→Hp→Prop):Prop
  | mk (st:Sta) (ps:List (V × T)) (S:Hp) (as:List Addr) (R:Rel K B st σ H ps S as) (ts:List T) (st':Sta) (e:m st=some (ts,st')) (q:∀ vs H' S' as',Rel K B st' σ H' ps S' as'→wu K S' as' vs ts→Q vs H')
theorem _root_.L2.PE.imp {X:Cx} {e:Expr} {t t':TE} (h:PE X e t) (i:∀ σ H Q,t' σ H Q→t σ H Q):PE X e t':=fun pins s σ H Q I q=>h pins s σ H Q I (i σ H Q q)
theorem _root_.L2.PT.imp {X:Cx} {e:Expr} {t t':TT} (h:PT X e t) (i:∀ σ H Q,t' σ H Q→t σ H Q):PT X e t':=fun pins s σ H Q I q=>h pins s σ H Q I (i σ H Q q)
theorem _root_.L2.PA.imp {X:Cx} {e:List Expr} {t t':TA} (h:PA X e t) (i:∀ σ H Q,t' σ H Q→t σ H Q):PA X e t':=fun pos pins s σ H Q I q=>h pos pins s σ H Q I (i σ H Q q)
theorem _root_.L2.PS.imp {X:Cx} {e:Stmt} {t t':TS} (h:PS X e t) (i:∀ D σ H,t' D σ H→t D σ H):PS X e t':=fun pins s σ H D I q=>h pins s σ H D I (i D σ H q)
theorem _root_.L2.PSs.imp {X:Cx} {e:List Stmt} {t t':TS} (h:PSs X e t) (i:∀ D σ H,t' D σ H→t D σ H):PSs X e t':=fun pins s σ H D I q=>h pins s σ H D I (i D σ H q)
noncomputable def r2 (K:PySem.W.Frag) (f:T→T→Option T):R2:=fun x y H Q=>∃ S as t u w,Same S H∧Rep K S as x t∧Rep K S as y u∧f t u=some w∧∀ v H' S',Ext S H S' H'→Rep K S' as v w→Q v H'
noncomputable def r1 (K:PySem.W.Frag) (f:T→Option T):V→Hp→VK→Prop:=fun x H Q=>∃ S as t w,Same S H∧Rep K S as x t∧f t=some w∧∀ v H' S',Ext S H S' H'→Rep K S' as v w→Q v H'
noncomputable def rL (K:PySem.W.Frag) (f:List T→Option T):List V→Hp→VK→Prop:=fun xs H Q=>∃ S as ts w,Same S H∧wu K S as xs ts∧f ts=some w∧∀ v H' S',Ext S H S' H'→Rep K S' as v w→Q v H'
noncomputable abbrev OpT (X:Cx) (f:Value→Value→Sem Value) (g:T→T→Option T):Prop:=OpR X f (r2 X.K g)
noncomputable abbrev UnT (X:Cx) (f:Value→Sem Value) (g:T→Option T):Prop:=UnR X f (r1 X.K g)
noncomputable abbrev Om (X:Cx) (f:Value) (g:List T→Option T):Prop:=Cy X f (rL X.K g)
noncomputable section
variable {X:Cx} {B:Bas} {a b c:Expr} {m m1 m2:M T} {pos:Pos}
theorem Eb {v:V} {t:T} {e:Expr} (h:PE X e (tC v)) (r:∀ S as,Rep X.K S as v t):PE X e (tOf X.K B (aq t)):=h.imp fun σ H Q z9=>by
  obtain ⟨st,ps,S,as,R,t',st',e,q⟩:=z9
  cases e
  exact q v H S as (R.push (r S as))
theorem dh {i:Int} {j:Nat}:PE X (.Constant (.int i) j pos) (tOf X.K B (aq (.int i))):=Eb Wn fun _ _=>.int i
theorem zy {i:Bool} {j:Nat}:PE X (.Constant (.bool i) j pos) (tOf X.K B (aq (.bl i))):=Eb a7b fun _ _=>.bl i
theorem j7 {i:Str} {j:Nat}:PE X (.Constant (.str i) j pos) (tOf X.K B (aq (.str i))):=Eb a4q fun _ _=>.str i
theorem Dv {j:Nat}:PE X (.Constant .none j pos) (tOf X.K B (aq .non)):=Eb a5d fun _ _=>.non
theorem qm {op:Operator} {f:T→T→Option T} (ho:OpT X (binaryOp op) f) (ha:PE X a (tOf X.K B m1)) (hb:PE X b (tOf X.K B m2)):PE X (.BinOp a op b pos) (tOf X.K B (mOp f m1 m2)) :=
  (a6h ho ha hb).imp fun σ H Q z9=>by
    obtain ⟨st,ps,S,as,R,t,st',e,q⟩:=z9
    obtain ⟨t1,s1,t2,e1,e2,e3⟩:=Oj e
    refine ⟨st,ps,S,as,R,t1,s1,e1,fun v H1 S1 as1 R1=>⟨s1,_,S1,as1,R1,t2,st',e2,fun u H2 S2 as2 R2=>?_⟩⟩
    exact ⟨S2,as2,t1,t2,t,R2.sub,R2.top2,R2.top,e3,fun w H3 S3 x r=>q w H3 S3 as2 ((R2.drop.drop.ext x).push r)⟩
end
end C
end
noncomputable section
set_option linter.all false
set_option maxRecDepth 100000
set_option maxHeartbeats 4000002
set_option autoImplicit false
namespace C
open PySem PySem.Spec PyProof.Rows L2
noncomputable section
variable {K:PySem.W.Frag} {B:Bas} {st:Sta} {σ:L2.St} {H H' S S':Hp} {ps:List (V × T)} {as:List Addr}
theorem Rel.freeze (r:Rel K B st σ H ps S as) {i:Nat} {t:T} (e:st.env[i]? = some (some (t,true))) :
    ∃ v S',σ[i]? = some (some v)∧Rel K B { st with env:=st.env.set i (some (t,false)) } σ H ((v,t)::ps) S' as:=by
  obtain ⟨v,h1,_,h3⟩:=r.slots i t true e
  obtain ⟨p,rfl,o⟩:=h3 rfl
  obtain ⟨ob,ho⟩:=o.own.there
  have hi:i<st.env.length:=(List.getElem?_eq_some_iff.mp e).1
  have sS:Same S (upd S p ob):=Same.upd o.out ob
  have rep:Rep K (upd S p ob) as (.ref p) t:=by
    have w:=o.own
    cases t with
    | lst ts=>obtain ⟨vs,h,q⟩:=w; rw [ho] at h; cases h; exact .lst (SqL.of ji) (q.mono sS nol)
    | dic ts=>obtain ⟨vs,h,q⟩:=w; rw [ho] at h; cases h; exact .dic (.inl ji) (q.mono sS nol)
    | _=>exact w.elim
  have outs:∀ q,S q=none→q≠p→upd S p ob q=none:=fun q h n=>by rw [nq n]; exact h
  refine ⟨.ref p,upd S p ob,h1,?_⟩
  refine Rel.push (v:=.ref p) (t:=t) ⟨?_,?_,?_,?_,?_,?_,?_⟩ rep
  · intro b u q
    by_cases z:b=p
    · subst z; rw [ji] at q; cases q; exact ho
    · rw [nq z] at q; exact r.sub _ _ q
  · refine ⟨r.grow.same.trans sS,r.grow.more,fun q w a b c=>?_⟩
    obtain ⟨x,y,z⟩:=r.grow.keep q w a b c
    refine ⟨x,outs q y fun n=>?_,z⟩
    subst n; rw [o.new] at a; cases a
  · intro j u f ej
    by_cases hij:i=j
    · subst hij
      rw [List.getElem?_set_self hi] at ej
      cases ej
      exact ⟨.ref p,h1,fun _=>rep,fun z=>by cases z⟩
    · rw [List.getElem?_set_ne hij] at ej
      obtain ⟨v',a1,a2,a3⟩:=r.slots j u f ej
      refine ⟨v',a1,fun z=>(a2 z).mono sS nol,fun z=>?_⟩
      subst z
      obtain ⟨p',rfl,o'⟩:=a3 rfl
      refine ⟨p',rfl,o'.own.mono sS rfl,outs p' o'.out fun n=>?_,o'.nas,o'.new⟩
      subst n
      exact hij (r.apart i j t u p' e ej h1 a1)
  · intro j k u w q ej ek
    have hj:st.env[j]? = some (some (u,true)):=by
      by_cases hij:i=j
      · subst hij; rw [List.getElem?_set_self hi] at ej; cases ej
      · rwa [List.getElem?_set_ne hij] at ej
    have hk:st.env[k]? = some (some (w,true)):=by
      by_cases hij:i=k
      · subst hij; rw [List.getElem?_set_self hi] at ek; cases ek
      · rwa [List.getElem?_set_ne hij] at ek
    exact r.apart j k u w q hj hk
  · refine ⟨r.sto.len,r.sto.nd,fun n so en=>?_⟩
    obtain ⟨a,a1,a2,a3⟩:=r.sto.at' n so en
    refine ⟨a,a1,outs a a2 fun z=>?_,a3.mono sS rfl⟩
    subst z
    exact o.nas (List.mem_of_getElem? a1)
  · exact fun q hq=>(r.pend q hq).mono sS nol
  · show σ.length=(st.env.set i _).length
    rw [List.length_set]; exact r.len
end
noncomputable section
variable {X:Cx} {B:Bas} {a b c:Expr} {m m1 m2:M T} {pos:Pos}
theorem au (i:Nat) {e:Expr} (h:PE X e (Yz i)):PE X e (tOf X.K B (bw i)):=h.imp fun σ H Q z9=>by
  obtain ⟨st,ps,S,as,R,t,st',e,q⟩:=z9
  rcases Xh e with ⟨e1,rfl⟩ | ⟨e1,rfl⟩
  · obtain ⟨v,h1,h2,_⟩:=R.slots i t false e1
    exact ⟨v,h1,q v H S as (R.push (h2 rfl))⟩
  · obtain ⟨v,S',h1,R'⟩:=R.freeze e1
    exact ⟨v,h1,q v H S' as R'⟩
theorem bf:PA X [] (aOf X.K B dw):=Aw.imp fun σ H Q z9=>by
  obtain ⟨st,ps,S,as,R,ts,st',e,q⟩:=z9
  cases e
  exact q [] H S as R .nil
theorem aj {es:List Expr} {ms:M (List T)} (ha:PE X a (tOf X.K B m)) (hr:PA X es (aOf X.K B ms)) (hs:starEach (a::es) X.env=(false,eval a X.env)::starEach es X.env:=by rfl):PA X (a::es) (aOf X.K B (ak m ms)) :=
  (wj ha hr hs).imp fun σ H Q z9=>by
    obtain ⟨st,ps,S,as,R,ts,st',e,q⟩:=z9
    obtain ⟨t,s1,us,e1,e2,rfl⟩:=Bg e
    refine ⟨st,ps,S,as,R,t,s1,e1,fun v H1 S1 as1 R1=>⟨s1,_,S1,as1,R1,us,st',e2,fun vs H2 S2 as2 R2 rs=>?_⟩⟩
    exact q (v::vs) H2 S2 as2 R2.drop (.cons R2.top rs)
theorem gq {es:List Expr} {ms:M (List T)} {k:Nat} (h:PA X es (aOf X.K B ms)) (hm:∀ st ts st',ms st=some (ts,st')→ts.length≤1000):PE X (.Tuple es k pos) (tOf X.K B (gn (fun l=>some (.tup l)) ms)) :=
  (a3m h).imp fun σ H Q z9=>by
    obtain ⟨st,ps,S,as,R,t,st',e,q⟩:=z9
    obtain ⟨ts,e1,e2⟩:=Bl e
    cases e2
    refine ⟨st,ps,S,as,R,ts,st',e1,fun vs H1 S1 as1 R1 rs=>⟨?_,fun p hp=>?_⟩⟩
    · rw [rs.length]; exact Nat.le_of_lt (Hg (hm _ _ _ e1))
    · have x:=Ext.laid R1.sub hp (.tup vs)
      exact q _ _ _ _ ((R1.ext x).push (.tup (SqT.of ji) (rs.mono x.s nol)))
theorem ug {es:List Expr} {ms:M (List T)} (h:PA X es (aOf X.K B ms)) (hm:∀ st ts st',ms st=some (ts,st')→ts.length≤1000):PE X (.List es pos) (tOf X.K B (gn (fun l=>some (.lst l)) ms)) :=
  (a01 h).imp fun σ H Q z9=>by
    obtain ⟨st,ps,S,as,R,t,st',e,q⟩:=z9
    obtain ⟨ts,e1,e2⟩:=Bl e
    cases e2
    refine ⟨st,ps,S,as,R,ts,st',e1,fun vs H1 S1 as1 R1 rs=>⟨?_,fun p hp=>?_⟩⟩
    · rw [rs.length]; exact Nat.le_of_lt (Hg (hm _ _ _ e1))
    · have x:=Ext.laid R1.sub hp (.lst vs)
      exact q _ _ _ _ ((R1.ext x).push (.lst (SqL.of ji) (rs.mono x.s nol)))
theorem bx:∀ st ts st',dw st=some (ts,st')→ts.length≤0:=fun st ts st' e=>by cases e; exact Nat.le_refl _
theorem ao {r:M (List T)} {n:Nat} (h:∀ st ts st',r st=some (ts,st')→ts.length≤n):∀ st ts st',ak m r st=some (ts,st')→ts.length≤n+1:=fun st ts st' e=>by
  obtain ⟨t,s1,us,e1,e2,rfl⟩:=Bg e
  exact Nat.succ_le_succ (h _ _ _ e2)
theorem ou {ms:M (List T)} {f:List T→Option T} {e:Expr} (h:PE X e (tCB (rL X.K f) (aOf X.K B ms))):PE X e (tOf X.K B (gn f ms)) :=
  h.imp fun σ H Q z9=>by
    obtain ⟨st,ps,S,as,R,t,st',e,q⟩:=z9
    obtain ⟨ts,e1,e2⟩:=Bl e
    refine ⟨st,ps,S,as,R,ts,st',e1,fun vs H1 S1 as1 R1 rs=>⟨S1,as1,ts,t,R1.sub,rs,e2,fun v H2 S2 x r=>?_⟩⟩
    exact q v H2 S2 as1 ((R1.ext x).push r)
theorem Pk {f:T→T→Option T} {e:Expr} (h:PE X e (tOp (r2 X.K f) (tOf X.K B m1) (tOf X.K B m2))):PE X e (tOf X.K B (mOp f m1 m2)) :=
  h.imp fun σ H Q z9=>by
    obtain ⟨st,ps,S,as,R,t,st',e,q⟩:=z9
    obtain ⟨t1,s1,t2,e1,e2,e3⟩:=Oj e
    refine ⟨st,ps,S,as,R,t1,s1,e1,fun v H1 S1 as1 R1=>⟨s1,_,S1,as1,R1,t2,st',e2,fun u H2 S2 as2 R2=>?_⟩⟩
    exact ⟨S2,as2,t1,t2,t,R2.sub,R2.top2,R2.top,e3,fun w H3 S3 x r=>q w H3 S3 as2 ((R2.drop.drop.ext x).push r)⟩
theorem Yl {f:T→Option T} {e:Expr} (h:PE X e (tUn (r1 X.K f) (tOf X.K B m))):PE X e (tOf X.K B (mUn f m)) :=
  h.imp fun σ H Q z9=>by
    obtain ⟨st,ps,S,as,R,t,st',e,q⟩:=z9
    obtain ⟨t1,e1,e3⟩:=Nr e
    refine ⟨st,ps,S,as,R,t1,st',e1,fun v H1 S1 as1 R1=>⟨S1,as1,t1,t,R1.sub,R1.top,e3,fun w H3 S3 x r=>q w H3 S3 as1 ((R1.drop.ext x).push r)⟩⟩
theorem Aa {op:CmpOp} {f:T→T→Option T} (ho:OpT X (compareOp op) f) (ha:PE X a (tOf X.K B m1)) (hb:PE X b (tOf X.K B m2)) (hm:behindInMarks op b=false):PE X (.Compare a [op] [b] pos) (tOf X.K B (mOp f m1 m2)):=Pk (a2a ho ha hb hm)
theorem K4 {op:UnaryOp} {f:T→Option T} (ho:UnT X (unaryOp op) f) (ha:PE X a (tOf X.K B m)):PE X (.UnaryOp op a pos) (tOf X.K B (mUn f m)):=Yl (a5n ho ha)
theorem Jb {e:Expr} (h:PT X e (a4o (tOf X.K B m))):PT X e (cOf X.K B (fj m)):=h.imp fun σ H Q z9=>by
  obtain ⟨st,ps,S,as,R,t,st',e,q⟩:=z9
  refine ⟨st,ps,S,as,R,.bl t,st',Ck e,fun v H1 S1 as1 R1=>?_⟩
  cases R1.top
  exact ⟨t,rfl,q H1 S1 as1 R1.drop⟩
theorem uo {op:CmpOp} {f:T→T→Option T} (ho:OpT X (compareOp op) f) (ha:PE X a (tOf X.K B m1)) (hb:PE X b (tOf X.K B m2)) (hm:behindInMarks op b=false):PT X (.Compare a [op] [b] pos) (cOf X.K B (fj (mOp f m1 m2))) :=
  Jb ((a0t ho ha hb hm).imp fun σ H Q z9=>by
    obtain ⟨st,ps,S,as,R,t,st',e,q⟩:=z9
    obtain ⟨t1,s1,t2,e1,e2,e3⟩:=Oj e
    refine ⟨st,ps,S,as,R,t1,s1,e1,fun v H1 S1 as1 R1=>⟨s1,_,S1,as1,R1,t2,st',e2,fun u H2 S2 as2 R2=>?_⟩⟩
    exact ⟨S2,as2,t1,t2,t,R2.sub,R2.top2,R2.top,e3,fun w H3 S3 x r=>q w H3 S3 as2 ((R2.drop.drop.ext x).push r)⟩)
theorem yt {e:Expr} (h:PE X e (tOf X.K B m)) (he:∀ whole,isTrue e X.env whole=(do let v ← whole; standAt e.pos; holding [v] (truthy v)):=by intro _; rfl):PT X e (cOf X.K B (fj m)) :=
  Jb ((a5l h he).imp fun σ H Q h=>h)
theorem Jd {c1:M Bool} (ha:PT X a (cOf X.K B c1)):PT X (.UnaryOp .Not a pos) (cOf X.K B (oh c1)):=(a3o ha).imp fun σ H Q z9=>by
  obtain ⟨st,ps,S,as,R,t,st',e,q⟩:=z9
  obtain ⟨k,e1,rfl⟩:=Ot e
  exact ⟨st,ps,S,as,R,k,st',e1,q⟩
theorem G7 {c1:M Bool} (ha:PT X a (cOf X.K B c1)):PW X (.BoolOp .And [a] pos) (cOf X.K B c1):=pw_and1 ha
theorem Q5 {c1:M Bool} (ha:PT X a (cOf X.K B c1)):PW X (.BoolOp .Or [a] pos) (cOf X.K B c1):=pw_or1 ha
theorem a4z {e:Expr} {t t':TT} (h:PW X e t) (i:∀ σ H Q,t' σ H Q→t σ H Q):PW X e t':=fun whole pins s σ H Q I q=>h whole pins s σ H Q I (i σ H Q q)
theorem Jg {c1 c2:M Bool} {rest:List Expr} (ha:PT X a (cOf X.K B c1)) (hb:PW X (.BoolOp .And (b::rest) pos) (cOf X.K B c2)):PW X (.BoolOp .And (a::b::rest) pos) (cOf X.K B (kj c1 c2)) :=
  a4z (pw_and ha hb) fun σ H Q z9=>by
    obtain ⟨st,ps,S,as,R,t,st',e,q⟩:=z9
    rcases Qf e with ⟨s1,e1,e2⟩ | ⟨e1,rfl⟩
    · exact ⟨st,ps,S,as,R,true,s1,e1,fun H1 S1 as1 R1=>a1t (⟨s1,ps,S1,as1,R1,t,st',e2,q⟩)⟩
    · exact ⟨st,ps,S,as,R,false,st',e1,fun H1 S1 as1 R1=>a0o (q H1 S1 as1 R1)⟩
theorem Yv {c1 c2:M Bool} {rest:List Expr} (ha:PT X a (cOf X.K B c1)) (hb:PW X (.BoolOp .Or (b::rest) pos) (cOf X.K B c2)):PW X (.BoolOp .Or (a::b::rest) pos) (cOf X.K B (mOr c1 c2)) :=
  a4z (pw_or ha hb) fun σ H Q z9=>by
    obtain ⟨st,ps,S,as,R,t,st',e,q⟩:=z9
    rcases a1c e with ⟨s1,e1,e2⟩ | ⟨e1,rfl⟩
    · exact ⟨st,ps,S,as,R,false,s1,e1,fun H1 S1 as1 R1=>a0o (⟨s1,ps,S1,as1,R1,t,st',e2,q⟩)⟩
    · exact ⟨st,ps,S,as,R,true,st',e1,fun H1 S1 as1 R1=>a1t (q H1 S1 as1 R1)⟩
theorem Q7 {c1:M Bool} (hc:PT X c (cOf X.K B c1)) (ha:PE X a (tOf X.K B m1)) (hb:PE X b (tOf X.K B m2)):PE X (.IfExp c a b pos) (tOf X.K B (mIf c1 m1 m2)) :=
  (Y7 hc ha hb).imp fun σ H Q z9=>by
    obtain ⟨st,ps,S,as,R,t,st',e,q⟩:=z9
    rcases a2b e with ⟨s1,e1,e2⟩ | ⟨s1,e1,e2⟩
    · exact ⟨st,ps,S,as,R,true,s1,e1,fun H1 S1 as1 R1=>a1t (⟨s1,ps,S1,as1,R1,t,st',e2,q⟩)⟩
    · exact ⟨st,ps,S,as,R,false,s1,e1,fun H1 S1 as1 R1=>a0o (⟨s1,ps,S1,as1,R1,t,st',e2,q⟩)⟩
theorem a3g (ha:PE X a (tOf X.K B m)):PE X (.UnaryOp .Not a pos) (tOf X.K B (iz (oh (fj m)))):=(a5r ha).imp fun σ H Q z9=>by
  obtain ⟨st,ps,S,as,R,t,st',e,q⟩:=z9
  obtain ⟨b,e1,rfl⟩:=K7 e
  obtain ⟨k,e2,rfl⟩:=Ot e1
  refine ⟨st,ps,S,as,R,.bl k,st',Ck e2,fun v H1 S1 as1 R1=>?_⟩
  cases R1.top
  exact ⟨k,rfl,q _ H1 S1 as1 (R1.drop.push (.bl _))⟩
theorem Dk {op:BoolOp} (ha:PE X a (tOf X.K B m)):PE X (.BoolOp op [a] pos) (tOf X.K B m):=a4d ha
theorem Ba {rest:List Expr} (ha:PE X a (tOf X.K B m1)) (hb:PE X (.BoolOp .And (b::rest) pos) (tOf X.K B m2)):PE X (.BoolOp .And (a::b::rest) pos) (tOf X.K B (iz (kj (fj m1) (fj m2)))) :=
  (a3b ha hb).imp fun σ H Q z9=>by
    obtain ⟨st,ps,S,as,R,t,st',e,q⟩:=z9
    obtain ⟨b,e1,rfl⟩:=K7 e
    rcases Qf e1 with ⟨s1,e2,e3⟩ | ⟨e2,rfl⟩
    · refine ⟨st,ps,S,as,R,.bl true,s1,Ck e2,fun v H1 S1 as1 R1=>?_⟩
      cases R1.top
      exact ⟨true,rfl,a1t (⟨s1,ps,S1,as1,R1.drop,.bl b,st',Ck e3,q⟩)⟩
    · refine ⟨st,ps,S,as,R,.bl false,st',Ck e2,fun v H1 S1 as1 R1=>?_⟩
      cases R1.top
      exact ⟨false,rfl,a0o (q _ H1 S1 as1 (R1.drop.push (.bl _)))⟩
end
end C
end
noncomputable section
set_option linter.all false
set_option maxRecDepth 100000
set_option maxHeartbeats 4000002
set_option autoImplicit false
namespace C
open PySem PySem.Spec PyProof.Rows L2
theorem Yx {a b:S} {s s':Sta} {fl:Flow} (h:jd a b s=some (fl,s')):(∃ s1,a s=some (.next,s1)∧b s1=some (fl,s'))∨(a s=some (fl,s')∧fl≠.next):=by
  unfold jd at h
  split at h
  · rename_i s1 e; exact .inl ⟨s1,e,h⟩
  · rename_i r hr; exact .inr ⟨h,fun z=>by subst z; exact hr _ h⟩
theorem Xa {e:M T} {s s':Sta} {fl:Flow} (h:jl e s=some (fl,s')):∃ t,e s=some (t,s')∧fl=.ret t:=by
  unfold jl at h
  split at h
  · rename_i t s1 e; cases h; exact ⟨t,e,rfl⟩
  · cases h
theorem a0e {c:M Bool} {a b:S} {s s':Sta} {fl:Flow} (h:sIf c a b s=some (fl,s')):(∃ s1,c s=some (true,s1)∧a s1=some (fl,s'))∨(∃ s1,c s=some (false,s1)∧b s1=some (fl,s')):=by
  unfold sIf at h
  split at h
  · rename_i s1 e; exact .inl ⟨s1,e,h⟩
  · rename_i s1 e; exact .inr ⟨s1,e,h⟩
  · cases h
theorem Ym {i:Nat} {e:M T} {s s':Sta} {fl:Flow} (h:jk i e s=some (fl,s')):∃ t s1,e s=some (t,s1)∧fl=.next∧s'=cg i t false s1:=by
  unfold jk at h
  split at h
  · rename_i t s1 e; cases h; exact ⟨t,s1,e,rfl,rfl⟩
  · cases h
theorem Yc {i:Nat} {e:M T} {s s':Sta} {fl:Flow} (h:sNew i e s=some (fl,s')):∃ t s1,e s=some (t,s1)∧fl=.next∧s'=cg i t true s1:=by
  unfold sNew at h
  split at h
  · rename_i t s1 e; cases h; exact ⟨t,s1,e,rfl,rfl⟩
  · cases h
theorem Y4 {g:G} {it:M (List T)} {b:S} {s s':Sta} {fl:Flow} (h:mz g it b s=some (fl,s')):∃ ts s1,it s=some (ts,s1)∧forL g b ts s1=some (fl,s'):=by
  unfold mz at h
  split at h
  · rename_i ts s1 e; exact ⟨ts,s1,e,h⟩
  · cases h
theorem Nu {i:Nat} {e:M T} {s s':Sta} {fl:Flow} (h:dg i e s=some (fl,s')) :
    j9 i s=true∧∃ t s1 xs,e s=some (t,s1)∧s1.env[i]? = some (some (.lst xs,true))∧xs.length<lim∧fl=.next∧s'=cg i (.lst (xs++[t])) true s1:=by
  unfold dg at h
  split at h
  · rename_i hd
    refine ⟨hd,?_⟩
    split at h
    · rename_i t s1 e
      split at h
      · rename_i xs ex
        split at h
        · rename_i hl; cases h; exact ⟨t,s1,xs,e,ex,hl,rfl,rfl⟩
        · cases h
      · cases h
    · cases h
  · cases h
theorem O6 {i:Nat} {e:M T} {s s':Sta} {fl:Flow} (h:dj i e s=some (fl,s')) :
    j9 i s=true∧∃ t s1 xs ys,e s=some (t,s1)∧j6 t=some ys∧s1.env[i]? = some (some (.lst xs,true))∧xs.length+ys.length<lim∧fl=.next∧s'=cg i (.lst (xs++ys)) true s1:=by
  unfold dj at h
  split at h
  · rename_i hd
    refine ⟨hd,?_⟩
    split at h
    · rename_i t s1 e
      split at h
      · rename_i ys xs ey ex
        split at h
        · rename_i hl; cases h; exact ⟨t,s1,_,_,e,ey,ex,hl,rfl,rfl⟩
        · cases h
      · cases h
    · cases h
  · cases h
theorem O7 {i:Nat} {k v:M T} {s s':Sta} {fl:Flow} (h:Es i k v s=some (fl,s')) :
    ∃ t s1 kt s2 kvs q,v s=some (t,s1)∧Ng i s1=true∧k s1=some (kt,s2)∧s2.env[i]? = some (some (.dic kvs,true))∧keyOf kt=some q∧kvs.length<lim∧fl=.next∧s'=cg i (.dic (a0y q t kvs)) true s2:=by
  unfold Es at h
  split at h
  · rename_i t s1 e
    split at h
    · rename_i hd
      split at h
      · rename_i kt s2 ek
        split at h
        · rename_i kvs q ex eq
          split at h
          · rename_i hl; cases h; exact ⟨t,s1,kt,s2,_,_,e,hd,ek,ex,eq,hl,rfl,rfl⟩
          · cases h
        · cases h
      · cases h
    · cases h
  · cases h
noncomputable section
variable {K:PySem.W.Frag} {B:Bas} {st:Sta} {σ:L2.St} {H H' S S':Hp} {ps ps2:List (V × T)} {as as':List Addr}
theorem Rel.pick (r:Rel K B st σ H ps S as) (h:∀ p∈ps2,p∈ps):Rel K B st σ H ps2 S as :=
  ⟨r.sub,r.grow,r.slots,r.apart,r.sto,fun p hp=>r.pend p (h p hp),r.len⟩
theorem K1 {α:Type} {l:List α} {i:Nat} {x:α} (h:l.length≤i):l.set i x=l:=List.set_eq_of_length_le h
theorem Rel.put (r:Rel K B st σ H ps S as) {i:Nat} {v:V} {t:T} (h:Rep K S as v t):Rel K B (cg i t false st) (σ.set i (some v)) H ps S as:=by
  by_cases hi:i<st.env.length
  · have hs:i<σ.length:=by rw [r.len]; exact hi
    refine ⟨r.sub,r.grow,fun j u f e=>?_,fun j k u w p ej ek sj sk=>?_,r.sto,r.pend,by show _=(st.env.set i _).length; rw [List.length_set,List.length_set]; exact r.len⟩
    · have e:(st.env.set i (some (t,false)))[j]? = some (some (u,f)):=e
      by_cases hij:i=j
      · subst hij
        rw [List.getElem?_set_self hi] at e; cases e
        exact ⟨v,List.getElem?_set_self hs,fun _=>h,fun z=>by cases z⟩
      · rw [List.getElem?_set_ne hij] at e ⊢
        exact r.slots j u f e
    · have ej:(st.env.set i (some (t,false)))[j]? = some (some (u,true)):=ej
      have ek:(st.env.set i (some (t,false)))[k]? = some (some (w,true)):=ek
      have hij:i≠j:=fun z=>by subst z; rw [List.getElem?_set_self hi] at ej; cases ej
      have hik:i≠k:=fun z=>by subst z; rw [List.getElem?_set_self hi] at ek; cases ek
      rw [List.getElem?_set_ne hij] at ej sj
      rw [List.getElem?_set_ne hik] at ek sk
      exact r.apart j k u w p ej ek sj sk
  · have e1:cg i t false st=st:=by unfold cg; rw [K1 (Nat.le_of_not_lt hi)]
    have e2:σ.set i (some v)=σ:=K1 (by rw [r.len]; exact Nat.le_of_not_lt hi)
    rw [e1,e2]; exact r
noncomputable def G3 (st:Sta) (σ:L2.St) (p:Addr):Prop:=∀ (j:Nat) u,st.env[j]? = some (some (u,true))→σ[j]? = some (some (.ref p))→False
theorem Rel.a65 (r:Rel K B st σ H ps S as) {i:Nat} {p:Addr} {t:T} (h:S8 K B S as H p t) (hn:G3 st σ p):Rel K B (cg i t true st) (σ.set i (some (.ref p))) H ps S as:=by
  by_cases hi:i<st.env.length
  · have hs:i<σ.length:=by rw [r.len]; exact hi
    refine ⟨r.sub,r.grow,fun j u f e=>?_,fun j k u w q ej ek sj sk=>?_,r.sto,r.pend,by show _=(st.env.set i _).length; rw [List.length_set,List.length_set]; exact r.len⟩
    · have e:(st.env.set i (some (t,true)))[j]? = some (some (u,f)):=e
      by_cases hij:i=j
      · subst hij
        rw [List.getElem?_set_self hi] at e; cases e
        exact ⟨.ref p,List.getElem?_set_self hs,(fun z=>by cases z),fun _=>⟨p,rfl,h⟩⟩
      · rw [List.getElem?_set_ne hij] at e ⊢
        exact r.slots j u f e
    · have ej:(st.env.set i (some (t,true)))[j]? = some (some (u,true)):=ej
      have ek:(st.env.set i (some (t,true)))[k]? = some (some (w,true)):=ek
      by_cases hij:i=j
      · by_cases hik:i=k
        · rw [← hij,← hik]
        · subst hij
          rw [List.getElem?_set_self hs] at sj; cases sj
          rw [List.getElem?_set_ne hik] at ek sk
          exact (hn k w ek sk).elim
      · rw [List.getElem?_set_ne hij] at ej sj
        by_cases hik:i=k
        · subst hik
          rw [List.getElem?_set_self hs] at sk; cases sk
          exact (hn j u ej sj).elim
        · rw [List.getElem?_set_ne hik] at ek sk
          exact r.apart j k u w q ej ek sj sk
  · have e1:cg i t true st=st:=by unfold cg; rw [K1 (Nat.le_of_not_lt hi)]
    have e2:σ.set i (some (.ref p))=σ:=K1 (by rw [r.len]; exact Nat.le_of_not_lt hi)
    rw [e1,e2]; exact r
theorem Rel.turn (r:Rel K B st σ H ps S as) {i:Nat} {t t':T} {p:Addr} {ob:HO} (e:st.env[i]? = some (some (t,true))) (hp:σ[i]? = some (some (.ref p))) (h:Own K S as (upd H p ob) p t') :
    Rel K B (cg i t' true st) σ (upd H p ob) ps S as:=by
  obtain ⟨v,h1,_,h3⟩:=r.slots i t true e
  rw [hp] at h1; cases h1
  obtain ⟨p',ep,o⟩:=h3 rfl
  cases ep
  have hi:i<st.env.length:=(List.getElem?_eq_some_iff.mp e).1
  have other:∀ q,q≠p→H q=upd H p ob q:=fun q n=>(nq n).symm
  refine ⟨fun b u q=>?_,⟨r.grow.same,r.grow.more,fun q w a b c=>?_⟩,fun j u f ej=>?_,fun j k u w q ej ek sj sk=>?_,⟨r.sto.len,r.sto.nd,fun n so en=>?_⟩,r.pend,by show _=(st.env.set i _).length; rw [List.length_set]; exact r.len⟩
  · have n:b≠p:=fun z=>by subst z; rw [o.out] at q; cases q
    rw [nq n]; exact r.sub _ _ q
  · obtain ⟨x,y,z⟩:=r.grow.keep q w a b c
    have n:q≠p:=fun z=>by subst z; rw [o.new] at a; cases a
    exact ⟨by rw [nq n]; exact x,y,z⟩
  · have ej:(st.env.set i (some (t',true)))[j]? = some (some (u,f)):=ej
    by_cases hij:i=j
    · subst hij
      rw [List.getElem?_set_self hi] at ej; cases ej
      exact ⟨.ref p,hp,(fun z=>by cases z),fun _=>⟨p,rfl,h,o.out,o.nas,o.new⟩⟩
    · rw [List.getElem?_set_ne hij] at ej
      obtain ⟨v',a1,a2,a3⟩:=r.slots j u f ej
      refine ⟨v',a1,a2,fun z=>?_⟩
      subst z
      obtain ⟨p',rfl,o'⟩:=a3 rfl
      have n:p'≠p:=fun z=>by subst z; exact hij (r.apart i j t u p' e ej hp a1)
      exact ⟨p',rfl,o'.own.mono (Same.refl _) (other p' n),o'.out,o'.nas,o'.new⟩
  · have back:∀ (j:Nat) u,(st.env.set i (some (t',true)))[j]? = some (some (u,true))→∃ u',st.env[j]? = some (some (u',true)):=fun j u ej=>by
      by_cases hij:i=j
      · subst hij; exact ⟨t,e⟩
      · rw [List.getElem?_set_ne hij] at ej; exact ⟨u,ej⟩
    obtain ⟨u',ej'⟩:=back j u ej
    obtain ⟨w',ek'⟩:=back k w ek
    exact r.apart j k u' w' q ej' ek' sj sk
  · obtain ⟨a,a1,a2,a3⟩:=r.sto.at' n so en
    have n:a≠p:=fun z=>by subst z; exact o.nas (List.mem_of_getElem? a1)
    exact ⟨a,a1,a2,a3.mono (Same.refl _) (other a n)⟩
end
noncomputable def Fin (K:PySem.W.Frag) (B:Bas) (D:Ends) (ps:List (V × T)):Flow→Sta→Prop
  | .next,st'=>∀ σ' H' S' as',Rel K B st' σ' H' ps S' as'→D.nx σ' H'
  | .ret t,st'=>∀ v σ' H' S' as',Rel K B st' σ' H' ((v,t)::ps) S' as'→D.rt v H'
  | .brk,st'=>∀ σ' H' S' as',Rel K B st' σ' H' ps S' as'→D.bk σ' H'
  | .cont,st'=>∀ σ' H' S' as',Rel K B st' σ' H' ps S' as'→D.ct σ' H'
inductive sOf (K:PySem.W.Frag) (B:Bas) (s:S) (D:Ends) (σ:L2.St) (H:Hp):Prop
  | mk (st:Sta) (ps:List (V × T)) (S0:Hp) (as:List Addr) (R:Rel K B st σ H ps S0 as) (fl:Flow) (st':Sta) (e:s st=some (fl,st')) (q:Fin K B D ps fl st')
inductive gOf (K:PySem.W.Frag) (B:Bas) (g:G) (v:V) (σ:L2.St) (H:Hp) (Q:L2.St→Hp→Prop):Prop
  | mk (st:Sta) (ps:List (V × T)) (S:Hp) (as:List Addr) (t:T) (R:Rel K B st σ H ((v,t)::ps) S as) (st':Sta) (e:g t st=some st') (q:∀ σ' H' S' as',Rel K B st' σ' H' ps S' as'→Q σ' H')
inductive fOf (K:PySem.W.Frag) (B:Bas) (m:M T) (σ:L2.St) (H:Hp) (Q:VK):Prop
  | mk (st:Sta) (ps:List (V × T)) (S:Hp) (as:List Addr) (R:Rel K B st σ H ps S as) (t:T) (st':Sta) (e:m st=some (t,st')) (q:∀ p H' S' as',Rel K B st' σ H' ps S' as'→S8 K B S' as' H' p t→G3 st' σ p→Q (.ref p) H')
noncomputable section
variable {X:Cx} {B:Bas} {a b c e:Expr} {m m1 m2:M T} {pos:Pos} {u v:S}
theorem v8:PSs X [] (sOf X.K B jt):=a0l.imp fun D σ H z9=>by
  obtain ⟨st,ps,S,as,R,fl,st',e,q⟩:=z9
  cases e; exact q σ H S as R
theorem ig {st:Stmt} {rest:List Stmt} (h1:PS X st (sOf X.K B u)) (h2:PSs X rest (sOf X.K B v)):PSs X (st::rest) (sOf X.K B (jd u v)):=(Xb h1 h2).imp fun D σ H z9=>by
  obtain ⟨st,ps,S,as,R,fl,st',e,q⟩:=z9
  rcases Yx e with ⟨s1,e1,e2⟩ | ⟨e1,hn⟩
  · exact ⟨st,ps,S,as,R,.next,s1,e1,fun σ' H' S' as' R'=>⟨s1,ps,S',as',R',fl,st',e2,q⟩⟩
  · refine ⟨st,ps,S,as,R,fl,st',e1,?_⟩
    cases fl with
    | next=>exact absurd rfl hn
    | ret t=>exact q
    | brk=>exact q
    | cont=>exact q
theorem jg {st:Stmt} (h1:PS X st (sOf X.K B u)):PSs X [st] (sOf X.K B u):=a0j h1
theorem jr (he:PE X e (tOf X.K B m)):PS X (.Return (some e) pos) (sOf X.K B (jl m)):=(a3q he).imp fun D σ H z9=>by
  obtain ⟨st,ps,S,as,R,fl,st',e,q⟩:=z9
  obtain ⟨t,e1,rfl⟩:=Xa e
  exact ⟨st,ps,S,as,R,t,st',e1,fun v H' S' as' R'=>q v σ H' S' as' R'⟩
theorem yp {c1:M Bool} {sa sb:List Stmt} (hc:PT X c (cOf X.K B c1)) (ha:PSs X sa (sOf X.K B u)) (hb:PSs X sb (sOf X.K B v)):PS X (.If c sa sb pos) (sOf X.K B (sIf c1 u v)):=(a7l hc ha hb).imp fun D σ H z9=>by
  obtain ⟨st,ps,S,as,R,fl,st',e,q⟩:=z9
  rcases a0e e with ⟨s1,e1,e2⟩ | ⟨s1,e1,e2⟩
  · exact ⟨st,ps,S,as,R,true,s1,e1,fun H1 S1 as1 R1=>a1t ⟨s1,ps,S1,as1,R1,fl,st',e2,q⟩⟩
  · exact ⟨st,ps,S,as,R,false,s1,e1,fun H1 S1 as1 R1=>a0o ⟨s1,ps,S1,as1,R1,fl,st',e2,q⟩⟩
theorem Ab (i:Nat) {tg:Expr} (h:PG X tg (Jj i)):PG X tg (gOf X.K B (hName i)):=fun pins s σ H x u Q I r z9=>h pins s σ H x u Q I r (by
  obtain ⟨st,ps,S,as,t,R,st',e,q⟩:=z9
  cases e
  exact q _ H S as (R.drop.put R.top))
theorem mq (i:Nat) {te:TE} {s:Stmt} (h:PS X s (a2r te (Jj i))) (hm:∀ σ H Q,tOf X.K B m σ H Q→te σ H Q):PS X s (sOf X.K B (jk i m)):=h.imp fun D σ H z9=>by
  obtain ⟨st,ps,S,as,R,fl,st',e,q⟩:=z9
  obtain ⟨t,s1,e1,rfl,rfl⟩:=Ym e
  exact hm σ H _ ⟨st,ps,S,as,R,t,s1,e1,fun v H' S' as' R'=>q _ H' S' as' (R'.drop.put R'.top)⟩
theorem Fd (i:Nat) {te:TE} {s:Stmt} (h:PS X s (a2r te (Jj i))) (hm:∀ σ H Q,fOf X.K B m σ H Q→te σ H Q):PS X s (sOf X.K B (sNew i m)):=h.imp fun D σ H z9=>by
  obtain ⟨st,ps,S,as,R,fl,st',e,q⟩:=z9
  obtain ⟨t,s1,e1,rfl,rfl⟩:=Yc e
  exact hm σ H _ ⟨st,ps,S,as,R,t,s1,e1,fun p H' S' as' R' o n=>q _ H' S' as' (R'.a65 o n)⟩
end
end C
end
noncomputable section
set_option linter.all false
set_option maxRecDepth 100000
set_option maxHeartbeats 4000002
set_option autoImplicit false
namespace C
open PySem PySem.Spec PyProof.Rows L2
noncomputable section
variable {K:PySem.W.Frag} {B:Bas} {st:Sta} {σ:L2.St} {H H' S S':Hp} {ps ps2:List (V × T)} {as as':List Addr}
theorem Own.more {p:Addr} {t:T} (hs:Same S S') (x:∃ l,as'=as++l) (hh:H p=H' p) (o:Own K S as H p t):Own K S' as' H' p t:=by
  cases t with
  | lst ts=>obtain ⟨vs,h,r⟩:=o; exact ⟨vs,hh ▸ h,r.mono hs x⟩
  | dic ts=>obtain ⟨vs,h,r⟩:=o; exact ⟨vs,hh ▸ h,r.mono hs x⟩
  | _=>exact o.elim
theorem Rel.call {sto':List SO} (r:Rel K B st σ H ps S as) (g:a6g ⟨S,as,H⟩ S' as' H') (sub:Same S' H') (so:Fg K S' as' H' sto'):Rel K B { st with sto:=sto' } σ H' ps S' as' where
  sub:=sub
  grow:=by
    refine ⟨r.grow.same.trans g.same,?_,fun p o a b c=>?_⟩
    · obtain ⟨l,e⟩:=r.grow.more
      obtain ⟨l',e'⟩:=g.more
      exact ⟨l++l',by rw [e',e,List.append_assoc]⟩
    · obtain ⟨x,y,z⟩:=r.grow.keep p o a b c
      exact g.keep p o x y z
  slots:=fun i t f e=>by
    obtain ⟨v,h1,h2,h3⟩:=r.slots i t f e
    refine ⟨v,h1,fun q=>(h2 q).mono g.same g.more,fun q=>?_⟩
    obtain ⟨p,rfl,o⟩:=h3 q
    obtain ⟨ob,ho⟩:=o.own.there
    obtain ⟨x,y,z⟩:=g.keep p ob ho o.out o.nas
    exact ⟨p,rfl,o.own.more g.same g.more (by rw [ho,x]),y,z,o.new⟩
  apart:=r.apart
  sto:=so
  pend:=fun p hp=>(r.pend p hp).mono g.same g.more
  len:=r.len
end
noncomputable def spF (K:PySem.W.Frag) (ar:Nat) (F:Fn):Sp:=fun vs H Q _=>∃ S as sto ts t sto',Same S H∧Fg K S as H sto∧wu K S as vs ts∧ts.length=ar∧F ts sto=some (t,sto') ∧
  ∀ v H' S' as',a6g ⟨S,as,H⟩ S' as' H'→Same S' H'→Fg K S' as' H' sto'→Rep K S' as' v t→Q v H'
noncomputable section
variable {X:Cx} {B:Bas} {a b c e:Expr} {m m1 m2:M T} {pos p:Pos} {u v:S} {es:List Expr} {ms:M (List T)} {k:Nat} {f:Addr} {fd:FuncData} {pn:List Str} {F:Fn} {x:Str}
theorem a2n (G:Ad X.prog X.w X.K X.mg X.base CX0 k f fd pn (spF X.K pn.length F)) (hr:Il k X.A) (hg:Gl X x) (hm:X.mg x=some (.ref f)) (hk:PySem.W.keepIn X.K (.ref f)=true) (hb:Binds X.K fd pn [])
    (ha:PA X (e::es) (aOf X.K B ms)) (hl:∀ st ts st',ms st=some (ts,st')→ts.length=pn.length) (hdb:(x==("__debug__" : Str))=false:=by decide)
    (he:starEach (e::es) X.env=(false,eval e X.env)::starEach es X.env:=by rfl) (hpl:(backTo pos (starEach es X.env)).any (·.1)=false:=by rfl) :
    PE X (.Call (.Name x p) (e::es) [] pos) (tOf X.K B (dz F ms)) :=
  (a0p G hr hg hm hk hb .nil a79 ha hdb he hpl).imp fun σ H Q z9=>by
    obtain ⟨st,ps,S,as,R,t,st',e,q⟩:=z9
    obtain ⟨ts,s1,sto,e1,e2,rfl⟩:=W8 e
    refine ⟨st,ps,S,as,R,ts,s1,e1,fun vs H1 S1 as1 R1 rs=>?_⟩
    show spF X.K pn.length F (vs++[]) H1 Q E0
    rw [List.append_nil]
    exact ⟨S1,as1,s1.sto,ts,t,sto,R1.sub,R1.sto,rs,hl _ _ _ e1,e2,fun v H2 S2 as2 g sub so r=>q v H2 S2 as2 ((R1.call g sub so).push r)⟩
theorem eq_nil:∀ st ts st',dw st=some (ts,st')→ts.length=0:=fun st ts st' e=>by cases e; rfl
theorem cu {r:M (List T)} {n:Nat} (h:∀ st ts st',r st=some (ts,st')→ts.length=n):∀ st ts st',ak m r st=some (ts,st')→ts.length=n+1:=fun st ts st' e=>by
  obtain ⟨t,s1,us,e1,e2,rfl⟩:=Bg e
  exact congrArg (· + 1) (h _ _ _ e2)
end
noncomputable section
variable {P:Program} {w:World} {K:PySem.W.Frag} {mg:Str→Option Value} {base:Heap}
theorem Ww {N:List Str} {vs:List V} {i:Nat} {v:V} (h:vs[i]? = some v):(L2.start N vs)[i]? = some (some v):=by
  unfold L2.start
  have hi:=(List.getElem?_eq_some_iff.mp h).1
  rw [List.getElem?_append_left (by rw [List.length_map]; exact hi),List.getElem?_map,h]; rfl
theorem Wf {S H:Hp} {as:List Addr} {sto:List SO} {vs:List V} {ts:List T} {N:List Str} (h1:Same S H) (h2:Fg K S as H sto) (h3:wu K S as vs ts) (hN:ts.length≤N.length) :
    Rel K ⟨S,as,H⟩ ⟨ts.map (fun t=>some (t,false))++List.replicate (N.length - ts.length) none,sto⟩ (L2.start N vs) H [] S as:=by
  have key:∀ (i:Nat) t fl,(ts.map (fun t=>some (t,false))++List.replicate (N.length - ts.length) (none:Slot))[i]? = some (some (t,fl))→fl=false∧ts[i]? = some t:=fun i t fl e=>by
    by_cases hi:i<ts.length
    · rw [List.getElem?_append_left (by rw [List.length_map]; exact hi),List.getElem?_map] at e
      cases z:ts[i]? with
      | none=>rw [z] at e; cases e
      | some t'=>rw [z] at e; cases e; exact ⟨rfl,rfl⟩
    · rw [List.getElem?_append_right (by rw [List.length_map]; exact Nat.le_of_not_lt hi)] at e
      have:=List.eq_of_mem_replicate (List.mem_of_getElem? e)
      cases this
  refine ⟨h1,⟨Same.refl _,nol,fun p o a b c=>⟨a,b,c⟩⟩,fun i t fl e=>?_,fun i j t u p ei ej=>?_,h2,(fun p hp=>by cases hp),?_⟩
  · obtain ⟨rfl,e'⟩:=key i t fl e
    obtain ⟨v,hv,r⟩:=h3.get e'
    exact ⟨v,Ww hv,fun _=>r,fun z=>by cases z⟩
  · obtain ⟨z,_⟩:=key i t true ei; cases z
  · unfold L2.start
    rw [List.length_append,List.length_append,List.length_map,List.length_map,List.length_replicate,List.length_replicate,h3.length]
theorem qe {x qual:Str} {st:Stmt} {f:Addr} {fd:FuncData} {N ps:List Str} {k:Nat} {b:S} (F:Fun K x qual st f fd) (Sc:mj N ps (gw st)) (hN:ps.length≤N.length)
    (hb:∀ (cdv:Value) (A:Around) (outer:List Env) (s:Shared) (H:Hp) (E:XK) (B:Bas),Il k (A.deeper (envOfC qual (gw st) s.heap.objs.size f cdv)) →
      PSs (a1h CX0 P w K mg base N qual (gw st) f cdv A outer s H E).nox (lq st) (sOf K B b)):Ad P w K mg base CX0 (k+1) f fd ps (spF K ps.length (iy N.length b)):=by
  refine F.ok Sc (fun vs H Q E h=>?_) fun cdv A outer s H vs Q E hr h=>?_
  · obtain ⟨S,as,sto,ts,t,sto',h1,h2,h3,h4,_⟩:=h
    rw [h3.length,h4]
  · obtain ⟨S,as,sto,ts,t,sto',h1,h2,h3,h4,h5,q⟩:=h
    refine ⟨_,hb cdv A outer s H E ⟨S,as,H⟩ hr,?_⟩
    have lv:vs.length=ps.length:=by rw [h3.length,h4]
    have R:Rel K ⟨S,as,H⟩ ⟨ts.map (fun t=>some (t,false))++List.replicate (N.length - ts.length) none,sto⟩ (L2.start N vs) H [] S as:=Wf h1 h2 h3 (by rw [h4]; exact hN)
    unfold iy at h5
    split at h5
    · rename_i t' s' e
      cases h5
      exact ⟨_,[],S,as,R,.ret t,s',e,fun v σ' H' S' as' R'=>q v H' S' as' R'.grow R'.sub R'.sto R'.top⟩
    · rename_i s' e
      cases h5
      exact ⟨_,[],S,as,R,.next,s',e,fun σ' H' S' as' R'=>q .non H' S' as' R'.grow R'.sub R'.sto .non⟩
    · cases h5
end
end C
end
noncomputable section
set_option linter.all false
set_option maxRecDepth 100000
set_option maxHeartbeats 4000002
set_option autoImplicit false
namespace C
open PySem PySem.Spec PyProof.Rows L2
theorem Xl {g:G} {b:S} {t:T} {r:List T} {s s':Sta} {fl:Flow} (h:forL g b (t::r) s=some (fl,s')):∃ s1 fb s2,g t s=some s1∧b s1=some (fb,s2) ∧
    (match fb with | .next=>forL g b r s2=some (fl,s') | .cont=>forL g b r s2=some (fl,s') | .brk=>fl=.next∧s'=s2 | .ret v=>fl=.ret v∧s'=s2):=by
  rw [forL] at h
  dsimp only at h
  split at h
  · rename_i s1 e1
    split at h
    · rename_i s2 e2; exact ⟨s1,.next,s2,e1,e2,h⟩
    · rename_i s2 e2; exact ⟨s1,.cont,s2,e1,e2,h⟩
    · rename_i s2 e2; cases h; exact ⟨s1,.brk,_,e1,e2,rfl,rfl⟩
    · rename_i v s2 e2; cases h; exact ⟨s1,.ret v,_,e1,e2,rfl,rfl⟩
    · cases h
  · cases h
structure Js (K:PySem.W.Frag) (S:Hp) (as:List Addr) (H:Hp) (J:It) (ts:List T):Prop where
  go:∀ (i:Nat) t,ts[i]? = some t→J.go i H∧∀ x H',J.yld i H x H'→∃ S',Ext S H S' H'∧Rep K S' as x t
  stop:∀ i,ts.length≤i→J.stop i H
inductive iOf (K:PySem.W.Frag) (B:Bas) (m:M (List T)) (σ:L2.St) (H:Hp) (R:It→Hp→Prop):Prop
  | mk (st:Sta) (ps:List (V × T)) (S:Hp) (as:List Addr) (R0:Rel K B st σ H ps S as) (ts:List T) (st':Sta) (e:m st=some (ts,st')) (z:ts.length≤sizeLine) (q:∀ J H' S' as' ps',Rel K B st' σ H' (ps'++ps) S' as'→(∀ S as H,(∀ p∈ps',Rep K S as p.1 p.2)→Same S H→Js K S as H J ts)→R J H')
noncomputable section
variable {X:Cx} {tg l:Expr} {tl:TE}
noncomputable def iSq (K:PySem.W.Frag) (tl:TE):TI:=fun σ H R=>tl σ H fun x H1=>∃ a,x=.ref a∧(((∃ xs,SqL K H1 a xs)∧R (Itl K a) H1)∨((∃ xs,SqT K H1 a xs)∧R (Itt K a) H1))
theorem a6s (hl:PE X l tl):PI X tg l (iSq X.K tl):=by
  intro pins s σ H R I h
  refine thn (hl pins s σ H _ I h) fun v s1 z0=>?_
  obtain ⟨x,H1,I1,r1,q1⟩:=z0
  obtain ⟨a,e,q⟩:=q1
  subst e
  cases r1
  rcases q with ⟨⟨xs,hq⟩,q⟩ | ⟨⟨xs,hq⟩,q⟩
  · obtain ⟨its,rv,p,hz⟩:=I1.list hq
    refine wpAny_pyIter_list p.isList ?_
    refine ⟨s1.heap.objs.size,[s1.heap.objs.size],_,_,H1,rfl,I1.kept (t':=s1.toks) fun b o e=>Heap.get?_push_of_some _ e,Vn a _,⟨_,Heap.get?_push_size _ rfl,rfl,rfl⟩,fun b hb=>?_,q⟩
    have e:b=s1.heap.objs.size:=by simpa using hb
    subst e
    exact I1.a4j (Nat.le_refl _) (I1.hok.fresh (Nat.le_refl _))
  · obtain ⟨its,rv,p,hz⟩:=I1.tuple hq
    refine wpAny_pyIter_tuple (show s1.heap.IsTuple a its.toArray from p) ?_
    refine ⟨s1.heap.objs.size,[s1.heap.objs.size],_,_,H1,rfl,I1.kept (t':=s1.toks) fun b o e=>Heap.get?_push_of_some _ e,Tc a _,⟨_,Heap.get?_push_size _ rfl,rfl,rfl⟩,fun b hb=>?_,q⟩
    have e:b=s1.heap.objs.size:=by simpa using hb
    subst e
    exact I1.a4j (Nat.le_refl _) (I1.hok.fresh (Nat.le_refl _))
end
noncomputable section
variable {X:Cx} {B:Bas} {a b c e tg iter:Expr} {m m1 m2:M T} {pos p:Pos} {u v:S} {g:G} {it:M (List T)} {body:List Stmt}
theorem itL {K:PySem.W.Frag} {S:Hp} {as:List Addr} {H:Hp} {p:Addr} {vs:List V} {ts:List T} (sub:Same S H) (h:SqL K H p vs) (r:wu K S as vs ts):Js K S as H (Itl K p) ts where
  go:=fun i t e=>by
    obtain ⟨v,hv,rv⟩:=r.get e
    exact ⟨⟨vs,v,h,hv⟩,fun x H' y=>⟨S,by rw [y.1]; exact Ext.refl sub,by have:=y.2 vs h; rw [hv] at this; cases this; exact rv⟩⟩
  stop:=fun i hi=>⟨vs,h,by rw [r.length]; exact hi⟩
theorem itT {K:PySem.W.Frag} {S:Hp} {as:List Addr} {H:Hp} {p:Addr} {vs:List V} {ts:List T} (sub:Same S H) (h:SqT K H p vs) (r:wu K S as vs ts):Js K S as H (Itt K p) ts where
  go:=fun i t e=>by
    obtain ⟨v,hv,rv⟩:=r.get e
    exact ⟨⟨vs,v,h,hv⟩,fun x H' y=>⟨S,by rw [y.1]; exact Ext.refl sub,by have:=y.2 vs h; rw [hv] at this; cases this; exact rv⟩⟩
  stop:=fun i hi=>⟨vs,h,by rw [r.length]; exact hi⟩
theorem vh:lim≤sizeLine:=by rw [sizeLine_eq]; decide
theorem Am (h:PE X iter (tOf X.K B m)):PI X tg iter (iOf X.K B (jw m)):=by
  intro pins s σ H R I hw
  refine a6s h pins s σ H R I ?_
  obtain ⟨st,ps,S,as,Rl,ts,st',e,hz,q⟩:=hw
  unfold jw at e
  split at e
  · rename_i xs s1 e1
    split at e
    · rename_i hl
      cases e
      refine ⟨st,ps,S,as,Rl,_,_,e1,fun v H1 S1 as1 R1=>?_⟩
      have top:=R1.top
      cases top with
      | @lst a vs _ hs hr =>
        refine ⟨a,rfl,.inl ⟨⟨vs,qp R1.sub hs⟩,q _ H1 S1 as1 [(.ref a,.lst _)] R1 fun S2 as2 H2 hp hh=>?_⟩⟩
        have:=hp _ List.mem_cons_self
        cases this with
        | @lst _ vs2 _ hs2 hr2=>exact itL hh (qp hh hs2) hr2
    · cases e
  · rename_i xs s1 e1
    split at e
    · rename_i hl
      cases e
      refine ⟨st,ps,S,as,Rl,_,_,e1,fun v H1 S1 as1 R1=>?_⟩
      have top:=R1.top
      cases top with
      | @tup a vs _ hs hr =>
        refine ⟨a,rfl,.inr ⟨⟨vs,qt R1.sub hs⟩,q _ H1 S1 as1 [(.ref a,.tup _)] R1 fun S2 as2 H2 hp hh=>?_⟩⟩
        have:=hp _ List.mem_cons_self
        cases this with
        | @tup _ vs2 _ hs2 hr2=>exact itT hh (qt hh hs2) hr2
    · cases e
  · cases e
theorem Je {a:M T} {ts:List T} {s s':Sta} (h:gk a s=some (ts,s')):∃ n:Int,a s=some (.int n,s')∧(-1000000<n∧n<1000000)∧ts=rangeT n.toNat:=by
  unfold gk at h
  split at h
  · rename_i n s1 e
    split at h
    · rename_i hl; cases h; exact ⟨n,e,by have:n.natAbs<1000000:=hl; omega,rfl⟩
    · cases h
  · cases h
theorem Rv {n i:Nat} {t:T} (h:(rangeT n)[i]? = some t):i<n∧t=.int (i:Int):=by
  unfold rangeT at h
  rw [List.getElem?_map] at h
  cases z:(List.range n)[i]? with
  | none=>rw [z] at h; cases h
  | some k =>
    rw [z] at h; cases h
    obtain ⟨hi,e⟩:=List.getElem?_eq_some_iff.mp z
    rw [List.getElem_range] at e; subst e
    rw [List.length_range] at hi
    exact ⟨hi,rfl⟩
theorem Jx (hg:Gl X "range") (hm:X.mg "range" = none) (h:PE X a (tOf X.K B m)) (hs:starEach [a] X.env=[(false,eval a X.env)]:=by rfl):PI X tg (.Call (.Name "range" p) [a] [] pos) (iOf X.K B (gk m)):=by
  intro pins s σ H R I hw
  refine Wt (ta:=Rt (tOf X.K B m) a4e) hg hm (wj h Aw hs) hs pins s σ H R I ?_
  obtain ⟨st,ps,S,as,Rl,ts,st',e,hz,q⟩:=hw
  obtain ⟨n,e1,hl,rfl⟩:=Je e
  refine ⟨st,ps,S,as,Rl,_,_,e1,fun v H1 S1 as1 R1=>?_⟩
  cases R1.top
  refine ⟨n,rfl,by omega,by omega,q _ H1 S1 as1 [] R1.drop fun S2 as2 H2 _ hh=>⟨fun i t e=>?_,fun i hi=>?_⟩⟩
  · obtain ⟨hi,rfl⟩:=Rv e
    refine ⟨hi,fun x H' y=>⟨S2,by rw [y.1]; exact Ext.refl hh,?_⟩⟩
    have:=y.2; subst this
    rw [Int.zero_add]; exact .int _
  · show n.toNat≤i
    unfold rangeT at hi
    rwa [List.length_map,List.length_range] at hi
theorem Gw (hp:PassesOwn (model X.prog X.w) X.A X.env X.xe) (hc:X.calm=true) (hi:PI X tg iter (iOf X.K B it)) (hg:PG X tg (gOf X.K B g)) (hb:PSs X body (sOf X.K B u)) (hsz:∀ st ts st',it st=some (ts,st')→ts.length≤sizeLine)
    (hs:∀ x,foldedSetIterable iter X.env x=pure x:=by intro _; rfl):PS X (.For tg iter body [] pos) (sOf X.K B (mz g it u)):=(a4u hp hc hi hg hb hs).imp fun D σ H z9=>by
  obtain ⟨st,ps,S,as,R,fl,st',e,q⟩:=z9
  obtain ⟨ts,s1,e1,e2⟩:=Y4 e
  refine ⟨st,ps,S,as,R,ts,s1,e1,hsz _ _ _ e1,fun J H1 S1 as1 ps' R1 facts=>?_⟩
  refine ⟨fun i m σ H=>m=ts.length - i∧i≤ts.length∧∃ sti Si asi,Rel X.K B sti σ H (ps'++ps) Si asi∧forL g u (ts.drop i) sti=some (fl,st'),⟨ts.length,by simp,Nat.zero_le _,s1,S1,as1,R1,by simpa using e2⟩,?_⟩
  rintro i m σ2 H2 ⟨rfl,hi,sti,Si,asi,Ri,ei⟩
  have F:=facts Si asi H2 (fun p hp=>Ri.pend p (List.mem_append_left _ hp)) Ri.sub
  have sub:∀ p∈ps,p∈ps'++ps:=fun p hp=>List.mem_append_right _ hp
  by_cases hlt:i<ts.length
  · rw [List.drop_eq_getElem_cons hlt] at ei
    obtain ⟨s2,fb,s3,eg,eb,er⟩:=Xl ei
    have ht:ts[i]? = some ts[i]:=List.getElem?_eq_getElem hlt
    refine .inr ⟨(F.go i _ ht).1,fun σ' H'=>∃ sti Si asi,Rel X.K B sti σ' H' (ps'++ps) Si asi∧forL g u (ts.drop (i+1)) sti=some (fl,st'),fun σ' H' h=>⟨ts.length - (i+1),by omega,rfl,hlt,h⟩,fun x H' y=>?_⟩
    obtain ⟨S',ex,rx⟩:=(F.go i _ ht).2 x H' y
    refine ⟨sti,ps'++ps,S',asi,_,(Ri.ext ex).push rx,s2,eg,fun σ3 H3 S3 as3 R3=>⟨s2,ps'++ps,S3,as3,R3,fb,s3,eb,?_⟩⟩
    cases fb with
    | next=>exact fun σ' H' S' as' R'=>⟨s3,S',as',R',er⟩
    | cont=>exact fun σ' H' S' as' R'=>⟨s3,S',as',R',er⟩
    | brk =>
      obtain ⟨rfl,rfl⟩:=er
      exact fun σ' H' S' as' R'=>q σ' H' S' as' (R'.pick sub)
    | ret v =>
      obtain ⟨rfl,rfl⟩:=er
      exact fun v σ' H' S' as' R'=>q v σ' H' S' as' (R'.pick fun p hp=>by
        rcases List.mem_cons.mp hp with rfl | z
        · exact List.mem_cons_self
        · exact List.mem_cons_of_mem _ (sub p z))
  · have hie:i=ts.length:=by omega
    subst hie
    rw [List.drop_length] at ei
    cases ei
    exact .inl ⟨F.stop _ (Nat.le_refl _),q σ2 H2 Si asi (Ri.pick sub)⟩
end
end C
end
noncomputable section
set_option linter.all false
set_option maxRecDepth 100000
set_option maxHeartbeats 4000002
set_option autoImplicit false
namespace C
open PySem PySem.Spec PyProof.Rows L2
noncomputable section
variable {K:PySem.W.Frag} {B:Bas} {st:Sta} {σ:L2.St} {H H' S S':Hp} {ps ps2:List (V × T)} {as as':List Addr}
theorem Rel.Vp (r:Rel K B st σ H ps S as) {i:Nat} {t:T} (e:st.env[i]? = some (some (t,true))):∃ S',Rel K B { st with env:=st.env.set i (some (t,false)) } σ H ps S' as:=by
  obtain ⟨v,S',_,R⟩:=r.freeze e
  exact ⟨S',R.drop⟩
theorem Rel.bh:∀ (cap:List Nat) {st:Sta} {S:Hp},Rel K B st σ H ps S as→∃ S',Rel K B { st with env:=bh cap st.env } σ H ps S' as
  | [],st,S,r=>⟨S,r⟩
  | i::l,st,S,r=>by
    unfold C.bh
    rw [List.foldl_cons]
    split
    · rename_i t f e
      cases f with
      | true =>
        obtain ⟨S1,R1⟩:=r.Vp e
        exact Rel.bh l R1
      | false =>
        have e2:st.env.set i (some (t,false))=st.env:=by
          apply List.ext_getElem?
          intro j
          by_cases hij:i=j
          · subst hij
            rw [List.getElem?_set_self (List.getElem?_eq_some_iff.mp e).1,e]
          · rw [List.getElem?_set_ne hij]
        rw [e2]
        exact Rel.bh l r
    · exact Rel.bh l r
noncomputable def Dc (env:List Slot):Nat→List Slot
  | 0=>env
  | n+1=>match (Dc env n)[n]? with
    | some (some (t,_))=>(Dc env n).set n (some (t,false))
    | _=>Dc env n
theorem Gu (env:List Slot):∀ n,(Dc env n).length=env.length
  | 0=>rfl
  | n+1=>by
    rw [Dc]
    split
    · rw [List.length_set]; exact Gu env n
    · exact Gu env n
theorem G4 (env:List Slot):∀ (n j:Nat),(Dc env n)[j]? = if j<n then (env[j]?).map n6 else env[j]?
  | 0,j=>by rw [if_neg (Nat.not_lt_zero _)]; rfl
  | n+1,j=>by
    have ihn:=G4 env n n
    rw [if_neg (Nat.lt_irrefl _)] at ihn
    have ihj:=G4 env n j
    rw [Dc,ihn]
    by_cases hj:j=n
    · subst hj
      rw [if_pos (Nat.lt_succ_self _)]
      cases z:env[j]? with
      | none=>simp only [z,Option.map_none]; rw [ihn,z]
      | some s =>
        have hl:j<(Dc env j).length:=by rw [Gu]; exact (List.getElem?_eq_some_iff.mp z).1
        cases s with
        | none=>simp only [Option.map_some]; rw [ihn,z]; rfl
        | some p=>obtain ⟨t,f⟩:=p; simp only [Option.map_some]; rw [List.getElem?_set_self hl]; rfl
    · have e1:(if j<n+1 then (env[j]?).map n6 else env[j]?)=(if j<n then (env[j]?).map n6 else env[j]?):=by
        by_cases hlt:j<n
        · rw [if_pos hlt,if_pos (Nat.lt_succ_of_lt hlt)]
        · rw [if_neg hlt,if_neg (by omega)]
      rw [e1,← ihj]
      split
      · rw [List.getElem?_set_ne (Ne.symm hj)]
      · rfl
theorem Uv (env:List Slot):Dc env env.length=env.map n6:=by
  apply List.ext_getElem?
  intro j
  rw [G4,List.getElem?_map]
  by_cases hj:j<env.length
  · rw [if_pos hj]
  · rw [if_neg hj,List.getElem?_eq_none (Nat.le_of_not_lt hj)]; rfl
theorem Rel.Dc (r:Rel K B st σ H ps S as):∀ n,∃ S',Rel K B { st with env:=C.Dc st.env n } σ H ps S' as
  | 0=>⟨S,r⟩
  | n+1=>by
    obtain ⟨S1,R1⟩:=Rel.Dc r n
    rw [C.Dc]
    split
    · rename_i t f e
      cases f with
      | true=>exact R1.Vp e
      | false =>
        have e2:(C.Dc st.env n).set n (some (t,false))=C.Dc st.env n:=by
          apply List.ext_getElem?
          intro j
          by_cases hij:n=j
          · subst hij
            rw [List.getElem?_set_self (List.getElem?_eq_some_iff.mp e).1,e]
          · rw [List.getElem?_set_ne hij]
        rw [e2]
        exact ⟨S1,R1⟩
    · exact ⟨S1,R1⟩
theorem Rel.qj (r:Rel K B st σ H ps S as):∃ S',Rel K B (qj st) σ H ps S' as:=by
  obtain ⟨S',R⟩:=r.Dc st.env.length
  rw [Uv] at R
  exact ⟨S',R⟩
noncomputable def Zb (st:Sta):Prop:=∀ (i:Nat) t,st.env[i]?≠some (some (t,true))
theorem Ax (st:Sta):Zb (C.qj st):=fun i t e=>by
  unfold C.qj at e
  rw [List.getElem?_map] at e
  cases z:st.env[i]? with
  | none=>rw [z] at e; cases e
  | some s =>
    rw [z] at e
    cases s with
    | none=>cases e
    | some p=>obtain ⟨t,f⟩:=p; cases e
theorem Rel.rebase (r:Rel K B st σ H ps S as) (n:Zb st):Rel K ⟨S,as,H⟩ st σ H ps S as :=
  ⟨r.sub,⟨Same.refl _,nol,fun p o a b c=>⟨a,b,c⟩⟩,fun i t f e=>by
    obtain ⟨v,h1,h2,_⟩:=r.slots i t f e
    exact ⟨v,h1,h2,fun z=>by subst z; exact absurd e (n i t)⟩,r.apart,r.sto,r.pend,r.len⟩
end
theorem Uy {g:G} {c:M Bool} {e:M T} {t:T} {r acc us:List T} {s s':Sta} (h:Bu g c e (t::r) s acc=some (us,s')):∃ s1 b s2,g t s=some s1∧c s1=some (b,s2) ∧
    ((b=true∧∃ u s3,e s2=some (u,s3)∧acc.length<lim∧Bu g c e r (qj s3) (acc++[u])=some (us,s'))∨(b=false∧Bu g c e r (qj s2) acc=some (us,s'))):=by
  rw [Bu] at h
  split at h
  · rename_i s1 e1
    split at h
    · rename_i s2 e2
      split at h
      · rename_i u s3 e3
        split at h
        · rename_i hl; exact ⟨s1,true,s2,e1,e2,.inl ⟨rfl,u,s3,e3,hl,h⟩⟩
        · cases h
      · cases h
    · rename_i s2 e2; exact ⟨s1,false,s2,e1,e2,.inr ⟨rfl,h⟩⟩
    · cases h
  · cases h
theorem V7 {nv:Nat} {cap:List Nat} {g:G} {it:M (List T)} {c:M Bool} {e:M T} {s s':Sta} {v:T} (h:qz nv cap g it c e s=some (v,s')):∃ ts s1 us s2,it s=some (ts,s1) ∧
    Bu g c e ts ⟨List.replicate nv none++cap.map (fun i=>((bh cap s1.env)[i]?).getD none),s1.sto⟩ []=some (us,s2)∧v=.lst us∧s'=⟨bh cap s1.env,s2.sto⟩:=by
  unfold qz at h
  split at h
  · rename_i ts s1 e1
    dsimp only at h
    split at h
    · rename_i us s2 e2; cases h; exact ⟨ts,s1,us,s2,e1,e2,rfl,rfl⟩
    · cases h
  · cases h
noncomputable section
variable {K:PySem.W.Frag} {B:Bas} {st:Sta} {σ:L2.St} {H H' S S':Hp} {ps ps2:List (V × T)} {as as':List Addr} {D:Addr} {ob:HO}
theorem Fg.mem {sto:List SO} (r:Fg K S as H sto) {a:Addr} (h:a∈as):∃ o,H a=some o:=by
  obtain ⟨n,hn⟩:=List.getElem?_of_mem h
  have hl:=(List.getElem?_eq_some_iff.mp hn).1
  rw [r.len] at hl
  obtain ⟨a',h1,h2,h3⟩:=r.at' n _ (List.getElem?_eq_getElem hl)
  rw [hn] at h1; cases h1
  exact h3.there
theorem Rel.fresh (r:Rel K B st σ H ps S as) (h:H D=none):B.H D=none∧S D=none∧D∉as∧G3 st σ D:=by
  have sD:S D=none:=r.sub.free h
  have nD:D∉as:=fun z=>by obtain ⟨o,e⟩:=r.sto.mem z; rw [h] at e; cases e
  refine ⟨?_,sD,nD,fun j u e1 e2=>?_⟩
  · cases q:B.H D with
    | none=>rfl
    | some o =>
      have b1:B.S D=none:=by
        cases z:B.S D with
        | none=>rfl
        | some u=>have:=r.grow.same _ _ z; rw [sD] at this; cases this
      have b2:D∉B.as:=fun z=>by obtain ⟨l,e⟩:=r.grow.more; exact nD (by rw [e]; exact List.mem_append_left _ z)
      have:=(r.grow.keep D o q b1 b2).1
      rw [h] at this; cases this
  · obtain ⟨v,h1,_,h3⟩:=r.slots j u true e1
    rw [e2] at h1; cases h1
    obtain ⟨p,ep,o⟩:=h3 rfl
    cases ep
    obtain ⟨ob,ho⟩:=o.own.there
    rw [h] at ho; cases ho
theorem Rel.Z6 (r:Rel K B st σ H ps S as) (bD:B.H D=none) (sD:S D=none) (nD:D∉as) (no:G3 st σ D):Rel K B st σ (upd H D ob) ps S as:=by
  have ne:∀ b u,S b=some u→b≠D:=fun b u e z=>by subst z; rw [sD] at e; cases e
  refine ⟨fun b u e=>by rw [nq (ne b u e)]; exact r.sub _ _ e,⟨r.grow.same,r.grow.more,fun p o x y z=>?_⟩,fun i t f e=>?_,r.apart,⟨r.sto.len,r.sto.nd,fun n so e=>?_⟩,r.pend,r.len⟩
  · obtain ⟨a,b,c⟩:=r.grow.keep p o x y z
    exact ⟨by rw [nq (fun w=>by subst w; rw [bD] at x; cases x)]; exact a,b,c⟩
  · obtain ⟨v,h1,h2,h3⟩:=r.slots i t f e
    refine ⟨v,h1,h2,fun z=>?_⟩
    obtain ⟨p,rfl,o⟩:=h3 z
    have n:p≠D:=fun w=>by subst w; subst z; exact no i t e h1
    exact ⟨p,rfl,o.own.mono (Same.refl _) (nq n).symm,o.out,o.nas,o.new⟩
  · obtain ⟨a,h1,h2,h3⟩:=r.sto.at' n so e
    exact ⟨a,h1,h2,h3.mono (Same.refl _) (nq (fun w=>by subst w; exact nD (List.mem_of_getElem? h1))).symm⟩
theorem Rel.a5p (r:Rel K B st σ H ps S as) (no:Zb st) (sD:S D=none) (nD:D∉as):Rel K ⟨S,as,upd H D ob⟩ st σ (upd H D ob) ps S as:=by
  have ne:∀ b u,S b=some u→b≠D:=fun b u e z=>by subst z; rw [sD] at e; cases e
  refine ⟨fun b u e=>by rw [nq (ne b u e)]; exact r.sub _ _ e,⟨Same.refl _,nol,fun p o x y z=>⟨x,y,z⟩⟩,fun i t f e=>?_,r.apart,⟨r.sto.len,r.sto.nd,fun n so e=>?_⟩,r.pend,r.len⟩
  · obtain ⟨v,h1,h2,_⟩:=r.slots i t f e
    exact ⟨v,h1,h2,fun z=>by subst z; exact absurd e (no i t)⟩
  · obtain ⟨a,h1,h2,h3⟩:=r.sto.at' n so e
    exact ⟨a,h1,h2,h3.mono (Same.refl _) (nq (fun w=>by subst w; exact nD (List.mem_of_getElem? h1))).symm⟩
end
theorem Dr:∀ (cap:List Nat) (env:List Slot) (k:Nat),(∀ t,env[k]?≠some (some (t,true)))→∀ t,(bh cap env)[k]?≠some (some (t,true))
  | [],env,k,h=>h
  | i::l,env,k,h=>by
    have e:bh (i::l) env=bh l (match env[i]? with | some (some (t,_))=>env.set i (some (t,false)) | _=>env):=rfl
    rw [e]
    refine Dr l _ k fun t=>?_
    split
    · rename_i t' f e'
      by_cases hk:i=k
      · subst hk
        rw [List.getElem?_set_self (List.getElem?_eq_some_iff.mp e').1]
        intro z; cases z
      · rw [List.getElem?_set_ne hk]; exact h t
    · exact h t
theorem Gv:∀ (cap:List Nat) (env:List Slot) (k:Nat),k∈cap→∀ t,(bh cap env)[k]?≠some (some (t,true))
  | [],env,k,h=>by simp at h
  | i::l,env,k,h=>by
    have e:bh (i::l) env=bh l (match env[i]? with | some (some (t,_))=>env.set i (some (t,false)) | _=>env):=rfl
    rw [e]
    rcases List.mem_cons.mp h with rfl | h' -- here
    · refine Dr l _ k fun t=>?_
      split
      · rename_i t' f e'
        rw [List.getElem?_set_self (List.getElem?_eq_some_iff.mp e').1]
        intro z; cases z
      · rename_i hx
        intro z
        exact hx _ _ z
    · exact Gv l _ k h'
noncomputable def gE (K:PySem.W.Frag) (g:G):TG:=fun v σ H Q=>∃ B,gOf K B g v σ H Q
noncomputable def cE (K:PySem.W.Frag) (c:M Bool):TT:=fun σ H Q=>∃ B,cOf K B c σ H Q
noncomputable def eE (K:PySem.W.Frag) (e:M T):TE:=fun σ H Q=>∃ B,tOf K B e σ H Q
theorem pgE {X:Cx} {tg:Expr} {g:G} (h:∀ B,PG X tg (gOf X.K B g)):PG X tg (gE X.K g):=fun pins s σ H x u Q I r ⟨B,q⟩=>h B pins s σ H x u Q I r q
theorem ptE {X:Cx} {e:Expr} {c:M Bool} (h:∀ B,PT X e (cOf X.K B c)):PT X e (cE X.K c):=fun pins s σ H Q I ⟨B,q⟩=>h B pins s σ H Q I q
theorem peE {X:Cx} {e:Expr} {m:M T} (h:∀ B,PE X e (tOf X.K B m)):PE X e (eE X.K m):=fun pins s σ H Q I ⟨B,q⟩=>h B pins s σ H Q I q
theorem zq {X:Cx}:PTs X [] (cE X.K j5):=fun pins s σ H Q I z9=>by
  obtain ⟨B,st,ps,S,as,R,b,st',e,q⟩:=z9
  cases e
  exact a0v pins s σ H Q I (q H S as R)
theorem Px {X:Cx} {e:Expr} {c:M Bool} (h:∀ B,PT X e (cOf X.K B c)):PTs X [e] (cE X.K c):=a09 (ptE h)
noncomputable section
variable {X:Cx} {scope:Scope} {N:List Str}
theorem Uo {B:Bas} {nv:Nat} {cap:List Nat} {g:G} {c:M Bool} {e:M T} {ts us:List T} {env:List Slot} {sto1:List SO} {s2:Sta} {σ:L2.St} {H1 S1:Hp} {as1:List Addr} {ps ps':List (V × T)} {J:It} {Q:VK}
    (hN:N.length=nv+cap.length) (hv:∀ i x,i<nv→N[i]? = some x→True)
    (hcap:∀ (j k:Nat),cap[j]? = some k→∃ x,N[nv+j]? = some x∧X.N[k]? = some x∧a6c X scope x)
    (R1:Rel X.K B ⟨env,sto1⟩ σ H1 (ps'++ps) S1 as1) (hno:∀ k∈cap,∀ t,env[k]?≠some (some (t,true)))
    (facts:∀ S as H,Same B.S S→(∃ l,as=B.as++l)→(∀ p∈ps',Rep X.K S as p.1 p.2)→Same S H→Js X.K S as H J ts)
    (hc:Bu g c e ts ⟨List.replicate nv none++cap.map (fun i=>(env[i]?).getD none),sto1⟩ []=some (us,s2))
    (fin:∀ D H' S' as',Rel X.K B ⟨env,s2.sto⟩ σ H' (ps'++ps) S' as'→S8 X.K B S' as' H' D (.lst us)→G3 ⟨env,s2.sto⟩ σ D→Q (.ref D) H') :
    Mr X scope N (gE X.K g) (cE X.K c) (eE X.K e) σ J H1 Q:=by
  intro D hD
  obtain ⟨bD,sD1,nD1,noD⟩:=R1.fresh hD
  have capg:∀ (i:Nat) s,(List.replicate nv (none:Slot)++cap.map (fun i=>(env[i]?).getD none))[i]? = some (some s)→∃ j k,i=nv+j∧cap[j]? = some k∧env[k]? = some (some s):=fun i s h=>by
    by_cases hi:i<nv
    · rw [List.getElem?_append_left (by rw [List.length_replicate]; exact hi)] at h
      have:=List.eq_of_mem_replicate (List.mem_of_getElem? h); cases this
    · rw [List.getElem?_append_right (by rw [List.length_replicate]; exact Nat.le_of_not_lt hi),List.length_replicate,List.getElem?_map] at h
      cases z:cap[i - nv]? with
      | none=>rw [z] at h; cases h
      | some k =>
        rw [z] at h
        refine ⟨i - nv,k,by omega,z,?_⟩
        cases w:env[k]? with
        | none=>simp [w] at h
        | some s'=>simp [w] at h; rw [h]
  have sig:∀ (j k:Nat) v,cap[j]? = some k→σ[k]? = some (some v)→(List.replicate nv (none:Option V)++cap.map (fun i=>(σ[i]?).getD none))[nv+j]? = some (some v):=fun j k v h1 h2=>by
    rw [List.getElem?_append_right (by rw [List.length_replicate]; omega),List.length_replicate,Nat.add_sub_cancel_left,List.getElem?_map,h1]
    simp [h2]
  refine ⟨List.replicate nv none++cap.map (fun i=>(σ[i]?).getD none),by rw [List.length_append,List.length_replicate,List.length_map,hN],fun i v x h1 h2 _=>?_,?_⟩
  · by_cases hi:i<nv
    · rw [List.getElem?_append_left (by rw [List.length_replicate]; exact hi)] at h1
      have:=List.eq_of_mem_replicate (List.mem_of_getElem? h1); cases this
    · rw [List.getElem?_append_right (by rw [List.length_replicate]; exact Nat.le_of_not_lt hi),List.length_replicate,List.getElem?_map] at h1
      cases z:cap[i - nv]? with
      | none=>rw [z] at h1; cases h1
      | some k =>
        rw [z] at h1
        obtain ⟨y,n1,n2,ck⟩:=hcap _ _ z
        have e:nv+(i - nv)=i:=by omega
        rw [e,h2] at n1; cases n1
        refine ⟨k,n2,?_,ck⟩
        cases w:σ[k]? with
        | none=>simp [w] at h1
        | some s'=>simp [w] at h1; rw [h1]
  refine ⟨fun i m σ' H'=>m=ts.length - i∧i≤ts.length∧∃ sti Si asi acc accv,Rel X.K ⟨Si,asi,H'⟩ sti σ' H' [] Si asi∧Zb sti∧Rel X.K B ⟨env,sti.sto⟩ σ H' (ps'++ps) Si asi∧H' D=some (.lst accv)∧Si D=none∧D∉asi ∧
    wu X.K Si asi accv acc∧Bu g c e (ts.drop i) sti acc=some (us,s2),⟨ts.length,by simp,Nat.zero_le _,_,S1,as1,[],[],?_,?_,?_,ji,sD1,nD1,.nil,hc⟩,?_⟩
  · refine Rel.a5p (B:=B) (H:=H1) ⟨R1.sub,R1.grow,fun i t f h=>?_,fun i j t u p hi hj=>?_,R1.sto,(fun p hp=>by cases hp),?_⟩ (fun i t h=>?_) sD1 nD1
    · obtain ⟨j,k,rfl,hk,ek⟩:=capg i _ h
      obtain ⟨v,h1,h2,h3⟩:=R1.slots k t f ek
      exact ⟨v,sig j k v hk h1,h2,h3⟩
    · obtain ⟨j,k,rfl,hk,ek⟩:=capg i _ hi
      exact absurd ek (hno k (List.mem_of_getElem? hk) t)
    · show (List.replicate nv (none:Option V)++cap.map _).length=(List.replicate nv (none:Slot)++cap.map _).length
      rw [List.length_append,List.length_append,List.length_replicate,List.length_replicate,List.length_map,List.length_map]
    · obtain ⟨j,k,rfl,hk,ek⟩:=capg i _ h
      exact absurd ek (hno k (List.mem_of_getElem? hk) t)
  · intro i t h
    obtain ⟨j,k,rfl,hk,ek⟩:=capg i _ h
    exact absurd ek (hno k (List.mem_of_getElem? hk) t)
  · exact R1.Z6 bD sD1 nD1 noD
  rintro i m σ' H' ⟨rfl,hi,sti,Si,asi,acc,accv,Ri,no,Ro,hD',sD,nD,rA,ei⟩
  have F:=facts Si asi H' Ro.grow.same Ro.grow.more (fun p hp=>Ro.pend p (List.mem_append_left _ hp)) Ri.sub
  by_cases hlt:i<ts.length
  · rw [List.drop_eq_getElem_cons hlt] at ei
    obtain ⟨s3,b,s4,eg,ec,er⟩:=Uy ei
    have ht:ts[i]? = some ts[i]:=List.getElem?_eq_getElem hlt
    refine .inr ⟨(F.go i _ ht).1,fun x H2 y=>?_⟩
    obtain ⟨S2,ex,rx⟩:=(F.go i _ ht).2 x H2 y
    refine ⟨⟨Si,asi,H'⟩,sti,[],S2,asi,_,(Ri.ext ex).push rx,s3,eg,fun σ3 H3 S3 as3 R3=>⟨⟨Si,asi,H'⟩,s3,[],S3,as3,R3,b,s4,ec,fun H4 S4 as4 R4=>?_⟩⟩
    rcases er with ⟨rfl,w,s5,ee,hlen,erest⟩ | ⟨rfl,erest⟩
    · refine a1t ⟨⟨Si,asi,H'⟩,s4,[],S4,as4,R4,w,s5,ee,fun y H5 S5 as5 R5=>?_⟩
      obtain ⟨S6,R6⟩:=R5.qj
      obtain ⟨k1,k2,k3⟩:=R6.grow.keep D _ hD' sD nD
      have Ro2:=Ro.call R6.grow R6.sub R6.sto
      refine ⟨accv,k1,?_,ts.length - (i+1),by omega,rfl,hlt,qj s5,S6,as5,acc++[w],accv++[y],R6.drop.a5p (Ax _) k2 k3,Ax _,Ro2.Z6 bD k2 k3 noD,ji,k2,k3,(rA.mono R6.grow.same R6.grow.more).append (.cons R6.top .nil),erest⟩
      rw [rA.length]; exact Nat.lt_of_lt_of_le hlen vh
    · refine a0o ?_
      obtain ⟨S6,R6⟩:=R4.qj
      obtain ⟨k1,k2,k3⟩:=R6.grow.keep D _ hD' sD nD
      have Ro2:=Ro.call R6.grow R6.sub R6.sto
      exact ⟨ts.length - (i+1),by omega,rfl,hlt,qj s4,S6,as4,acc,accv,R6.rebase (Ax _),Ax _,Ro2,k1,k2,k3,rA.mono R6.grow.same R6.grow.more,erest⟩
  · have hie:i=ts.length:=by omega
    subst hie
    rw [List.drop_length] at ei
    cases ei
    exact .inl ⟨F.stop _ (Nat.le_refl _),fin D H' Si asi Ro ⟨⟨accv,hD',rA⟩,sD,nD,bD⟩ noD⟩
theorem Rel.give {K:PySem.W.Frag} {B:Bas} {st:Sta} {σ:L2.St} {H S:Hp} {ps:List (V × T)} {as:List Addr} {p:Addr} {t:T} (r:Rel K B st σ H ps S as) (o:S8 K B S as H p t) (no:G3 st σ p):∃ S',Rel K B st σ H ((.ref p,t)::ps) S' as:=by
  obtain ⟨ob,ho⟩:=o.own.there
  have sS:Same S (upd S p ob):=Same.upd o.out ob
  have rep:Rep K (upd S p ob) as (.ref p) t:=by
    have w:=o.own
    cases t with
    | lst ts=>obtain ⟨vs,h,q⟩:=w; rw [ho] at h; cases h; exact .lst (SqL.of ji) (q.mono sS nol)
    | dic ts=>obtain ⟨vs,h,q⟩:=w; rw [ho] at h; cases h; exact .dic (.inl ji) (q.mono sS nol)
    | _=>exact w.elim
  have outs:∀ q,S q=none→q≠p→upd S p ob q=none:=fun q h n=>by rw [nq n]; exact h
  refine ⟨upd S p ob,Rel.push (v:=.ref p) (t:=t) ⟨?_,?_,?_,r.apart,?_,fun q hq=>(r.pend q hq).mono sS nol,r.len⟩ rep⟩
  · intro b u q
    by_cases z:b=p
    · subst z; rw [ji] at q; cases q; exact ho
    · rw [nq z] at q; exact r.sub _ _ q
  · refine ⟨r.grow.same.trans sS,r.grow.more,fun q w a b c=>?_⟩
    obtain ⟨x,y,z⟩:=r.grow.keep q w a b c
    refine ⟨x,outs q y fun n=>?_,z⟩
    subst n; rw [o.new] at a; cases a
  · intro j u f ej
    obtain ⟨v',a1,a2,a3⟩:=r.slots j u f ej
    refine ⟨v',a1,fun z=>(a2 z).mono sS nol,fun z=>?_⟩
    subst z
    obtain ⟨p',rfl,o'⟩:=a3 rfl
    refine ⟨p',rfl,o'.own.mono sS rfl,outs p' o'.out fun n=>?_,o'.nas,o'.new⟩
    subst n
    exact no j u ej a1
  · refine ⟨r.sto.len,r.sto.nd,fun n so en=>?_⟩
    obtain ⟨a,a1,a2,a3⟩:=r.sto.at' n so en
    refine ⟨a,a1,outs a a2 fun z=>?_,a3.mono sS rfl⟩
    subst z
    exact o.nas (List.mem_of_getElem? a1)
theorem Q9 {K:PySem.W.Frag} {B:Bas} {m:M T} {σ:L2.St} {H:Hp} {Q:VK} (h:tOf K B m σ H Q):fOf K B m σ H Q:=by
  obtain ⟨st,ps,S,as,R,t,st',e,q⟩:=h
  refine ⟨st,ps,S,as,R,t,st',e,fun p H' S' as' R' o n=>?_⟩
  obtain ⟨S2,R2⟩:=R'.give o n
  exact q _ H' S2 as' R2
theorem zu {e:Expr} {B:Bas} {m:M T} (h:PE X e (fOf X.K B m)):PE X e (tOf X.K B m):=h.imp fun σ H Q=>Q9
variable {B:Bas} {nv:Nat} {cap:List Nat} {g:G} {it:M (List T)} {c:M Bool} {e:M T} {tg iter elt:Expr} {ifs:List Expr} {pos:Pos}
structure a5m (X:Cx) (scope:Scope) (N:List Str) (nv:Nat) (cap:List Nat):Prop where
  len:N.length=nv+cap.length
  at':∀ (j k:Nat),cap[j]? = some k→∃ x,N[nv+j]? = some x∧X.N[k]? = some x∧a6c X scope x
theorem Pg (co:a5m X scope N nv cap) (hsz:∀ st ts st',it st=some (ts,st')→ts.length≤sizeLine) {σ:L2.St} {H:Hp} {Q:VK} (h:fOf X.K B (qz nv cap g it c e) σ H Q) :
    a2l X scope N (iOf X.K B it) (gE X.K g) (cE X.K c) (eE X.K e) σ H Q:=by
  obtain ⟨st,ps,S,as,R,t,st',e,q⟩:=h
  obtain ⟨ts,s1,us,s2,e1,e2,rfl,rfl⟩:=V7 e
  refine ⟨st,ps,S,as,R,ts,s1,e1,hsz _ _ _ e1,fun J H1 S1 as1 ps' R1 facts=>?_⟩
  obtain ⟨S2,R2⟩:=R1.bh cap
  exact Uo co.len (fun _ _ _ _=>trivial) co.at' R2 (fun k hk=>Gv cap s1.env k hk) (fun S as H _ _=>facts S as H) e2 fun D H' S' as' R' o n=>q D H' S' as' (R'.pick fun p hp=>List.mem_append_right _ hp) o n
theorem Bp (co:a5m X scope N nv cap) (sc:J4 X scope N) (calm:X.calm=true) (hi:PI X tg iter (iOf X.K B it)) (hsz:∀ st ts st',it st=some (ts,st')→ts.length≤sizeLine)
    (hg:∀ C s₀ H₀ ex pn,PG (yg X scope N C s₀ H₀ ex pn) tg (gE X.K g)) (hc:∀ C s₀ H₀ ex pn,PTs (yg X scope N C s₀ H₀ ex pn) ifs (cE X.K c)) (he:∀ C s₀ H₀ ex pn,PE (yg X scope N C s₀ H₀ ex pn) elt (eE X.K e))
    (hs:∀ x,foldedSetIterable iter X.env x=pure x:=by intro _; rfl):PE X (.ListComp elt [⟨tg,iter,ifs,0⟩] scope pos) (fOf X.K B (qz nv cap g it c e)) :=
  (a1g sc calm hi hg hc he hs).imp fun σ H Q h=>Pg co hsz h
end
end C
end
noncomputable section
set_option linter.all false
set_option maxRecDepth 100000
set_option maxHeartbeats 4000002
set_option autoImplicit false
namespace C
open PySem PySem.Spec PyProof.Rows L2
noncomputable section
variable {X:Cx}
theorem Ob {f:Value→Value→Sem Value} {g:T→T→Option T} {r:R2} (h:OpR X f r)
    (k:∀ S as x y t u w,Rep X.K S as x t→Rep X.K S as y u→g t u=some w→∀ (H:Hp) (Q:VK),Same S H→(∀ v H' S',Ext S H S' H'→Rep X.K S' as v w→Q v H')→r x y H Q):OpT X f g:=by
  intro pins s σ H x y v u Q I rx ry z8
  obtain ⟨S,as,t,w,z,sub,ht,hu,hf,q⟩:=z8
  exact h pins s σ H x y v u Q I rx ry (k S as x y t w z ht hu hf H Q sub q)
theorem Bq {K:PySem.W.Frag} {S:Hp} {as:List Addr} {x y:V} {t u w:T} {g:T→T→Option T} {P:Prop} (ht:Rep K S as x t) (hu:Rep K S as y u) (hf:g t u=some w)
    (n1:∀ t u,(∀ i,t≠.int i)→g t u=none) (n2:∀ i u,(∀ j,u≠.int j)→g (.int i) u=none) (k:∀ i j,x=.int i→y=.int j→g (.int i) (.int j)=some w→P):P:=by
  by_cases h1:∃ i,t=.int i
  · obtain ⟨i,rfl⟩:=h1
    by_cases h2:∃ j,u=.int j
    · obtain ⟨j,rfl⟩:=h2
      cases ht; cases hu
      exact k i j rfl rfl hf
    · rw [n2 i u fun j e=>h2 ⟨j,e⟩] at hf; cases hf
  · rw [n1 t u fun i e=>h1 ⟨i,e⟩] at hf; cases hf
theorem Ux:OpT X (binaryOp .Sub) qb:=Ob a3e fun S as x y t u w ht hu hf H Q sub q =>
  Bq (g:=qb) ht hu hf (fun t u h=>by cases t <;> first | rfl | exact absurd rfl (h _)) (fun i u h=>by cases u <;> first | rfl | exact absurd rfl (h _)) fun i j ex ey hf=>by
  subst ex ey; cases hf
  exact ⟨_,_,rfl,rfl,q _ H S (Ext.refl sub) (.int _)⟩
theorem vg:OpT X (binaryOp .Mod) jy:=Ob a3j fun S as x y t u w ht hu hf H Q sub q =>
  Bq (g:=jy) ht hu hf (fun t u h=>by cases t <;> first | rfl | exact absurd rfl (h _)) (fun i u h=>by cases u <;> first | rfl | exact absurd rfl (h _)) fun i j ex ey hf=>by
  subst ex ey
  simp only [jy] at hf
  split at hf
  · cases hf; exact ⟨_,_,rfl,rfl,by assumption,q _ H S (Ext.refl sub) (.int _)⟩
  · cases hf
noncomputable def a6l (i j:Int):Prop:=0<j∧(j<1073741824∨j.natAbs<fdl)
theorem Yt:OpR X (binaryOp .FloorDiv) (rI a6l fun i j=>.int (i / j)):=opI fun i j _ _ _ _ _ hc q=>by
  have h1:(0:Int)<j:=hc.1
  have h2:j.natAbs<2 ^ 200:=by
    rcases hc.2 with h | h
    · exact Nat.lt_trans (show j.natAbs<1073741824 by omega) (by decide)
    · exact h
  exact floordiv_int (by omega) (by rw [Int.fdiv_eq_ediv_of_nonneg i (by omega)]; exact q) (.inl (PyProof.noPylong_of_log2 (Nat.lt_trans ((Nat.log2_lt (by omega)).mpr h2) (by decide))))
theorem Ek:OpT X (binaryOp .FloorDiv) j8:=Ob Yt fun S as x y t u w ht hu hf H Q sub q =>
  Bq (g:=j8) ht hu hf (fun t u h=>by cases t <;> first | rfl | exact absurd rfl (h _)) (fun i u h=>by cases u <;> first | rfl | exact absurd rfl (h _)) fun i j ex ey hf=>by
  subst ex ey
  simp only [j8] at hf
  split at hf
  · rename_i hc; cases hf; exact ⟨_,_,rfl,rfl,hc,q _ H S (Ext.refl sub) (.int _)⟩
  · cases hf
theorem O2:OpT X (binaryOp .Pow) Tp:=Ob a5o fun S as x y t u w ht hu hf H Q sub q =>
  Bq (g:=Tp) ht hu hf (fun t u h=>by cases t <;> first | rfl | exact absurd rfl (h _)) (fun i u h=>by cases u <;> first | rfl | exact absurd rfl (h _)) fun i j ex ey hf=>by
  subst ex ey
  simp only [Tp] at hf
  split at hf
  · rename_i h; cases hf; exact ⟨_,_,rfl,rfl,⟨h.1,by omega,by omega⟩,q _ H S (Ext.refl sub) (.int _)⟩
  · cases hf
theorem Qd:OpT X (compareOp .Lt) ltT:=Ob a7i fun S as x y t u w ht hu hf H Q sub q =>
  Bq (g:=ltT) ht hu hf (fun t u h=>by cases t <;> first | rfl | exact absurd rfl (h _)) (fun i u h=>by cases u <;> first | rfl | exact absurd rfl (h _)) fun i j ex ey hf=>by
  subst ex ey; cases hf
  exact ⟨_,_,rfl,rfl,q _ H S (Ext.refl sub) (.bl _)⟩
theorem Zf:OpT X (compareOp .LtE) leT:=Ob a6i fun S as x y t u w ht hu hf H Q sub q =>
  Bq (g:=leT) ht hu hf (fun t u h=>by cases t <;> first | rfl | exact absurd rfl (h _)) (fun i u h=>by cases u <;> first | rfl | exact absurd rfl (h _)) fun i j ex ey hf=>by
  subst ex ey; cases hf
  exact ⟨_,_,rfl,rfl,q _ H S (Ext.refl sub) (.bl _)⟩
theorem Qv:OpT X (compareOp .Gt) gtT:=Ob a72 fun S as x y t u w ht hu hf H Q sub q =>
  Bq (g:=gtT) ht hu hf (fun t u h=>by cases t <;> first | rfl | exact absurd rfl (h _)) (fun i u h=>by cases u <;> first | rfl | exact absurd rfl (h _)) fun i j ex ey hf=>by
  subst ex ey; cases hf
  exact ⟨_,_,rfl,rfl,q _ H S (Ext.refl sub) (.bl _)⟩
theorem Bs:UnT X (unaryOp .USub) ni:=by
  intro pins s σ H x v Q I rx z8
  obtain ⟨S,as,t,w,sub,ht,hf,q⟩:=z8
  cases ht <;> simp only [ni,reduceCtorEq] at hf
  cases hf
  exact Zk pins s σ H _ v Q I rx ⟨_,rfl,q _ H S (Ext.refl sub) (.int _)⟩
noncomputable def a7o (K:PySem.W.Frag):R2:=fun x y H Q=>∃ l b xs zs,x=.ref l∧y=.ref b∧SqL K H l xs∧SqL K H b zs∧xs.length+zs.length≤sizeLine∧∀ p,H p=none→Q (.ref p) (upd H p (.lst (xs++zs)))
theorem a06:OpR X (binaryOp .Add) (a7o X.K):=by
  intro pins s σ H x y v u Q I rx ry h
  obtain ⟨l,b,xs,zs,rfl,rfl,hH,hB,hz,q⟩:=h
  cases rx
  cases ry
  obtain ⟨its,r,p1,hl⟩:=I.list hH
  obtain ⟨its2,r2,p2,hl2⟩:=I.list hB
  obtain ⟨⟨cls,dd,data,sl⟩,n,ho,hc,hd0,hd⟩:=id p1
  obtain ⟨⟨cls2,dd2,data2,sl2⟩,n2,ho2,hc2,hd02,hd2⟩:=id p2
  simp only at hc hd hc2 hd2
  subst hc hd hc2 hd2
  refine concat_meets ⟨_,ho,rfl⟩ ⟨_,ho2,rfl⟩ noFill_list_add seq_list_add PySem.F.slot_list_add PySem.F.entry_list_add (PySem.F.args_list_add_2 _ _)
      (list_addW l b its.toArray its2.toArray n n2 dd dd2 sl sl2 (by rw [List.size_toArray,List.size_toArray,← r.length,← r2.length]; exact hz)) ⟨ho,ho2,?_⟩
  have ea:its.toArray++its2.toArray=(its++its2).toArray:=by simp
  rw [ea]
  exact ⟨.ref _,_,I.a8a (t':=s.toks) (r.append r2) (by rw [List.length_append]; exact hz),rfl,q _ I.fresh⟩
noncomputable def a4w (K:PySem.W.Frag):R2:=fun x y H Q=>∃ a b ys,x=.ref a∧y=.ref b∧SqT K H a []∧SqT K H b ys∧Q (.ref b) H
theorem Yn:OpR X (binaryOp .Add) (a4w X.K):=by
  intro pins s σ H x y v u Q I rx ry h
  obtain ⟨a,b,ys,rfl,rfl,ha,hb,q⟩:=h
  cases rx
  cases ry
  obtain ⟨its,r1,p1,_⟩:=I.tuple ha
  obtain ⟨its2,r2,p2,_⟩:=I.tuple hb
  cases r1
  obtain ⟨⟨cls,dd,data,sl⟩,ho,hc,n,hd⟩:=id p1
  obtain ⟨⟨cls2,dd2,data2,sl2⟩,ho2,hc2,n2,hd2⟩:=id p2
  simp only at hc hd hc2 hd2
  subst hc hd hc2 hd2
  exact concat_meets ⟨_,ho,rfl⟩ ⟨_,ho2,rfl⟩ noFill_tuple_add seq_tuple_add PySem.F.slot_tuple_add PySem.F.entry_tuple_add (PySem.F.args_tuple_add_2 _ _)
      (tuple_addW0 a b _ its2.toArray n n2 dd dd2 sl sl2 (by rfl)) ⟨ho,ho2,⟨.ref b,H,I,rfl,q⟩⟩
theorem su:OpT X (binaryOp .Add) ju:=by
  intro pins s σ H x y v u Q I rx ry z8
  obtain ⟨S,as,t,t2,w,sub,ht,hu,hf,q⟩:=z8
  cases ht <;> first | exact nomatch (show none=some w from hf) | cases hu <;> first | exact nomatch (show none=some w from hf) | simp only [ju] at hf
  · cases hf
    exact a4s pins s σ H _ _ v u Q I rx ry ⟨_,_,rfl,rfl,q _ H S (Ext.refl sub) (.int _)⟩
  · split at hf
    · rename_i hl; cases hf
      exact Rr pins s σ H _ _ v u Q I rx ry ⟨_,_,rfl,rfl,Nat.le_trans (Nat.le_of_lt hl) vh,q _ H S (Ext.refl sub) (.str _)⟩
    · cases hf
  · rename_i a vs ts hs hr b ws us hs2 hr2
    split at hf
    · rename_i hl; cases hf
      have hz:vs.length+ws.length≤sizeLine:=by rw [hr.length,hr2.length]; exact Nat.le_trans (Nat.le_of_lt hl) vh
      cases hr with
      | nil=>exact Yn pins s σ H _ _ v u Q I rx ry ⟨_,_,_,rfl,rfl,qt sub hs,qt sub hs2,q _ H S (Ext.refl sub) (.tup hs2 hr2)⟩
      | @cons v0 t0 vs0 ts0 h1 h2 =>
        refine a0s pins s σ H _ _ v u Q I rx ry ⟨_,_,_,_,rfl,rfl,qt sub hs,qt sub hs2,by simp,hz,fun z=>?_,fun z p hp=>?_⟩
        · subst z
          cases hr2
          rw [List.append_nil] at q
          exact q _ H S (Ext.refl sub) (.tup hs (.cons h1 h2))
        · have x:=Ext.laid sub hp (.tup ((v0::vs0)++ws))
          exact q _ _ _ x (.tup (SqT.of ji) (((wu.cons h1 h2).append hr2).mono x.s nol))
    · cases hf
  · rename_i a vs ts hs hr b ws us hs2 hr2
    split at hf
    · rename_i hl; cases hf
      have hz:vs.length+ws.length≤sizeLine:=by rw [hr.length,hr2.length]; exact Nat.le_trans (Nat.le_of_lt hl) vh
      refine a06 pins s σ H _ _ v u Q I rx ry ⟨_,_,_,_,rfl,rfl,qp sub hs,qp sub hs2,hz,fun p hp=>?_⟩
      have x:=Ext.laid sub hp (.lst (vs++ws))
      exact q _ _ _ x (.lst (SqL.of ji) ((hr.append hr2).mono x.s nol))
    · cases hf
theorem a2j (x:Str) (n:Int) (h:0≤n):Txt.mul x n=⟨((List.replicate n.toNat x.cps.toList).flatten).toArray⟩:=by
  have key:∀ (k:Nat) (acc:Array Nat),(List.replicate k x.cps).foldl (· ++ ·) acc=acc++((List.replicate k x.cps.toList).flatten).toArray:=by
    intro k
    induction k with
    | zero=>intro acc; simp
    | succ k ih =>
      intro acc
      rw [List.replicate_succ,List.foldl_cons,ih,List.replicate_succ,List.flatten_cons]
      apply Array.ext'
      simp
  unfold Txt.mul
  by_cases h1:n<1
  · have:n=0:=by omega
    subst this
    rw [if_pos h1]; rfl
  · rw [if_neg h1]
    by_cases h2:(n==1||x.length==0)=true
    · rw [if_pos h2]
      rw [Bool.or_eq_true] at h2
      rcases h2 with h2 | h2
      · have:n=1:=by simpa using h2
        subst this
        cases x; simp
      · have h3:x.cps.size=0:=by simpa [Str.length] using h2
        obtain ⟨c⟩:=x
        have h4:c = #[]:=Array.eq_empty_of_size_eq_zero h3
        subst h4
        congr 1
        apply Array.ext'
        simp
    · rw [if_neg h2,key]
      congr 1
      apply Array.ext'
      simp
theorem Gf:OpT X (binaryOp .Mult) Ms:=by
  intro pins s σ H x y v u Q I rx ry z8
  obtain ⟨S,as,t,t2,w,sub,ht,hu,hf,q⟩:=z8
  cases ht <;> first | exact nomatch (show none=some w from hf) | cases hu <;> first | exact nomatch (show none=some w from hf) | simp only [Ms] at hf
  · split at hf
    · rename_i hb; cases hf
      refine a3d pins s σ H _ _ v u Q I rx ry ⟨_,_,rfl,rfl,?_,q _ H S (Ext.refl sub) (.int _)⟩
      rw [Bool.or_eq_true] at hb
      rcases hb with h | h
      · exact .inl (of_decide_eq_true h)
      · exact .inr (of_decide_eq_true h)
    · cases hf
  · rename_i z j
    split at hf
    · rename_i hb; cases hf
      obtain ⟨t',rfl⟩:=rx
      obtain ⟨t2',rfl⟩:=ry
      refine SB.mul ⟨?_,fun _ _=>?_,fun _ _=>?_⟩ fun t3 k=>⟨.str (Txt.mul z j),H,I.tok _,⟨_,rfl⟩,?_⟩
      · have h1:¬ j < -(2 ^ 63:Int):=by omega
        have h2:¬ j ≥ 2 ^ 63:=by omega
        rw [decide_eq_false h1,decide_eq_false h2]; rfl
      · have h1:(z.length:Int)≤100:=by omega
        have h2:(100:Int)≤(2 ^ 63 - 1) / j:=by
          have hj:0<j:=by
            rcases Int.lt_or_le 0 j with h | h
            · exact h
            · exfalso
              have:j=0:=by omega
              subst this
              rename_i a _; exact a (by decide)
          exact (Int.le_ediv_iff_mul_le hj).mpr (by omega)
        omega
      · have h3:z.length * j.toNat≤100 * 1000:=Nat.mul_le_mul hb.2.2 (by omega)
        unfold Builtin.Str.tooLong
        rw [sizeLine_eq]
        exact decide_eq_false (by omega)
      · rw [a2j z j hb.1]; exact q _ H S (Ext.refl sub) (.str _)
    · cases hf
end
end C
end
noncomputable section
set_option linter.all false
set_option maxRecDepth 100000
set_option maxHeartbeats 4000002
set_option autoImplicit false
namespace C
open PySem PySem.Spec PyProof.Rows L2
noncomputable section
variable {X:Cx} {B:Bas} {a b c e o:Expr} {m m1 m2:M T} {pos p:Pos}
theorem Ul (n:Nat) (i:Int):ixI n i=ixN n i:=rfl
theorem a0d {K:PySem.W.Frag} {S:Hp} {as:List Addr} {y:V} {t:T} {q:L2.Key} (r:Rep K S as y t) (h:keyOf t=some q):y=kV q:=by
  cases r <;> simp only [keyOf,reduceCtorEq] at h <;> (cases h; rfl)
noncomputable def a76:R2:=fun x y H Q=>∃ a v,x=.ref a∧Xo H a y (some v)∧Q v H
theorem a1z (hu:X.A.units+1<cLine):IxR X a76:=by
  intro value slice pins s σ H x y v u Q I rx ry z8 hs
  obtain ⟨a,w,ex,g,q⟩:=z8
  subst ex
  cases rx
  refine tail_any (Nv I g) slot_dict_getitem.lookup (Vk hu I g ry fun w' s' I' r'=>⟨w,H,I',r',q⟩) hs
theorem X8 (hu:X.A.units+1<cLine):IxR X (r2 X.K iw):=by
  intro value slice pins s σ H x y v u Q I rx ry z8 hs
  obtain ⟨S,as,t,t2,w,sub,ht,hu2,hf,q⟩:=z8
  cases ht with
  | @tup a vs ts h1 h2 =>
    cases hu2 <;> simp only [iw,reduceCtorEq] at hf
    rename_i i
    obtain ⟨j,e1,e2⟩:=Option.bind_eq_some_iff.mp hf
    obtain ⟨z,hz,rz⟩:=h2.get e2
    refine a5b value slice pins s σ H _ _ v u Q I rx ry ⟨a,vs,i,z,rfl,rfl,qt sub h1,?_,q z H S (Ext.refl sub) rz⟩ hs
    rw [Ul,← h2.length] at e1
    unfold atI; rw [e1]; exact hz
  | @lst a vs ts h1 h2 =>
    cases hu2 <;> simp only [iw,reduceCtorEq] at hf
    rename_i i
    obtain ⟨j,e1,e2⟩:=Option.bind_eq_some_iff.mp hf
    obtain ⟨z,hz,rz⟩:=h2.get e2
    refine a1b value slice pins s σ H _ _ v u Q I rx ry ⟨a,vs,i,z,rfl,rfl,qp sub h1,?_,q z H S (Ext.refl sub) rz⟩ hs
    rw [Ul,← h2.length] at e1
    unfold atI; rw [e1]; exact hz
  | str z =>
    cases hu2 <;> simp only [iw,reduceCtorEq] at hf
    rename_i i
    split at hf
    · rename_i hl
      obtain ⟨j,e1,e2⟩:=Option.bind_eq_some_iff.mp hf
      obtain ⟨cc,e3,e4⟩:=Option.map_eq_some_iff.mp e2
      subst e4
      refine a4r value slice pins s σ H _ _ v u Q I rx ry ⟨z,i,cc,rfl,rfl,Nat.le_trans (Nat.le_of_lt hl) vh,?_,q _ H S (Ext.refl sub) (.str _)⟩ hs
      rw [Ul] at e1
      unfold atI; rw [e1]; exact e3
    · cases hf
  | @dic a kvs ts h1 h2 =>
    simp only [iw] at hf
    obtain ⟨k,e1,e2⟩:=Option.bind_eq_some_iff.mp hf
    have ey:=a0d hu2 e1
    subst ey
    rcases h2.get k with ⟨z,t',a1,a2,a3⟩ | ⟨_,a2⟩
    · rw [e2] at a2; cases a2
      exact a1z hu value slice pins s σ H _ _ v u Q I rx ry ⟨a,z,rfl,.inl ⟨kvs,k,Ay sub h1,rfl,a1.symm⟩,q z H S (Ext.refl sub) a3⟩ hs
    · rw [e2] at a2; cases a2
  | _=>simp only [iw,reduceCtorEq] at hf
theorem jo (hu:X.A.units+1<cLine) (ha:PE X a (tOf X.K B m1)) (hb:PE X b (tOf X.K B m2)) (hs:Vt b):PE X (.Subscript a b pos) (tOf X.K B (mOp iw m1 m2)):=Pk (a73 (X8 hu) ha hb hs)
theorem wz:Om X (.builtin "len") m9:=by
  intro pins s σ H xs us Q I rs z8
  obtain ⟨S,as,ts,w,sub,hr,hf,q⟩:=z8
  cases hr with
  | nil=>simp only [m9,reduceCtorEq] at hf
  | @cons x t xs' ts' h1 h2 =>
    cases h2 with
    | cons h3 h4=>simp only [m9,reduceCtorEq] at hf
    | nil =>
      cases h1 with
      | tup g1 g2=>simp only [m9] at hf; cases hf; exact Ci pins s σ H _ us Q I rs ⟨_,_,rfl,.inr (qt sub g1),by rw [g2.length]; exact q _ H S (Ext.refl sub) (.int _)⟩
      | lst g1 g2=>simp only [m9] at hf; cases hf; exact Ci pins s σ H _ us Q I rs ⟨_,_,rfl,.inl (qp sub g1),by rw [g2.length]; exact q _ H S (Ext.refl sub) (.int _)⟩
      | str z =>
        simp only [m9] at hf
        split at hf
        · rename_i hl; cases hf; exact Kz pins s σ H _ us Q I rs ⟨_,rfl,Nat.le_trans (Nat.le_of_lt hl) vh,q _ H S (Ext.refl sub) (.int _)⟩
        · cases hf
      | @dic a kvs ts g1 g2 =>
        simp only [m9] at hf; cases hf
        obtain ⟨u,rfl,ru⟩:=rs.one
        cases ru
        exact a5t I (Ay sub g1) fun t s' I'=>⟨.int kvs.length,H,I',⟨t,rfl⟩,by rw [g2.length]; exact q _ H S (Ext.refl sub) (.int _)⟩
      | _=>simp only [m9,reduceCtorEq] at hf
theorem Dm:Om X (.type "tuple") Bb:=by
  intro pins s σ H xs us Q I rs z8
  obtain ⟨S,as,ts,w,sub,hr,hf,q⟩:=z8
  cases hr with
  | nil=>simp only [Bb,reduceCtorEq] at hf
  | @cons x t xs' ts' h1 h2 =>
    cases h2 with
    | cons h3 h4=>simp only [Bb,reduceCtorEq] at hf
    | nil =>
      cases h1 with
      | @tup a vs ts g1 g2=>simp only [Bb] at hf; cases hf; exact Ej pins s σ H _ us Q I rs ⟨_,_,rfl,.inr ⟨qt sub g1,q _ H S (Ext.refl sub) (.tup g1 g2)⟩⟩
      | @lst a vs ts g1 g2 =>
        simp only [Bb] at hf; cases hf
        refine Ej pins s σ H _ us Q I rs ⟨_,_,rfl,.inl ⟨qp sub g1,fun p hp=>?_⟩⟩
        have x:=Ext.laid sub hp (.tup vs)
        exact q _ _ _ x (.tup (SqT.of ji) (g2.mono x.s nol))
      | _=>simp only [Bb,reduceCtorEq] at hf
theorem J6:Om X (.type "list") Cr:=by
  intro pins s σ H xs us Q I rs z8
  obtain ⟨S,as,ts,w,sub,hr,hf,q⟩:=z8
  cases hr with
  | nil=>simp only [Cr,reduceCtorEq] at hf
  | @cons x t xs' ts' h1 h2 =>
    cases h2 with
    | cons h3 h4=>simp only [Cr,reduceCtorEq] at hf
    | nil =>
      cases h1 with
      | @tup a vs ts g1 g2 =>
        simp only [Cr] at hf; cases hf
        refine Cu pins s σ H _ us Q I rs ⟨_,_,rfl,.inr (qt sub g1),fun p hp=>?_⟩
        have x:=Ext.laid sub hp (.lst vs)
        exact q _ _ _ x (.lst (SqL.of ji) (g2.mono x.s nol))
      | @lst a vs ts g1 g2 =>
        simp only [Cr] at hf; cases hf
        refine Cu pins s σ H _ us Q I rs ⟨_,_,rfl,.inl (qp sub g1),fun p hp=>?_⟩
        have x:=Ext.laid sub hp (.lst vs)
        exact q _ _ _ x (.lst (SqL.of ji) (g2.mono x.s nol))
      | _=>simp only [Cr,reduceCtorEq] at hf
theorem Dq.put {K:PySem.W.Frag} {S:Hp} {as:List Addr} {k:L2.Key} {v:V} {t:T} (r:Rep K S as v t):∀ {vs:List (L2.Key × V)} {ts:List (L2.Key × T)},Dq K S as vs ts→Dq K S as (putK vs k v) (a0y k t ts):=by
  intro vs ts h
  have any:∀ {vs:List (L2.Key × V)} {ts:List (L2.Key × T)},Dq K S as vs ts→(vs.any fun kv=>decide (kv.1=k))=(ts.any fun p=>decide (p.1=k)):=by
    intro vs ts h
    induction vs generalizing ts with
    | nil=>cases h; rfl
    | cons p r ih=>cases h with | cons h1 h2=>rw [List.any_cons,List.any_cons,ih h2]
  have mp:∀ {vs:List (L2.Key × V)} {ts:List (L2.Key × T)},Dq K S as vs ts→Dq K S as (vs.map fun kv=>if kv.1=k then (kv.1,v) else kv) (ts.map fun p=>if p.1=k then (p.1,t) else p):=by
    intro vs ts h
    induction vs generalizing ts with
    | nil=>cases h; exact .nil
    | cons p rr ih =>
      cases h with
      | @cons q v0 t0 _ _ h1 h2 =>
        rw [List.map_cons,List.map_cons]
        by_cases e:q=k
        · rw [if_pos e,if_pos e]; exact .cons r (ih h2)
        · rw [if_neg e,if_neg e]; exact .cons h1 (ih h2)
  have ap:∀ {vs:List (L2.Key × V)} {ts:List (L2.Key × T)},Dq K S as vs ts→Dq K S as (vs++[(k,v)]) (ts++[(k,t)]):=by
    intro vs ts h
    induction vs generalizing ts with
    | nil=>cases h; exact .cons r .nil
    | cons p rr ih=>cases h with | cons h1 h2=>exact .cons h1 (ih h2)
  unfold putK a0y
  rw [any h]
  split
  · exact mp h
  · exact ap h
end
end C
end
noncomputable section
set_option linter.all false
set_option maxRecDepth 100000
set_option maxHeartbeats 4000002
set_option autoImplicit false
namespace C
open PySem PySem.Spec PyProof.Rows L2
theorem Nz {i:Nat} {k d:M T} {s s':Sta} {t:T} (h:En i k d s=some (t,s')):Ng i s=true∧∃ kt s1 dt kvs f q,k s=some (kt,s1)∧d s1=some (dt,s')∧s'.env[i]? = some (some (.dic kvs,f))∧keyOf kt=some q∧t=(Rj q kvs).getD dt:=by
  unfold En at h
  split at h
  · rename_i hd
    refine ⟨hd,?_⟩
    split at h
    · rename_i kt s1 e1
      split at h
      · rename_i dt s2 e2
        split at h
        · rename_i kvs f e3
          split at h
          · rename_i q e4
            cases h
            exact ⟨kt,s1,dt,kvs,f,q,e1,e2,e3,e4,rfl⟩
          · cases h
        · cases h
      · cases h
    · cases h
  · cases h
theorem Nm {i:Nat} {s s':Sta} {t:T} (h:Aj i s=some (t,s')):s'=s∧((∃ xs f,s.env[i]? = some (some (.lst xs,f))∧t=.int xs.length)∨(∃ xs f,s.env[i]? = some (some (.dic xs,f))∧t=.int xs.length)):=by
  unfold Aj at h
  split at h
  · rename_i xs f e; cases h; exact ⟨rfl,.inl ⟨xs,f,e,rfl⟩⟩
  · rename_i xs f e; cases h; exact ⟨rfl,.inr ⟨xs,f,e,rfl⟩⟩
  · cases h
noncomputable section
variable {K:PySem.W.Frag} {B:Bas} {st:Sta} {σ:L2.St} {H S:Hp} {ps:List (V × T)} {as:List Addr}
theorem Rel.dictAt (r:Rel K B st σ H ps S as) {i:Nat} {kvs:List (L2.Key × T)} {f:Bool} (e:st.env[i]? = some (some (.dic kvs,f))):∃ p vs,σ[i]? = some (some (.ref p))∧Rd H p (.dK vs)∧Dq K S as vs kvs:=by
  obtain ⟨v,h1,h2,h3⟩:=r.slots i _ f e
  cases f with
  | false =>
    have h:=h2 rfl
    cases h with
    | dic a b=>exact ⟨_,_,h1,Ay r.sub a,b⟩
  | true =>
    obtain ⟨p,rfl,o⟩:=h3 rfl
    obtain ⟨vs,h,q⟩:=o.own
    exact ⟨p,vs,h1,.inl h,q⟩
end
noncomputable section
variable {X:Cx} {B:Bas} {a b c e o k d:Expr} {m mo mk md mv:M T} {pos p:Pos}
theorem Ko {i:Nat} {s:Sta} (h:Ng i s=true):∃ kvs f,s.env[i]? = some (some (.dic kvs,f)):=by
  unfold Ng at h
  split at h
  · rename_i kvs f e; exact ⟨kvs,f,e⟩
  · cases h
theorem M4 {i:Nat} {s:Sta} (h:j9 i s=true):∃ kvs f,s.env[i]? = some (some (.lst kvs,f)):=by
  unfold j9 at h
  split at h
  · rename_i kvs f e; exact ⟨kvs,f,e⟩
  · cases h
theorem Vm (i:Nat) {apos:Pos} (hu:X.A.units+1<cLine) (ho:PE X o (Yz i)) (hk:PE X k (tOf X.K B mk)) (hd:PE X d (tOf X.K B md)) (m:M2 X o "get" apos k d pos):PE X (.Call (.Attribute o "get" apos) [k,d] [] pos) (tOf X.K B (En i mk md)) :=
  (Xz hu ho hk hd m).imp fun σ H Q z9=>by
    obtain ⟨st,ps,S,as,R,t,st',e,q⟩:=z9
    obtain ⟨hd,kt,s1,dt,kvs,f,qk,e1,e2,e3,e4,rfl⟩:=Nz e
    obtain ⟨kvs0,f0,e0⟩:=Ko hd
    obtain ⟨p0,vs0,s0,rd0,_⟩:=R.dictAt e0
    refine ⟨_,s0,p0,rfl,.inl ⟨vs0,rd0⟩,st,ps,S,as,R,kt,s1,e1,fun u H1 S1 as1 R1=>⟨s1,_,S1,as1,R1,dt,st',e2,fun w H2 S2 as2 R2=>?_⟩⟩
    obtain ⟨p1,vs1,z1,rd1,h4⟩:=R2.dictAt e3
    rw [s0] at z1; cases z1
    have ey:=a0d R2.top2 e4
    subst ey
    refine ⟨O4 vs1 qk,.inl ⟨vs1,qk,rd1,rfl,rfl⟩,?_⟩
    rcases h4.get qk with ⟨z,t',a1,a2,a3⟩ | ⟨a1,a2⟩
    · rw [a1]; rw [a2] at q; exact q z H2 S2 as2 (R2.drop.drop.push a3)
    · rw [a1]; rw [a2] at q; exact q w H2 S2 as2 (R2.drop.drop.push R2.top)
theorem W0 (i:Nat) {pos':Pos} (hu:X.A.units+1<cLine) (ho:PE X o (Yz i)) (hk:PE X k (tOf X.K B mk)) (hv:PE X e (tOf X.K B mv)) (hs:swapsWith e (some (.Subscript o k pos')) pos.line X.env=pure false) :
    PS X (.Assign [.Subscript o k pos'] e pos) (sOf X.K B (Es i mk mv)):=(a0k hu ho hk hv hs).imp fun D σ H z9=>by
  obtain ⟨st,ps,S,as,R,fl,st',e,q⟩:=z9
  obtain ⟨t,s1,kt,s2,kvs,qk,e1,hd,e3,e4,e5,hl,rfl,rfl⟩:=O7 e
  obtain ⟨kvs0,f0,e0⟩:=Ko hd
  refine ⟨st,ps,S,as,R,t,s1,e1,fun v H1 S1 as1 R1=>?_⟩
  obtain ⟨p0,vs0,s0,rd0,_⟩:=R1.dictAt e0
  refine ⟨_,s0,s1,_,S1,as1,R1,kt,s2,e3,fun y H3 S3 as3 R3=>?_⟩
  obtain ⟨w,h1,_,h3⟩:=R3.slots i _ true e4
  rw [s0] at h1; cases h1
  obtain ⟨p',ep,ow⟩:=h3 rfl
  cases ep
  obtain ⟨vs,hH,h4⟩:=ow.own
  have ey:=a0d R3.top e5
  subst ey
  exact ⟨p0,_,rfl,a2o.k hH (by rw [h4.length]; exact Nat.lt_of_lt_of_le hl vh),q _ _ S3 as3 (R3.drop.drop.turn e4 s0 ⟨_,ji,h4.put R3.top2⟩)⟩
end
end C
end
noncomputable section
set_option linter.all false
set_option maxRecDepth 100000
set_option maxHeartbeats 4000002
set_option autoImplicit false
namespace C
open PySem PySem.Spec PyProof.Rows L2
theorem gb {ms:M (List T)} {n:Nat} (h:∀ st ts st',ms st=some (ts,st')→ts.length≤n) (hn:n≤1000):∀ st ts st',ms st=some (ts,st')→ts.length≤1000:=fun st ts st' e=>Nat.le_trans (h st ts st' e) hn
theorem Ag {m:M T}:∀ st ts st',jw m st=some (ts,st')→ts.length≤sizeLine:=fun st ts st' e=>by
  unfold jw at e
  split at e
  · split at e
    · rename_i h; cases e; exact Nat.le_trans (Nat.le_of_lt h) vh
    · cases e
  · split at e
    · rename_i h; cases e; exact Nat.le_trans (Nat.le_of_lt h) vh
    · cases e
  · cases e
theorem Ji {m:M T}:∀ st ts st',gk m st=some (ts,st')→ts.length≤sizeLine:=fun st ts st' e=>by
  obtain ⟨n,_,h,rfl⟩:=Je e
  unfold rangeT
  rw [List.length_map,List.length_range]
  refine Nat.le_trans ?_ vh
  show n.toNat≤1000000
  omega
noncomputable def je (P:Program) (w:World) (K:PySem.W.Frag) (mg:Str→Option Value) (base:Heap) (x:Str) (k:Nat) (ps:List Str) (F:Fn):Prop :=
  ∃ f fd,Ad P w K mg base CX0 k f fd ps (spF K ps.length F)∧Binds K fd ps []∧PySem.W.keepIn K (.ref f)=true∧mg x=some (.ref f)
theorem je.mono {P:Program} {w:World} {K:PySem.W.Frag} {mg:Str→Option Value} {base:Heap} {x:Str} {j k:Nat} {ps:List Str} {F:Fn} (d:je P w K mg base x j ps F) (h:j≤k):je P w K mg base x k ps F:=by
  obtain ⟨f,fd,h1,h2⟩:=d
  exact ⟨f,fd,h1.mono h,h2⟩
noncomputable section
variable {X:Cx} {B:Bas} {a b c e o k:Expr} {m m1 m2:M T} {pos p:Pos} {es:List Expr} {ms:M (List T)} {F:Fn} {x:Str} {n:Nat} {pn:List Str}
theorem iu (D:je X.prog X.w X.K X.mg X.base x n pn F) (hr:Il n X.A) (hg:Gl X x)
    (ha:PA X (e::es) (aOf X.K B ms)) (hl:∀ st ts st',ms st=some (ts,st')→ts.length=pn.length) (hdb:(x==("__debug__" : Str))=false:=by decide)
    (he:starEach (e::es) X.env=(false,eval e X.env)::starEach es X.env:=by rfl) (hpl:(backTo pos (starEach es X.env)).any (·.1)=false:=by rfl) :
    PE X (.Call (.Name x p) (e::es) [] pos) (tOf X.K B (dz F ms)):=by
  obtain ⟨f,fd,h1,h2,h3,h4⟩:=D
  exact a2n h1 hr hg h4 h3 h2 ha hl hdb he hpl
theorem Qq (h:PA X es (aOf X.K B ms)) (hm:∀ st ts st',ms st=some (ts,st')→ts.length≤1000):PE X (.List es pos) (fOf X.K B (gn (fun l=>some (.lst l)) ms)) :=
  (a01 h).imp fun σ H Q z9=>by
    obtain ⟨st,ps,S,as,R,t,st',e,q⟩:=z9
    obtain ⟨ts,e1,e2⟩:=Bl e
    cases e2
    refine ⟨st,ps,S,as,R,ts,st',e1,fun vs H1 S1 as1 R1 rs=>⟨?_,fun p hp=>?_⟩⟩
    · rw [rs.length]; exact Nat.le_of_lt (Hg (hm _ _ _ e1))
    · obtain ⟨bD,sD,nD,no⟩:=R1.fresh hp
      exact q p _ S1 as1 (R1.Z6 bD sD nD no) ⟨⟨vs,ji,rs⟩,sD,nD,bD⟩ no
theorem a0c:PE X (.Dict [] [] pos) (fOf X.K B (aq (.dic []))):=Xw.imp fun σ H Q z9=>by
  obtain ⟨st,ps,S,as,R,t,st',e,q⟩:=z9
  cases e
  intro p hp
  obtain ⟨bD,sD,nD,no⟩:=R.fresh hp
  exact q p _ S as (R.Z6 bD sD nD no) ⟨⟨[],ji,.nil⟩,sD,nD,bD⟩ no
theorem Rel.listAt {K:PySem.W.Frag} {B:Bas} {st:Sta} {σ:L2.St} {H S:Hp} {ps:List (V × T)} {as:List Addr} (r:Rel K B st σ H ps S as) {i:Nat} {xs:List T} {f:Bool} (e:st.env[i]? = some (some (.lst xs,f))):∃ p vs,σ[i]? = some (some (.ref p))∧SqL K H p vs∧wu K S as vs xs:=by
  obtain ⟨v,h1,h2,h3⟩:=r.slots i _ f e
  cases f with
  | false =>
    have h:=h2 rfl
    cases h with
    | lst a b=>exact ⟨_,_,h1,qp r.sub a,b⟩
  | true =>
    obtain ⟨p,rfl,o⟩:=h3 rfl
    obtain ⟨vs,h,q⟩:=o.own
    exact ⟨p,vs,h1,SqL.of h,q⟩
theorem Cg (i:Nat) {st:Stmt} (h:PS X st (a1p (tBM X.K "list" Vq (Yz i) (Rt (tOf X.K B m) a4e)))):PS X st (sOf X.K B (dg i m)):=h.imp fun D σ H z9=>by
  obtain ⟨st,ps,S,as,R,fl,st',e,q⟩:=z9
  obtain ⟨hd,t,s1,xs,e1,e2,hl,rfl,rfl⟩:=Nu e
  obtain ⟨xs0,f0,e0⟩:=M4 hd
  obtain ⟨p0,vs0,s0,q0,_⟩:=R.listAt e0
  refine ⟨_,s0,.inl ⟨rfl,_,q0⟩,st,ps,S,as,R,t,s1,e1,fun v H1 S1 as1 R1=>?_⟩
  obtain ⟨w,h1,_,h3⟩:=R1.slots i _ true e2
  rw [s0] at h1; cases h1
  obtain ⟨p',ep,ow⟩:=h3 rfl
  cases ep
  obtain ⟨vs,hH,h4⟩:=ow.own
  exact ⟨p0,vs,v,rfl,rfl,hH,by rw [h4.length]; exact Nat.lt_of_lt_of_le hl vh,q _ _ S1 as1 (R1.drop.turn e2 s0 ⟨_,ji,h4.append (.cons R1.top .nil)⟩)⟩
end
end C
end
noncomputable section
set_option linter.all false
set_option maxRecDepth 100000
set_option maxHeartbeats 4000002
set_option autoImplicit false
namespace C
open PySem PySem.Spec PyProof.Rows L2
noncomputable section
variable {X:Cx} {B:Bas} {a b c e o k:Expr} {m m1 m2:M T} {pos p:Pos}
theorem J1 {K:PySem.W.Frag} {S:Hp} {as:List Addr}:∀ {vs:List V} {ts:List T} {l:List Bool},wu K S as vs ts→Fb ts=some l→vs=l.map V.bl
  | _,_,l,.nil,h=>by cases h; rfl
  | _,_,l,.cons (t:=t) h1 h2,h=>by
    cases h1 <;> simp only [Fb,reduceCtorEq] at h
    obtain ⟨l',e1,e2⟩:=Option.map_eq_some_iff.mp h
    subst e2
    rw [J1 h2 e1]; rfl
theorem Lj {K:PySem.W.Frag} {S:Hp} {as:List Addr}:∀ {vs:List V} {ts:List T} {l:List Str},wu K S as vs ts→Fp ts=some l→vs=l.map V.str
  | _,_,l,.nil,h=>by cases h; rfl
  | _,_,l,.cons (t:=t) h1 h2,h=>by
    cases h1 <;> simp only [Fp,reduceCtorEq] at h
    obtain ⟨l',e1,e2⟩:=Option.map_eq_some_iff.mp h
    subst e2
    rw [Lj h2 e1]; rfl
theorem W7 {l:List Bool} {us:List Value} (r:Vals (l.map V.bl) us) {i:Nat} {v:Value} (h:us.toArray[i]? = some v):v=.bool (l.getD i true):=by
  rw [List.getElem?_toArray] at h
  have hi:i<(l.map V.bl).length:=by rw [r.length]; exact (List.getElem?_eq_some_iff.mp h).1
  rw [List.length_map] at hi
  have e:(l.map V.bl)[i]? = some (.bl l[i]):=by rw [List.getElem?_map,List.getElem?_eq_getElem hi]; rfl
  obtain ⟨u,h1,h2⟩:=r.get e
  rw [h] at h1; cases h1
  rw [h2,List.getD_eq_getElem?_getD,List.getElem?_eq_getElem hi]; rfl
theorem Inv.j9 {pins:List (Addr × Obj)} {σ:L2.St} {H:Hp} {s:Shared} {a:Addr} {xs:List V} (I:L2.Inv X pins σ H s) (h:SqL X.K H a xs):a<s.heap.objs.size:=by
  obtain ⟨its,_,⟨o,n,h1,_⟩,_⟩:=I.list h
  exact Heap.lt_size h1
theorem all_range (l:List Bool) (d:Bool):((List.range l.length).all fun i=>l.getD i d)=l.all id:=by
  induction l with
  | nil=>rfl
  | cons x r ih =>
    rw [List.length_cons,List.range_succ_eq_map,List.all_cons,List.all_map,List.all_cons,← ih]
    rfl
theorem Dy (hc:X.calm=true):Om X (.builtin "all") Sg:=by
  intro pins s σ H xs us Q I rs z8
  obtain ⟨S,as,ts,w,sub,hr,hf,q⟩:=z8
  cases hr with
  | nil=>simp only [Sg,reduceCtorEq] at hf
  | @cons x t xs' ts' h1 h2 =>
    cases h2 with
    | cons h3 h4=>simp only [Sg,reduceCtorEq] at hf
    | nil =>
      cases h1 with
      | @lst a vs ts g1 g2 =>
        simp only [Sg] at hf
        obtain ⟨l,e1,e2⟩:=Option.map_eq_some_iff.mp hf
        subst e2
        have ev:=J1 g2 e1
        subst ev
        obtain ⟨u,rfl,ru⟩:=rs.one
        cases ru
        obtain ⟨its,r,p,hz⟩:=I.list (qp sub g1)
        have hlt:=Inv.j9 I (qp sub g1)
        refine call_all_walk (wpAny_pyIter_list p.isList ?_)
        refine ⟨_,_,_,_,_,_,fun i=>l.getD i true,rfl,Walks.list (A:=X.A.in1) (show X.A.in1.handled=none from I.ok.hd hc) s.heap.objs.size a (Nat.ne_of_lt hlt) its.toArray,And.intro ⟨_,Heap.get?_push_size _ rfl,rfl,rfl⟩ (PlainL.keeps p fun b o e=>Heap.get?_push_of_some _ e).isList,fun i v s Q E hv hq=>?_,fun h' tk hk=>?_⟩
        · have e:=W7 r hv
          subst e
          exact wpAny_truthy_bool hq
        · have hl:its.toArray.size=l.length:=by rw [List.size_toArray,← r.length,List.length_map]
          rw [hl,all_range]
          exact ⟨.bl (l.all id),H,I.kept (h':=h') (t':=tk) fun b u e=>hk b u (by simp; exact Nat.ne_of_lt (Heap.lt_size e)) (Heap.get?_push_of_some _ e),rfl,q _ H S (Ext.refl sub) (.bl _)⟩
      | _=>simp only [Sg,reduceCtorEq] at hf
theorem J3:∀ {l:List Str} {us:List Value},Vals (l.map V.str) us→StrsAre us l
  | [],_,r=>by cases r; exact .nil
  | x::l,_,r=>by
    rw [List.map_cons] at r
    cases r with
    | cons r1 r2=>obtain ⟨t,rfl⟩:=r1; exact .cons x t (J3 r2)
theorem G5:∀ {l:List Str} {us:List Value},StrsAre us l→Vals (l.map V.str) us
  | _,_,.nil=>.nil
  | _,_,.cons x t h=>.cons ⟨t,rfl⟩ (G5 h)
noncomputable abbrev Cz (a b:Str):Prop:=¬ b.cps.toList<a.cps.toList
theorem Hv {a b c:Str} (h1:Cz a b) (h2:Cz b c):Cz a c:=fun h=>by
  have h3:a.cps.toList≤b.cps.toList:=List.not_lt.mp h1
  have h4:b.cps.toList≤c.cps.toList:=List.not_lt.mp h2
  exact List.not_lt.mpr (List.le_trans h3 h4) h
theorem Ss {a b:Str} (h1:Cz a b) (h2:Cz b a):a=b:=by
  have h3:a.cps.toList≤b.cps.toList:=List.not_lt.mp h1
  have h4:b.cps.toList≤a.cps.toList:=List.not_lt.mp h2
  have h5:=List.le_antisymm h3 h4
  cases a; cases b
  simp at h5; subst h5; rfl
theorem Ge:∀ (p:Str) (l:List Str),risingS p l=true→(p::l).Pairwise Cz
  | p,[],_=>by simp
  | p,x::r,h=>by
    rw [risingS,Bool.and_eq_true] at h
    have ih:=Ge x r h.2
    have hx:Cz p x:=fun z=>by
      have:=h.1
      rw [ltCps_eq,decide_eq_true z] at this
      cases this
    refine List.pairwise_cons.mpr ⟨fun y hy=>?_,ih⟩
    rcases List.mem_cons.mp hy with rfl | hy -- here
    · exact hx
    · exact Hv hx (List.rel_of_pairwise_cons ih hy)
theorem N5 (l:List Str) (h:sortedS l=true):l.Pairwise Cz:=by
  cases l with
  | nil=>exact .nil
  | cons x r=>exact Ge x r h
theorem Gm (x:Str):∀ l,(Tr x l).Perm (x::l)
  | []=>.refl _
  | y::r=>by
    rw [Tr]
    split
    · exact .refl _
    · exact ((Gm x r).cons y).trans (.swap x y r)
theorem Lq (x:Str):∀ l:List Str,l.Pairwise Cz→(Tr x l).Pairwise Cz
  | [],_=>by simp [Tr]
  | y::r,h=>by
    rw [Tr]
    split
    · rename_i hx
      have hx:=of_decide_eq_true hx
      have hxy:Cz x y:=fun z=>List.lt_irrefl _ (List.lt_trans hx z)
      refine List.pairwise_cons.mpr ⟨fun z hz=>?_,h⟩
      rcases List.mem_cons.mp hz with rfl | hz -- here
      · exact hxy
      · exact Hv hxy (List.rel_of_pairwise_cons h hz)
    · rename_i hx
      have hx:Cz y x:=fun z=>hx (decide_eq_true z)
      refine List.pairwise_cons.mpr ⟨fun z hz=>?_,Lq x r (List.pairwise_cons.mp h).2⟩
      rcases List.mem_cons.mp ((Gm x r).mem_iff.mp hz) with rfl | hz
      · exact hx
      · exact List.rel_of_pairwise_cons h hz
theorem Et:∀ (l acc:List Str),acc.Pairwise Cz→(l.foldl (fun acc x=>Tr x acc) acc).Pairwise Cz∧(l.foldl (fun acc x=>Tr x acc) acc).Perm (l++acc)
  | [],acc,h=>⟨h,.refl _⟩
  | x::l,acc,h=>by
    obtain ⟨h1,h2⟩:=Et l (Tr x acc) (Lq x acc h)
    exact ⟨h1,h2.trans (((Gm x acc).append_left l).trans (List.perm_middle))⟩
theorem T7 (l:List Str):(Bj l).Pairwise Cz:=(Et l [] .nil).1
theorem Em (l:List Str):(Bj l).Perm l:=by
  have:=(Et l [] .nil).2
  rwa [List.append_nil] at this
theorem Pn {l l':List Str} (h1:sortedS l'=true) (h2:l'.Perm l):l'=Bj l :=
  List.Perm.eq_of_pairwise (le:=Cz) (fun _ _ _ _=>Ss) (N5 l' h1) (T7 l) (h2.trans (Em l).symm)
theorem Gh {K:PySem.W.Frag} {S:Hp} {as:List Addr}:∀ l:List Str,wu K S as (l.map V.str) (l.map T.str)
  | []=>.nil
  | x::l=>.cons (.str x) (Gh l)
theorem R8 {pins:List (Addr × Obj)} {σ:L2.St} {H S:Hp} {s:Shared} {as:List Addr} {a:Addr} {l:List Str} {Q:VK} (I:L2.Inv X pins σ H s) (sub:Same S H) (g1:SqL X.K H a (l.map V.str)) (h64:l.length<64)
    (q:∀ v H' S',Ext S H S' H'→Rep X.K S' as v (.lst ((Bj l).map .str))→Q v H'):wpAny (model X.prog X.w) X.A (call (.builtin "sorted") [.ref a]) (EP X pins σ Q) X.xe s:=by
  obtain ⟨its,r,p,hz⟩:=I.list g1
  refine sorted_strs p.isList (J3 r) (by rw [← r.length,List.length_map]; exact h64) fun out ss' a1 a2 a3=>?_
  have es:=Pn a3 a2
  subst es
  obtain ⟨e,he⟩:=sortedAll_at s.heap its out
  have hl:(List.map V.str (Bj l)).length≤sizeLine:=by
    rw [List.length_map,(Em l).length_eq]
    exact Nat.le_trans (Nat.le_of_lt h64) (by rw [sizeLine_eq]; decide)
  have hn:H (s.heap.objs.size+1)=none:=I.hok.fresh (Nat.le_succ _)
  have x:=Ext.laid sub hn (.lst ((Bj l).map V.str))
  refine ⟨.ref (s.heap.objs.size+1),_,I.laid (a:=s.heap.objs.size+1) (o:=.lst ((Bj l).map V.str)) (h':=sortedAll s.heap its out) (t':=s.toks) (fun _ _=>sortedAll_old) (Nat.le_succ _) ⟨hl,out.toList,e,G5 a1,he⟩,rfl,q _ _ _ x (.lst (SqL.of ji) (Gh _))⟩
theorem Jt:Cy X (.builtin "sorted") (fun xs H Q=>∃ S as ts l,Same S H∧wu X.K S as xs [.lst ts]∧ts.length<64∧Fp ts=some l∧∀ v H' S',Ext S H S' H'→Rep X.K S' as v (.lst ((Bj l).map .str))→Q v H'):=by
  intro pins s σ H xs us Q I rs z8
  obtain ⟨S,as,ts,l,sub,hr,h64,e1,q⟩:=z8
  cases hr with
  | cons h1 h2 =>
    cases h2
    cases h1 with
    | @lst a vs _ g1 g2 =>
      have ev:=Lj g2 e1
      subst ev
      obtain ⟨u,rfl,ru⟩:=rs.one
      cases ru
      have hl:=g2.length
      rw [List.length_map] at hl
      exact R8 I sub (qp sub g1) (by omega) q
noncomputable def tyOf:T→Option Value
  | .non=>some (.type "NoneType")
  | .bl _=>some (.type "bool")
  | .int _=>some (.type "int")
  | .str _=>some (.type "str")
  | .tup _=>some (.type "tuple")
  | .lst _=>some (.type "list")
  | .dic _=>some (.type "dict")
  | .obj _=>none
theorem a3y {pins:List (Addr × Obj)} {σ:L2.St} {H S:Hp} {s:Shared} {as:List Addr} {x:V} {u c:Value} {t:T} {ty:Value} {b:Bool} {Q:Value→Shared→Prop} {E:Value→Shared→Prop} (I:L2.Inv X pins σ H s) (sub:Same S H) (rx:RelV x u) (r:Rep X.K S as x t) (hty:tyOf t=some ty)
    (e:PySem.W.kitOne X.K ty c=some b) (h:∀ tk,Q (.bool b) { s with toks:=tk }):wpAny (model X.prog X.w) X.A (call (.builtin "isinstance") [u,c]) Q E s:=by
  cases r with
  | non=>cases hty; exact Ea I rx .non e h
  | bl y=>cases hty; exact Ea I rx (.bl y) e h
  | int y=>cases hty; exact Ea I rx (.int y) e h
  | str y=>cases hty; exact Ea I rx (.str y) e h
  | @tup a vs ts g1 g2 =>
    cases hty
    cases (show u=Value.ref a from rx)
    obtain ⟨its,_,⟨o,h1,h2,_⟩,_⟩:=I.tuple (qt sub g1)
    exact PySem.W.kia_one PySem.W.kitx_tuple I.kIn ⟨o,h1,h2⟩ e (fun z=>nomatch z) h
  | @lst a vs ts g1 g2 =>
    cases hty
    cases (show u=Value.ref a from rx)
    obtain ⟨its,_,⟨o,n,h1,h2,_⟩,_⟩:=I.list (qp sub g1)
    exact PySem.W.kia_one PySem.W.kitx_list I.kIn ⟨o,h1,h2⟩ e (fun z=>nomatch z) h
  | @dic a kvs ts g1 g2 =>
    cases hty
    cases (show u=Value.ref a from rx)
    obtain ⟨_,_,vs,_,o,es,ep,h1,h2,_⟩:=Iu I.hok (Ay sub g1)
    exact PySem.W.kia_one PySem.W.kitx_dict I.kIn ⟨o,h1,h2.1⟩ e (fun z=>nomatch z) h
  | obj h=>cases hty
noncomputable def a2s (f:Value→Bool):List T→Option T
  | [t]=>(tyOf t).map fun ty=>.bl (f ty)
  | _=>none
theorem Pa {cn:String} {f:Value→Bool} {pc:Pos} (hg:Gl X "isinstance") (hm:X.mg "isinstance" = none) (hg2:Gl X (Str.ofString cn)) (hm2:X.mg (Str.ofString cn)=none) (hv:bootBuiltins (Str.ofString cn)=some (.type cn))
    (hf:∀ t ty,tyOf t=some ty→PySem.W.kitOne X.K ty (.type cn)=some (f ty)) (ha:PE X a (tOf X.K B m)) (hd:((Str.ofString cn)==("__debug__" : Str))=false) (hn:(Str.ofString cn) ≠ "__name__")
    (he:starEach [a,.Name (Str.ofString cn) pc] X.env=(false,eval a X.env)::starEach [.Name (Str.ofString cn) pc] X.env:=by rfl) (he2:starEach [.Name (Str.ofString cn) pc] X.env=(false,eval (.Name (Str.ofString cn) pc) X.env)::starEach [] X.env:=by rfl)
    (hpl:(backTo pos (starEach [.Name (Str.ofString cn) pc] X.env)).any (·.1)=false:=by rfl) :
    PE X (.Call (.Name "isinstance" p) [a,.Name (Str.ofString cn) pc] [] pos) (tOf X.K B (gn (a2s f) (ak m dw))):=by
  have hc:Cy X (.builtin "isinstance") (fun xs H Q=>∃ S as x t ty,xs=[x,.ty cn]∧Same S H∧Rep X.K S as x t∧tyOf t=some ty∧Q (.bl (f ty)) H):=by
    intro pins s σ H xs us Q I rs z8
    obtain ⟨S,as,x,t,ty,ex,sub,r,hty,q⟩:=z8
    subst ex
    obtain ⟨u,w,rfl,r1,r2⟩:=rs.two
    cases r2
    exact a3y I sub r1 r hty (hf t ty hty) fun tk=>⟨.bl (f ty),H,I.tok _,rfl,q⟩
  have hnm:PE X (.Name (Str.ofString cn) pc) (tC (.ty cn)):=a1e hg2 hm2 hv rfl hn hd
  refine (qy hc hg hm PyProof.Rows.boot_isinstance (wj ha (wj hnm Aw he2) he) (by decide) (by decide) he hpl).imp fun σ H Q z0=>?_
  obtain ⟨st,ps,S,as,R,t,st',e,q⟩:=z0
  obtain ⟨ts,e1,e2⟩:=Bl e
  obtain ⟨t1,s1,us,ea,en,rfl⟩:=Bg e1
  cases en
  simp only [a2s] at e2
  obtain ⟨ty,e3,e4⟩:=Option.map_eq_some_iff.mp e2
  subst e4
  exact ⟨st,ps,S,as,R,t1,_,ea,fun v H1 S1 as1 R1=>⟨S1,as1,v,t1,ty,rfl,R1.sub,R1.top,e3,q _ H1 S1 as1 (R1.drop.push (.bl _))⟩⟩
example (K:PySem.W.Frag):PySem.W.kitOne K (.type "bool") (.type "int")=some true:=by rfl
example (K:PySem.W.Frag):PySem.W.kitOne K (.type "str") (.type "int")=some false:=by rfl
end
end C
end
noncomputable section
set_option linter.all false
set_option maxRecDepth 100000
set_option maxHeartbeats 4000002
set_option autoImplicit false
namespace C
open PySem PySem.Spec PyProof.Rows L2
theorem Ma (l b:Addr) (xs0 ys0:Array Value) (n n2:Nat) (dd2:Option Addr) (sl2:Array (Option Value)) (hs0:¬(!xs0.isEmpty&&Builtin.List.listTooLong (xs0.size+ys0.size))=true) (hs1:xs0.size≤sizeLine) (hs2:xs0.size+ys0.size≤sizeLine+1) :
    Meets (Builtin.«list.extend» ⟨[.ref l,.ref b],[]⟩) (fun _ R s=>s.heap.get? l=some { cls:=.type "list",dict:=none,data:=.seq xs0 n,slots:=#[] }∧s.heap.get? b=some { cls:=.type "list",dict:=dd2,data:=.seq ys0 n2,slots:=sl2 }∧R (.ok (.ret Value.none)) { s with heap:=s.heap.update l (Obj.mapSeq fun x=>x++ys0),toks:=s.toks }) :=
  .of_wp fun pr wd Ar R z h=>by
    obtain ⟨hp,gs,dr,tk,os⟩:=z; obtain ⟨hl,hb,h⟩:=h; have f1:=AutoSeq1.idx_int; have f2:=AutoSeq1.sub_tuple_tuple; have f3:=AutoSeq1.sub_list_list; have f4:=AutoSeq1.sub_tuple_list; have f5:=AutoSeq1.sub_list_tuple
    have hz':(xs0++ys0).size≤sizeLine+1:=by rw [Array.size_append]; exact hs2
    wp_walk using (wpAny_updateSeq hl rfl (hz:=hs1) (_hz':=hz')),AutoSeq1.wpAny_loadPart' hl,AutoSeq1.wpAny_loadPart' hb; exact ⟨_,rfl,h⟩
theorem K8 (l b:Addr) (xs0 ys0:Array Value) (n n2:Nat) (dd2:Option Addr) (sl2:Array (Option Value)) (hs0:¬(!xs0.isEmpty&&Builtin.List.listTooLong (xs0.size+ys0.size))=true) (hs1:xs0.size≤sizeLine) (hs2:xs0.size+ys0.size≤sizeLine+1) :
    Meets (Builtin.«list.extend» ⟨[.ref l,.ref b],[]⟩) (fun _ R s=>s.heap.get? l=some { cls:=.type "list",dict:=none,data:=.seq xs0 n,slots:=#[] }∧s.heap.get? b=some { cls:=.type "tuple",dict:=dd2,data:=.seq ys0 n2,slots:=sl2 }∧R (.ok (.ret Value.none)) { s with heap:=s.heap.update l (Obj.mapSeq fun x=>x++ys0),toks:=s.toks }) :=
  .of_wp fun pr wd Ar R z h=>by
    obtain ⟨hp,gs,dr,tk,os⟩:=z; obtain ⟨hl,hb,h⟩:=h; have f1:=AutoSeq1.idx_int; have f2:=AutoSeq1.sub_tuple_tuple; have f3:=AutoSeq1.sub_list_list; have f4:=AutoSeq1.sub_tuple_list; have f5:=AutoSeq1.sub_list_tuple
    have hz':(xs0++ys0).size≤sizeLine+1:=by rw [Array.size_append]; exact hs2
    wp_walk using (wpAny_updateSeq hl rfl (hz:=hs1) (_hz':=hz')),AutoSeq1.wpAny_loadPart' hl,AutoSeq1.wpAny_loadPart' hb; exact ⟨_,rfl,h⟩
noncomputable section
variable {X:Cx} {B:Bas} {m:M T}
noncomputable def P0 (K:PySem.W.Frag):V→List V→Hp→VK→Prop:=fun x vs H Q=>∃ l b xs zs,x=.ref l∧vs=[.ref b]∧H l=some (.lst xs)∧(SqL K H b zs∨SqT K H b zs)∧xs.length+zs.length≤sizeLine∧Q .non (upd H l (.lst (xs++zs)))
theorem Er:MtM X "list.extend" (P0 X.K):=by
  intro pins s σ H x vs v us Q I rx rv h
  obtain ⟨l,b,xs,zs,rfl,rfl,hH,hB,hz,q⟩:=h
  cases rx
  obtain ⟨u,rfl,ru⟩:=rv.one
  cases ru
  obtain ⟨z,its,n,r,hl,e⟩:=I.a6n hH
  have fin:∀ its2:List Value,Vals zs its2→L2.Inv X pins σ (upd H l (.lst (xs++zs))) { s with heap:=s.heap.update l (Obj.mapSeq fun x=>x++its2.toArray),toks:=s.toks }:=fun its2 r2 =>
    I.a74 (its':=its++its2) hH e (by simp) (r.append r2) (by rw [List.length_append]; exact hz)
  have hlong:∀ its2:List Value,Vals zs its2→¬ (!its.toArray.isEmpty&&Builtin.List.listTooLong (its.toArray.size+its2.toArray.size))=true:=fun its2 r2=>by
    have hsz:its.toArray.size+its2.toArray.size≤sizeLine:=by rw [List.size_toArray,List.size_toArray,← hl,← r2.length]; exact hz
    rw [Yu hsz,Bool.and_false]
    exact Bool.false_ne_true
  rcases hB with hB | hB
  · obtain ⟨its2,r2,⟨⟨cls2,dd2,data2,sl2⟩,n2,ho2,hc2,hd02,hd2⟩,_⟩:=I.list hB
    simp only at hc2 hd2
    subst hc2 hd2
    refine call_meets F.slot_list_extend ⟨_,e,rfl⟩ F.entry_list_extend (F.args_list_extend_2 _ _)
      (Ma l b its.toArray its2.toArray n n2 dd2 sl2 (hlong its2 r2) (by rw [List.size_toArray,← hl]; omega) (by rw [List.size_toArray,List.size_toArray,← hl,← r2.length]; omega)) ⟨e,ho2,?_⟩
    exact ⟨.non,_,fin its2 r2,rfl,q⟩
  · obtain ⟨its2,r2,⟨⟨cls2,dd2,data2,sl2⟩,ho2,hc2,n2,hd2⟩,_⟩:=I.tuple hB
    simp only at hc2 hd2
    subst hc2 hd2
    refine call_meets F.slot_list_extend ⟨_,e,rfl⟩ F.entry_list_extend (F.args_list_extend_2 _ _)
      (K8 l b its.toArray its2.toArray n n2 dd2 sl2 (hlong its2 r2) (by rw [List.size_toArray,← hl]; omega) (by rw [List.size_toArray,List.size_toArray,← hl,← r2.length]; omega)) ⟨e,ho2,?_⟩
    exact ⟨.non,_,fin its2 r2,rfl,q⟩
theorem Gx (i:Nat) {st:Stmt} (h:PS X st (a1p (tBM X.K "list" (P0 X.K) (Yz i) (Rt (tOf X.K B m) a4e)))):PS X st (sOf X.K B (dj i m)):=h.imp fun D σ H z9=>by
  obtain ⟨st,ps,S,as,R,fl,st',e,q⟩:=z9
  obtain ⟨hd,t,s1,xs,ys,e1,ey,e2,hl,rfl,rfl⟩:=O6 e
  obtain ⟨xs0,f0,e0⟩:=M4 hd
  obtain ⟨p0,vs0,s0,q0,_⟩:=R.listAt e0
  refine ⟨_,s0,.inl ⟨rfl,_,q0⟩,st,ps,S,as,R,t,s1,e1,fun v H1 S1 as1 R1=>?_⟩
  obtain ⟨w,h1,_,h3⟩:=R1.slots i _ true e2
  rw [s0] at h1; cases h1
  obtain ⟨p',ep,ow⟩:=h3 rfl
  cases ep
  obtain ⟨vs,hH,h4⟩:=ow.own
  have top:=R1.top
  cases top with
  | @tup b zs _ g1 g2 =>
    simp only [j6] at ey; cases ey
    exact ⟨p0,b,vs,zs,rfl,rfl,hH,.inr (qt R1.sub g1),by rw [h4.length,g2.length]; exact Nat.le_trans (Nat.le_of_lt hl) vh,q _ _ S1 as1 (R1.drop.turn e2 s0 ⟨_,ji,h4.append g2⟩)⟩
  | @lst b zs _ g1 g2 =>
    simp only [j6] at ey; cases ey
    exact ⟨p0,b,vs,zs,rfl,rfl,hH,.inl (qp R1.sub g1),by rw [h4.length,g2.length]; exact Nat.le_trans (Nat.le_of_lt hl) vh,q _ _ S1 as1 (R1.drop.turn e2 s0 ⟨_,ji,h4.append g2⟩)⟩
  | _=>simp only [j6,reduceCtorEq] at ey
end
end C
end
noncomputable section
set_option linter.all false
set_option maxRecDepth 100000
set_option maxHeartbeats 4000002
set_option autoImplicit false
namespace C
open PySem PySem.Spec PyProof.Rows L2
noncomputable def PN (X:Cx) (e:Expr) (N:L2.St→V→Prop):Prop:=PE X e (fun σ H Q=>∃ v,N σ v∧Q v H)
noncomputable def MN (K:PySem.W.Frag) (m:M T) (N:L2.St→V→Prop):Prop:=∀ (B:Bas) (st:Sta) (σ:L2.St) (H:Hp) (ps:List (V × T)) (S:Hp) (as:List Addr) (t:T) (st':Sta),Rel K B st σ H ps S as→m st=some (t,st')→st'=st∧∃ v,N σ v∧Rep K S as v t
structure PM (X:Cx) (e:Expr) (m:M T) (N:L2.St→V→Prop):Prop where
  p:PN X e N
  m:MN X.K m N
noncomputable section
variable {X:Cx} {B:Bas} {a b e e1 e2:Expr} {m m1 m2:M T} {N N1 N2:L2.St→V→Prop} {pos p:Pos}
end
end C
end
noncomputable section
set_option linter.all false
set_option autoImplicit false
namespace C
open PySem PySem.Spec PyProof.Rows L2
inductive a0r:List Expr→List Str→Prop where
  | nil:a0r [] []
  | cons {x:Str} {k:Nat} {q:Pos} {es:List Expr} {xs:List Str}:a0r es xs→a0r (.Constant (.str x) k q::es) (x::xs)
noncomputable section
variable {X:Cx} {B:Bas} {a b c e o k:Expr} {m m1 m2:M T} {pos p p2:Pos}
theorem Z7 (l:List T):isTup l=a2s (fun ty=>ty == .type "tuple") l:=by
  match l with
  | []=>rfl
  | [t]=>cases t <;> rfl
  | x::y::r=>cases x <;> rfl
theorem Z0 (l:List T):isInt l=a2s (fun ty=>ty == .type "int" || ty == .type "bool") l:=by
  match l with
  | []=>rfl
  | [t]=>cases t <;> rfl
  | x::y::r=>cases x <;> rfl
theorem a07 (l:List T):a5u l=a2s (fun ty=>ty == .type "bool") l:=by
  match l with
  | []=>rfl
  | [t]=>cases t <;> rfl
  | x::y::r=>cases x <;> rfl
theorem Xj (l:List T):isStr l=a2s (fun ty=>ty == .type "str") l:=by
  match l with
  | []=>rfl
  | [t]=>cases t <;> rfl
  | x::y::r=>cases x <;> rfl
theorem W2:bootBuiltins "int" = some (.type "int"):=by decide +kernel
theorem T8:bootBuiltins "bool" = some (.type "bool"):=by decide +kernel
theorem Wd:bootBuiltins "str" = some (.type "str"):=by decide +kernel
theorem Ey {pc:Pos} (hg:Gl X "isinstance") (hm:X.mg "isinstance" = none) (hg2:Gl X "tuple") (hm2:X.mg "tuple" = none) (ha:PE X a (tOf X.K B m)) (he:starEach [a,.Name "tuple" pc] X.env=(false,eval a X.env)::starEach [.Name "tuple" pc] X.env:=by rfl) :
    PE X (.Call (.Name "isinstance" p) [a,.Name "tuple" pc] [] pos) (tOf X.K B (gn isTup (ak m dw))):=by
  rw [show isTup=_ from funext Z7]
  exact Pa (cn := "tuple") hg hm hg2 hm2 boot_tuple (fun t ty h=>by cases t <;> cases h <;> rfl) ha (by decide) (by decide) he
theorem Rb {pc:Pos} (hg:Gl X "isinstance") (hm:X.mg "isinstance" = none) (hg2:Gl X "int") (hm2:X.mg "int" = none) (ha:PE X a (tOf X.K B m)) (he:starEach [a,.Name "int" pc] X.env=(false,eval a X.env)::starEach [.Name "int" pc] X.env:=by rfl) :
    PE X (.Call (.Name "isinstance" p) [a,.Name "int" pc] [] pos) (tOf X.K B (gn isInt (ak m dw))):=by
  rw [show isInt=_ from funext Z0]
  exact Pa (cn := "int") hg hm hg2 hm2 W2 (fun t ty h=>by cases t <;> cases h <;> rfl) ha (by decide) (by decide) he
theorem O8 {pc:Pos} (hg:Gl X "isinstance") (hm:X.mg "isinstance" = none) (hg2:Gl X "bool") (hm2:X.mg "bool" = none) (ha:PE X a (tOf X.K B m)) (he:starEach [a,.Name "bool" pc] X.env=(false,eval a X.env)::starEach [.Name "bool" pc] X.env:=by rfl) :
    PE X (.Call (.Name "isinstance" p) [a,.Name "bool" pc] [] pos) (tOf X.K B (gn a5u (ak m dw))):=by
  rw [show a5u=_ from funext a07]
  exact Pa (cn := "bool") hg hm hg2 hm2 T8 (fun t ty h=>by cases t <;> cases h <;> rfl) ha (by decide) (by decide) he
theorem Lf (i:Nat) (hm:X.mg "len" = none) {es:Expr} (hg:Gl X "len") (h:PE X es (Yz i)) (he:starEach [es] X.env=(false,eval es X.env)::starEach [] X.env:=by rfl) (hpl:(backTo pos (starEach [] X.env)).any (·.1)=false:=by rfl) :
    PE X (.Call (.Name "len" p) [es] [] pos) (tOf X.K B (Aj i)):=by
  have hc:Cy X (.builtin "len") (fun xs H Q=>∃ q,xs=[.ref q]∧((∃ ys,SqL X.K H q ys∧Q (.int ys.length) H)∨(∃ kvs,Rd H q (.dK kvs)∧Q (.int kvs.length) H))):=by
    intro pins s σ H xs us Q I rs z8
    obtain ⟨q,ex,h⟩:=z8
    rcases h with ⟨ys,h1,h2⟩ | ⟨kvs,h1,h2⟩
    · exact Ci pins s σ H xs us Q I rs ⟨q,ys,ex,.inl h1,h2⟩
    · subst ex
      obtain ⟨u,rfl,ru⟩:=rs.one
      cases ru
      exact a5t I h1 fun t s' I'=>⟨.int kvs.length,H,I',⟨t,rfl⟩,h2⟩
  refine (qy hc hg hm PySem.boot_len (wj h Aw he) (by decide) (by decide) he hpl).imp fun σ H Q z0=>?_
  obtain ⟨st,ps,S,as,R,t,st',e,q⟩:=z0
  obtain ⟨rfl,h⟩:=Nm e
  rcases h with ⟨xs,f,e1,rfl⟩ | ⟨xs,f,e1,rfl⟩
  · obtain ⟨p0,vs,s0,h1,h2⟩:=R.listAt e1
    exact ⟨_,s0,p0,rfl,.inl ⟨vs,h1,by rw [h2.length]; exact q _ H S as (R.push (.int _))⟩⟩
  · obtain ⟨p0,vs,s0,h1,h2⟩:=R.dictAt e1
    exact ⟨_,s0,p0,rfl,.inr ⟨vs,h1,by rw [h2.length]; exact q _ H S as (R.push (.int _))⟩⟩
end
end C
end
noncomputable section
set_option linter.all false
set_option autoImplicit false
namespace C
open PySem
mutual
theorem Dn:∀ (t:T) {d:PyData},dat t=some d→d.canLay0=true
  | .non,_,h=>by simp only [dat] at h; cases h; simp only [PyData.canLay0]
  | .bl b,_,h=>by simp only [dat] at h; cases h; simp only [PyData.canLay0]
  | .int i,_,h=>by simp only [dat] at h; cases h; simp only [PyData.canLay0]
  | .str x,_,h=>by
    simp only [dat] at h
    split at h
    · rename_i hx; cases h; exact hx
    · cases h
  | .tup xs,_,h=>by
    simp only [dat] at h
    obtain ⟨l,e1,e2⟩:=Option.map_eq_some_iff.mp h
    subst e2
    simp only [PyData.canLay0]
    exact Jl xs e1
  | .lst xs,_,h=>by
    simp only [dat] at h
    obtain ⟨l,e1,e2⟩:=Option.map_eq_some_iff.mp h
    subst e2
    simp only [PyData.canLay0]
    exact Jl xs e1
  | .dic _,_,h=>by simp only [dat] at h; cases h
  | .obj _,_,h=>by simp only [dat] at h; cases h
theorem Jl:∀ (ts:List T) {l:List PyData},Mh ts=some l→PyData.canLayAll0 l=true
  | [],_,h=>by simp only [Mh] at h; cases h; simp only [PyData.canLayAll0]
  | x::r,_,h=>by
    simp only [Mh] at h
    split at h
    · rename_i a ea
      obtain ⟨l,e1,e2⟩:=Option.map_eq_some_iff.mp h
      subst e2
      simp only [PyData.canLayAll0]
      rw [Dn x ea,Jl r e1]; rfl
    · cases h
end
theorem X4 {x:T} {r:List T} {l:List PyData} (h:Mh (x::r)=some l):∃ a l',dat x=some a∧Mh r=some l'∧l=a::l':=by
  simp only [Mh] at h
  split at h
  · rename_i a ea
    obtain ⟨l,e1,e2⟩:=Option.map_eq_some_iff.mp h
    exact ⟨a,l,ea,e1,e2.symm⟩
  · cases h
theorem Ug {t u:T} {b:Bool} (h:eqD t u=some b):∃ x y,dat t=some x∧dat u=some y∧x.depth≤40∧b=PyData.eqv x y:=by
  unfold eqD at h
  split at h
  · rename_i x ex
    split at h
    · rename_i y ey
      split at h
      · rename_i hd; cases h; exact ⟨x,y,ex,ey,hd,rfl⟩
      · cases h
    · cases h
  · cases h
theorem a1v {t u:T} {b:Bool} (h:eqT t u=some b):(∃ x y,t=.dic x∧u=.dic y∧((x.length=y.length∧a2v x y=some b)∨(x.length≠y.length∧b=false)))∨eqD t u=some b:=by
  unfold eqT at h
  split at h
  · split at h
    · rename_i hl; exact .inl ⟨_,_,rfl,rfl,.inl ⟨hl,h⟩⟩
    · rename_i hl; cases h; exact .inl ⟨_,_,rfl,rfl,.inr ⟨hl,rfl⟩⟩
  · exact .inr h
end C
end
noncomputable section
set_option linter.all false
set_option maxRecDepth 100000
set_option maxHeartbeats 4000002
set_option autoImplicit false
namespace C
open PySem PySem.Spec PyProof.Rows L2
noncomputable section
variable {X:Cx} {pins:List (Addr × Obj)} {σ:L2.St} {H S:Hp} {s:Shared} {as:List Addr}
mutual
theorem Rep.reads (I:L2.Inv X pins σ H s) (sub:Same S H):∀ {v:V} {t:T},Rep X.K S as v t→∀ {d:PyData} {u:Value},dat t=some d→RelV v u→∃ bs,Reads s.heap u d bs
  | _,_,.non,_,_,e,r=>by simp only [dat] at e; cases e; cases r; exact ⟨_,.none⟩
  | _,_,.bl b,_,_,e,r=>by simp only [dat] at e; cases e; cases r; exact ⟨_,.bool b⟩
  | _,_,.int i,_,_,e,r=>by simp only [dat] at e; cases e; obtain ⟨t,rfl⟩:=r; exact ⟨_,.int i t⟩
  | _,_,.str x,_,_,e,r=>by
    simp only [dat] at e
    split at e
    · cases e; obtain ⟨t,rfl⟩:=r; exact ⟨_,.str x t⟩
    · cases e
  | _,_,.tup h q,_,_,e,r=>by
    simp only [dat] at e
    obtain ⟨l,e1,e2⟩:=Option.map_eq_some_iff.mp e
    subst e2
    cases r
    obtain ⟨its,rv,⟨o,h1,h2,n,h3⟩,_⟩:=I.tuple (qt sub h)
    obtain ⟨bs,rb⟩:=wu.reads I sub q e1 rv
    exact ⟨_,.tuple h1 h2 h3 rb⟩
  | _,_,.lst h q,_,_,e,r=>by
    simp only [dat] at e
    obtain ⟨l,e1,e2⟩:=Option.map_eq_some_iff.mp e
    subst e2
    cases r
    obtain ⟨its,rv,⟨o,n,h1,h2,_,h3⟩,_⟩:=I.list (qp sub h)
    obtain ⟨bs,rb⟩:=wu.reads I sub q e1 rv
    exact ⟨_,.list h1 h2 h3 rb⟩
  | _,_,.dic _ _,_,_,e,_=>by simp only [dat] at e; cases e
  | _,_,.obj _,_,_,e,_=>by simp only [dat] at e; cases e
theorem wu.reads (I:L2.Inv X pins σ H s) (sub:Same S H):∀ {vs:List V} {ts:List T},wu X.K S as vs ts→∀ {ds:List PyData} {us:List Value},Mh ts=some ds→Vals vs us→∃ bs,ReadsAll s.heap us ds bs
  | _,_,.nil,_,_,e,r=>by simp only [Mh] at e; cases e; cases r; exact ⟨_,.nil⟩
  | _,_,.cons h q,_,_,e,r=>by
    obtain ⟨a,l,e1,e2,e3⟩:=X4 e
    subst e3
    cases r with
    | cons r1 r2 =>
      obtain ⟨b1,x1⟩:=Rep.reads I sub h e1 r1
      obtain ⟨b2,x2⟩:=wu.reads I sub q e2 r2
      exact ⟨_,.cons x1 x2⟩
end
theorem a4x (I:L2.Inv X pins σ H s) (sub:Same S H) {x y:V} {t u:T} {v w:Value} {b:Bool} {A:Around} (hx:Rep X.K S as x t) (hy:Rep X.K S as y u) (rx:RelV x v) (ry:RelV y w) (e:eqD t u=some b) (hu:A.units+40<cLine):SeqAt.EqAt A s v w b:=by
  obtain ⟨dx,dy,e1,e2,hd,rfl⟩:=Ug e
  obtain ⟨b1,x1⟩:=hx.reads I sub e1 rx
  obtain ⟨b2,x2⟩:=hy.reads I sub e2 ry
  exact SeqAt.eqAt_reads dx dy A s v w b1 b2 x1 x2 (Dn _ e1) (Dn _ e2) (by have:=Nat.min_le_left dx.depth dy.depth; omega)
theorem W9 (I:L2.Inv X pins σ H s) (sub:Same S H) {A:Around} (hu:A.units+40<cLine) {kb:List (L2.Key × V)} {ub:List (L2.Key × T)} {wb:List (L2.Key × Value)} (rb:Dq X.K S as kb ub) (vb:KV kb wb) :
    ∀ {ka:List (L2.Key × V)} {ua:List (L2.Key × T)} {wa:List (L2.Key × Value)} {r:Bool},Dq X.K S as ka ua→KV ka wa→a2v ua ub=some r→PySem.W.KeqHits A s wb wa r
  | _,_,_,_,.nil,va,e=>by
    simp only [a2v] at e; cases e
    cases va
    exact .nil
  | _,_,_,_,.cons (k:=k) h q,va,e=>by
    simp only [a2v] at e
    cases va with
    | @cons _ p2 _ _ hp hr =>
      obtain ⟨pk,pv⟩:=p2
      obtain ⟨ek,rv⟩:=hp
      dsimp only at ek rv
      subst ek
      rcases rb.get k with ⟨z,t',a1,a2,a3⟩ | ⟨a1,a2⟩
      · rw [a2] at e
        dsimp only at e
        have rel:=KV.val vb k
        rw [a1] at rel
        obtain ⟨w',hw,rw'⟩:=Mf.some_of rel
        split at e
        · rename_i eb he
          obtain ⟨b',e1,e2⟩:=Option.map_eq_some_iff.mp e
          subst e2
          exact .hit hw (a4x I sub h a3 rv rw' he hu) (W9 I sub hu rb vb q hr e1)
        · cases e
      · rw [a2] at e
        cases e
        have rel:=KV.val vb k
        rw [a1] at rel
        exact .miss (Mf.none_of rel)
end
noncomputable section
variable {X:Cx}
theorem Kr {op:CmpOp} {neg:Bool} (hop:(op=.Eq∧neg=false)∨(op=.NotEq∧neg=true)) {g:T→T→Option T} (hg:∀ t u w,g t u=some w→∃ b,eqT t u=some b∧w=.bl (xor neg b)) (hu:X.A.units+64<cLine):OpT X (compareOp op) g:=by
  intro pins s σ H x y v u Q I rx ry z8
  obtain ⟨S,as,t,t2,w,sub,ht,hu2,hf,q⟩:=z8
  obtain ⟨b,e,rfl⟩:=hg _ _ _ hf
  have fin:EP X pins σ Q (.bool (xor neg b)) s:=⟨.bl (xor neg b),H,I,rfl,q _ H S (Ext.refl sub) (.bl _)⟩
  rcases a1v e with ⟨xs,ys,rfl,rfl,hd⟩ | he
  · cases ht with
    | @dic a kvs _ g1 g2 =>
      cases hu2 with
      | @dic a' kvs' _ k1 k2 =>
        cases rx
        cases ry
        obtain ⟨z,hs,vs,rel,dd⟩:=Iu I.hok (Ay sub g1)
        obtain ⟨z',hs',vs',rel',dd'⟩:=Iu I.hok (Ay sub k1)
        have l1:vs.length=xs.length:=by rw [← rel.length]; exact g2.length
        have l2:vs'.length=ys.length:=by rw [← rel'.length]; exact k2.length
        have hu1:X.A.in1.units+40<cLine:=by show X.A.units+1+40<cLine; omega
        rcases hd with ⟨hl,eb⟩ | ⟨hl,rfl⟩
        · have hits:vs.length=vs'.length→PySem.W.KeqHits X.A.in1 s vs' vs b:=fun _=>W9 I sub hu1 k2 rel' g2 rel eb
          have el:(vs.length==vs'.length)=true:=by rw [l1,l2,hl]; exact beq_self_eq_true _
          rcases hop with ⟨rfl,rfl⟩ | ⟨rfl,rfl⟩
          · refine PySem.W.keq_eq hs hs' dd dd' (by omega) hits ?_
            rw [el]; simpa using fin
          · refine PySem.W.keq_ne hs hs' dd dd' (by omega) hits ?_
            rw [el]; simpa using fin
        · have hits:vs.length=vs'.length→PySem.W.KeqHits X.A.in1 s vs' vs true:=fun h=>absurd (by rw [← l1,← l2]; exact h) hl
          have el:(vs.length==vs'.length)=false:=by rw [l1,l2]; exact beq_eq_false_iff_ne.mpr hl
          rcases hop with ⟨rfl,rfl⟩ | ⟨rfl,rfl⟩
          · refine PySem.W.keq_eq hs hs' dd dd' (by omega) hits ?_
            rw [el]; simpa using fin
          · refine PySem.W.keq_ne hs hs' dd dd' (by omega) hits ?_
            rw [el]; simpa using fin
  · obtain ⟨dx,dy,e1,e2,hd,rfl⟩:=Ug he
    obtain ⟨b1,x1⟩:=ht.reads I sub e1 rx
    obtain ⟨b2,x2⟩:=hu2.reads I sub e2 ry
    have hm:X.A.units+min dx.depth dy.depth<cLine:=by have:=Nat.min_le_left dx.depth dy.depth; omega
    rcases hop with ⟨rfl,rfl⟩ | ⟨rfl,rfl⟩
    · exact SeqAt.compareEq_reads x1 x2 (Dn _ e1) (Dn _ e2) hm (by simpa using fin)
    · exact SeqAt.compareNe_reads x1 x2 (Dn _ e1) (Dn _ e2) hm (by simpa using fin)
theorem yr (hu:X.A.units+64<cLine):OpT X (compareOp .Eq) eqO:=Kr (.inl ⟨rfl,rfl⟩) (fun t u w h=>by
  unfold eqO at h
  split at h
  · rename_i b e; cases h; exact ⟨b,e,by simp⟩
  · cases h) hu
theorem Iv (hu:X.A.units+64<cLine):OpT X (compareOp .NotEq) neO:=Kr (.inr ⟨rfl,rfl⟩) (fun t u w h=>by
  unfold neO at h
  split at h
  · rename_i b e; cases h; exact ⟨b,e,by simp⟩
  · cases h) hu
end
end C
end
noncomputable section
set_option linter.all false
set_option maxRecDepth 100000
set_option maxHeartbeats 4000002
set_option autoImplicit false
namespace C
open PySem PySem.Spec PyProof.Rows L2
noncomputable def a8e (K:PySem.W.Frag) (ar:Nat) (F:Fn):Sp:=fun vs H Q _=>∃ S as sto ts t sto',Same S H∧Fg K S as H sto∧wu K S as vs ts∧ts.length=ar∧F ts sto=some (t,sto') ∧
  ∀ p H' S' as',a6g ⟨S,as,H⟩ S' as' H'→Same S' H'→Fg K S' as' H' sto'→S8 K ⟨S,as,H⟩ S' as' H' p t→Q (.ref p) H'
noncomputable section
variable {X:Cx} {B:Bas} {a b c e:Expr} {m m1 m2:M T} {pos p:Pos} {u v:S} {es:List Expr} {ms:M (List T)} {k n:Nat} {f:Addr} {fd:FuncData} {pn:List Str} {F:Fn} {x:Str}
end
noncomputable def Vc (P:Program) (w:World) (K:PySem.W.Frag) (mg:Str→Option Value) (base:Heap) (x:Str) (k:Nat) (ps:List Str) (F:Fn):Prop :=
  ∃ f fd,Ad P w K mg base CX0 k f fd ps (a8e K ps.length F)∧Binds K fd ps []∧PySem.W.keepIn K (.ref f)=true∧mg x=some (.ref f)
theorem Vc.mono {P:Program} {w:World} {K:PySem.W.Frag} {mg:Str→Option Value} {base:Heap} {x:Str} {j k:Nat} {ps:List Str} {F:Fn} (d:Vc P w K mg base x j ps F) (h:j≤k):Vc P w K mg base x k ps F:=by
  obtain ⟨f,fd,h1,h2⟩:=d
  exact ⟨f,fd,h1.mono h,h2⟩
noncomputable section
variable {X:Cx} {B:Bas} {a b c e:Expr} {m m1 m2:M T} {pos p:Pos} {es:List Expr} {ms:M (List T)} {n:Nat} {pn:List Str} {F:Fn} {x:Str}
end
noncomputable section
variable {P:Program} {w:World} {K:PySem.W.Frag} {mg:Str→Option Value} {base:Heap}
end
end C
end
noncomputable section
set_option linter.all false
set_option maxRecDepth 100000
set_option maxHeartbeats 4000002
set_option autoImplicit false
namespace C
open PySem PySem.Spec PyProof.Rows L2
noncomputable section
variable {X:Cx} {B:Bas} {a b c e:Expr} {m m1 m2:M T} {pos p p2 pos2:Pos}
theorem Ub:Om X (.builtin "abs") pq:=by
  intro pins s σ H xs us Q I rs z8
  obtain ⟨S,as,ts,w,sub,hr,hf,q⟩:=z8
  cases hr with
  | nil=>simp only [pq,reduceCtorEq] at hf
  | @cons x t xs' ts' h1 h2 =>
    cases h2 with
    | cons h3 h4=>cases h1 <;> simp only [pq,reduceCtorEq] at hf
    | nil =>
      cases h1 <;> simp only [pq,reduceCtorEq] at hf
      cases hf
      exact Xx pins s σ H _ us Q I rs ⟨_,rfl,q _ H S (Ext.refl sub) (.int _)⟩
noncomputable def Tw:List Nat→TGs
  | []=>a7r
  | i::is=>a4v (Jj i) (Tw is)
theorem Qw {K:PySem.W.Frag} {H S:Hp} {as:List Addr} {ps:List (V × T)}:∀ (is:List Nat) {vs:List V} {xs:List T} {st:Sta} {σ:L2.St} {Q:L2.St→Hp→Prop},Rel K B st σ H ps S as→wu K S as vs xs→xs.length=is.length →
    (∀ σ',Rel K B ((is.zip xs).foldl (fun s p=>cg p.1 p.2 false s) st) σ' H ps S as→Q σ' H)→Tw is vs σ H Q
  | [],_,_,_,_,_,R,.nil,_,q=>⟨rfl,q _ R⟩
  | i::is,_,_,_,_,_,R,.cons r rs,hl,q=>⟨_,_,rfl,Qw is (R.put (i:=i) r) rs (by simpa using hl) q⟩
  | [],_,_,_,_,_,_,.cons _ _,hl,_=>by simp at hl
  | _::_,_,_,_,_,_,_,.nil,hl,_=>by simp at hl
theorem Gi {is:List Nat} {tg:Expr} (h:PG X tg (a7v X.K is.length (Tw is))):PG X tg (gOf X.K B (m8 is)):=fun pins s σ H x u Q I r z9=>h pins s σ H x u Q I r (by
  obtain ⟨st,ps,S,as,t,R,st',e,q⟩:=z9
  have top:=R.top
  cases t with
  | tup xs =>
    cases top with
    | @tup a vs _ g1 g2 =>
      simp only [m8] at e
      split at e
      · rename_i hl
        cases e
        exact ⟨a,vs,rfl,qt R.sub g1,by rw [g2.length]; exact hl,Qw is R.drop g2 hl fun σ' R'=>q σ' H S as R'⟩
      · cases e
  | _=>simp only [m8,reduceCtorEq] at e)
end
end C
namespace C
open PySem PySem.Spec PyProof.Rows L2
theorem a4m {K:PySem.W.Frag} {F:Fn} {H:Hp} {a:Addr} {ns:List Int} (hS:SqL K H a (ns.map V.int)) (hF:F [.lst (ns.map T.int)] []=some (.bl true,[])):spF K 1 F [.ref a] H (fun v _=>v=.bl true) fun _ _ _=>False:=by
  have reps:∀ (S:Hp) (l:List Int),wu K S [] (l.map V.int) (l.map T.int):=fun S l=>by
    induction l with
    | nil=>exact .nil
    | cons x l ih=>exact .cons (.int x) ih
  let S:Hp:=fun p=>if p=a then H p else none
  have sa:S a=H a:=if_pos rfl
  have sub:Same S H:=fun p u h=>by
    by_cases e:p=a
    · subst e; rw [← sa]; exact h
    · have:S p=none:=if_neg e
      rw [this] at h; cases h
  have sq:SqL K S a (ns.map V.int):=by
    rcases hS with h | h
    · refine .inl ?_
      unfold Rd at h ⊢
      rw [sa]; exact h
    · exact .inr h
  refine ⟨S,[],[],[.lst (ns.map T.int)],.bl true,[],sub,⟨rfl,.nil,fun n so e=>by simp at e⟩,.cons (.lst sq (reps S ns)) .nil,rfl,hF,fun v H' S' as' _ _ _ r=>?_⟩
  cases r
  rfl
end C
end
noncomputable section
set_option autoImplicit false
namespace C
open PySem
noncomputable def wg:Nat→M Bool→S→S
  | 0,_,_=>fun _=>none
  | n+1,c,b=>fun s=>match c s with
    | some (false,s1)=>some (.next,s1)
    | some (true,s1)=>match b s1 with
      | some (.next,s2)=>wg n c b s2
      | some (.cont,s2)=>wg n c b s2
      | some (.brk,s2)=>some (.next,s2)
      | some (.ret v,s2)=>some (.ret v,s2)
      | none=>none
    | none=>none
noncomputable def Vd (i j:Nat):S:=fun s=>match s.env[i]? with
  | some (some (.lst xs,true))=>match xs[xs.length - 1]? with
    | some t=>some (.next,cg j t false (cg i (.lst xs.dropLast) true s))
    | none=>none
  | _=>none
noncomputable def Tq:List T→Option T
  | [.int i]=>some (.int i)
  | [.bl k]=>some (.int (if k then 1 else 0))
  | _=>none
end C
end
noncomputable section
set_option autoImplicit false
namespace C
open PySem
noncomputable def a1l (xs ys:List T):List T:=(xs.zip ys).map fun p=>.tup [p.1,p.2]
noncomputable def a2q (a b:M T):M (List T):=fun s=>match a s with
  | some (t,s1)=>match b s1 with
    | some (u,s2)=>match j6 t,j6 u with
      | some xs,some ys=>if xs.length<lim∧ys.length<lim then some (a1l xs ys,s2) else none
      | _,_=>none
    | none=>none
  | none=>none
noncomputable def sIx (n d:Nat):Option Int→Nat
  | none=>d
  | some v=>if v<0 then (v+(n:Int)).toNat else min v.toNat n
noncomputable def a03 (xs:List T) (lo hi:Option Int):List T:=(xs.drop (sIx xs.length 0 lo)).take (sIx xs.length xs.length hi - sIx xs.length 0 lo)
noncomputable def a3k (lo hi:Option Int):T→Option T
  | .lst xs=>some (.lst (a03 xs lo hi))
  | .tup xs=>if sIx xs.length 0 lo=0∧sIx xs.length xs.length hi=xs.length then none else some (.tup (a03 xs lo hi))
  | _=>none
noncomputable def a08:M (Option Int):=fun s=>some (none,s)
noncomputable def Fv (e:M T):M (Option Int):=fun s=>match e s with
  | some (.int i,s1)=>some (some i,s1)
  | _=>none
noncomputable def Dh (m:M T) (lo hi:M (Option Int)):M T:=fun s=>match m s with
  | some (t,s1)=>match lo s1 with
    | some (l,s2)=>match hi s2 with
      | some (h,s3)=>match a3k l h t with
        | some u=>some (u,s3)
        | none=>none
      | none=>none
    | none=>none
  | none=>none
noncomputable def a5a:T→Option T
  | .lst xs=>some (.lst xs.reverse)
  | _=>none
noncomputable def a7a (b:Bool):T→Bool
  | .bl k=>k==b
  | _=>false
noncomputable def isC:T→T→Option T
  | x,.non=>some (.bl (N8 x))
  | x,.bl b=>some (.bl (a7a b x))
  | _,_=>none
noncomputable def xg (x y:T):Option T:=match isC x y with
  | some (.bl b)=>some (.bl (!b))
  | _=>none
end C
end
noncomputable section
set_option linter.all false
set_option autoImplicit false
namespace C
open PySem
end C
end
noncomputable section
set_option linter.all false
set_option autoImplicit false
namespace C
open PySem
noncomputable def a1q (k:Int):List T→Option T
  | [a]=>some (.dic [(.inl k,a)])
  | _=>none
end C
end
noncomputable section
set_option linter.all false
set_option maxRecDepth 100000
set_option maxHeartbeats 4000002
set_option autoImplicit false
namespace C
open PySem PySem.Spec PyProof.Rows L2
noncomputable section
variable {X:Cx} {B:Bas} {a b c e lo hi:Expr} {m m1 m2 ml mh:M T} {pos p p2:Pos}
theorem Ur {K:PySem.W.Frag} {S:Hp} {as:List Addr} {x:V} {t:T} (r:Rep K S as x t):decide (x=V.non)=N8 t:=by
  cases r <;> rfl
theorem Xv {K:PySem.W.Frag} {S:Hp} {as:List Addr} {x:V} {t:T} (r:Rep K S as x t) (h:N8 t=true):x=.non:=by
  cases r <;> first | rfl | cases h
theorem a4c:OpT X (compareOp .Is) a2x:=by
  intro pins s σ H x y v u Q I rx ry z8
  obtain ⟨S,as,t,t2,w,sub,ht,hu2,hf,q⟩:=z8
  unfold a2x at hf
  split at hf
  · rename_i hn; cases hf
    exact Zd pins s σ H x y v u Q I rx ry ⟨Xv hu2 hn,by rw [Ur ht]; exact q _ H S (Ext.refl sub) (.bl _)⟩
  · cases hf
end
end C
end
noncomputable section
set_option linter.all false
set_option maxRecDepth 100000
set_option maxHeartbeats 4000002
set_option autoImplicit false
namespace C
open PySem PySem.Spec PyProof.Rows L2
noncomputable section
variable {X:Cx} {B:Bas} {a b c e o k:Expr} {m mo mk mv:M T} {pos p:Pos}
end
end C
end
noncomputable section
set_option linter.all false
set_option maxRecDepth 100000
set_option maxHeartbeats 4000002
set_option autoImplicit false
namespace C
open PySem PySem.Spec PyProof.Rows L2
noncomputable section
variable {X:Cx} {B:Bas} {pins:List (Addr × Obj)} {σ:L2.St} {H S:Hp} {s:Shared} {as:List Addr} {Q:VK}
theorem gather {R:List Value→Shared→Prop} {A:Around} {E:Value→Shared→Prop} {T:String} {r d:Addr} {n:Nat} {P:Nat→Value→Prop} {OK:Heap→Prop} (KS:PySem.W.KdlSrc X.prog X.w T r d n P OK) (nh:A.handled=none) (ok0:OK s.heap) (sz:n≤sizeLine)
    (k:∀ (h1:Heap) (tk:Nat) (got:Array Value),s.heap.objs.size<h1.objs.size→(∀ b o,s.heap.get? b=some o→h1.get? b=some o)→ItemsOf P got n→R got.toList { s with heap:=h1,toks:=tk }) :
    wpAny (model X.prog X.w) A (collect (.ref r)) R E s:=by
  have lt0:=KS.there _ ok0
  unfold collect
  refine wpAny_bind (wpAny_runValue
    (codeAny_builtin entry_proto_collect' ?_))
  rw [Around.under_plainId
    PySem.F.plain_proto_collect _]
  show wpAny _ A.in1 (newList [] >>= fun z=>again (.builtin "list.__iadd__" ⟨[z,.ref r],[]⟩)) _ _ s
  refine wpAny_bind (wpAny_newObj_type (wpAny_pure ⟨plainId_quiet PySem.F.plain_list_iadd _,codeAny_builtin entry_list_iadd' ?_⟩))
  rw [Around.under_plainId
    PySem.F.plain_list_iadd _]
  change wpAny _ A.in1 (Builtin.List.listExtendWith (.ref s.heap.objs.size) (.ref r) (.ref s.heap.objs.size)) _ _ _
  have new0:(s.heap.push { cls:=.type "list",data:=.seq ([]:List Value).toArray }).get? s.heap.objs.size=some { cls:=.type "list",data:=.seq #[] }:=Heap.get?_push_size _ rfl
  have walk:=PySem.W.kdl_extend (A:=A) (s:={ s with heap:=s.heap.push { cls:=.type "list",data:=.seq ([]:List Value).toArray } })
    (R:=fun (f:Result) (s1:Shared)=>∃ (h1:Heap) (tk:Nat) (got:Array Value) (c1:Nat),f=.ok (.ret (.ref s.heap.objs.size))∧s1 = { s with heap:=h1,toks:=tk }∧(∀ b o,s.heap.get? b=some o→h1.get? b=some o) ∧
      h1.get? s.heap.objs.size=some { cls:=.type "list",dict:=none,data:=.seq got c1,slots:=#[] }∧ItemsOf P got n)
    KS nh (KS.keep _ _ ok0 fun b _ o e=>Heap.get?_push_of_some _ e) s.heap.objs.size (Nat.ne_of_gt lt0.1) (Nat.ne_of_gt lt0.2) (.ref s.heap.objs.size) 0 new0
    (fun h1 tk got c1 old at1 its=>⟨h1,tk,got,c1,rfl,rfl,fun b o e=>old b o (Nat.ne_of_lt (Heap.lt_size e)) (Heap.get?_push_of_some _ e),at1,its⟩) sz
  have last:∀ (h1:Heap) (tk:Nat) (got:Array Value) (c1:Nat),(∀ b o,s.heap.get? b=some o→h1.get? b=some o)→h1.get? s.heap.objs.size=some { cls:=.type "list",dict:=none,data:=.seq got c1,slots:=#[] }→ItemsOf P got n →
      wpAny (model X.prog X.w) A (load s.heap.objs.size >>= fun o=>match o.data with | .seq xs _=>pure xs.toList | _=>unsupported "internal:collect") R E { s with heap:=h1,toks:=tk } :=
    fun h1 tk got c1 old at1 its=>wpAny_bind (wpAny_load at1 (wpAny_pure (k h1 tk got (Heap.lt_size at1) old its)))
  refine wpAny_mono walk (fun fin s1 x=>?_) fun e s1 x=>?_
  · cases fin with
    | done f =>
      obtain ⟨h1,tk,got,c1,ef,rfl,old,at1,its⟩:=x
      cases ef
      exact last h1 tk got c1 old at1 its
    | again c =>
      refine ⟨x.1,codeAny_mono x.2 fun f s2 y=>?_⟩
      obtain ⟨h1,tk,got,c1,rfl,rfl,old,at1,its⟩:=y
      exact last h1 tk got c1 old at1 its
  · obtain ⟨_,_,_,_,ef,_⟩:=x
    cases ef
theorem V8 {T:String} {r d:Addr} {n:Nat} {P:Nat→Value→Prop} {OK:Heap→Prop} {l:List Str} (KS:PySem.W.KdlSrc X.prog X.w T r d n P OK) (hc:X.calm=true) (I:L2.Inv X pins σ H s) (sub:Same S H) (hok:OK s.heap) (h64:n<64)
    (hi:∀ vs:List Value,vs.length=n→(∀ (j:Nat) (v:Value),vs[j]? = some v→P j v)→∃ l',StrsAre vs l'∧l'.Perm l)
    (q:∀ v H' S',Ext S H S' H'→Rep X.K S' as v (.lst ((Bj l).map .str))→Q v H'):wpAny (model X.prog X.w) X.A (call (.builtin "sorted") [.ref r]) (EP X pins σ Q) X.xe s:=by
  have hn:n≤sizeLine:=Nat.le_trans (Nat.le_of_lt h64) (by rw [sizeLine_eq]; decide)
  refine Calls.call_function_entry kind_sorted plain_sorted
    entry_sorted (args_sorted1 _) ?_
  unfold Builtin.«sorted»
  refine wpAny_bind (m:=checkCount "sorted" 1 1 _) (wpAny_pure (wpAny_bind ?_))
  refine (gather (A:=X.A.in1) KS (show X.A.in1.handled=none from I.ok.hd hc) hok hn fun h' tk acc hlt hk hacc=>?_)
  have hl:acc.toList.length=n:=Array.length_toList.trans hacc.1
  obtain ⟨l',hS,hp⟩:=hi acc.toList hl fun j v e=>hacc.2 j v (by rw [← Array.getElem?_toList]; exact e)
  refine wpAny_bind (wpAny_newList ?_ (hl ▸ hn))
  have hoL:(h'.push (seqObj "list" acc.toList.toArray 0)).get? h'.objs.size=some (seqObj "list" acc.toList.toArray 0):=Heap.get?_push_size _ rfl
  refine wpAny_bind (wpAny_holding (wpAny_call_entry slot_list_sort ⟨_,hoL,rfl⟩ entry_list_sort (list_sort_treeK strKind_oneLt hoL hS.keysOf (fun v₁ v₂ rest e=>keyKind_strs (by rw [← e]; exact hS)) (by rw [hl]; exact h64) fun st' a1 a2=>⟨_,rfl,?_⟩) (args_list_sort _)))
  refine wpAny_pure ⟨_,rfl,(?_:EP X pins σ Q _ _)⟩
  obtain ⟨ss',b1,b2,b3⟩:=sorted_out_str hS a1 a2
  have es:=Pn b3 (b2.trans hp)
  subst es
  have hle:=Nat.le_of_lt hlt
  obtain ⟨e,he⟩:=sortedHeap_at (out:=(arrOf st').map (·.2)) hoL
  have hsz:(List.map V.str (Bj l)).length≤sizeLine:=by
    rw [List.length_map,(Em l).length_eq,← hp.length_eq,← hS.length,hl]
    exact hn
  have hnn:H h'.objs.size=none:=I.hok.fresh hle
  have x:=Ext.laid sub hnn (.lst ((Bj l).map V.str))
  refine ⟨.ref h'.objs.size,_,I.laid (a:=h'.objs.size) (o:=.lst ((Bj l).map V.str)) (t':=tk) (fun b u eb=>?_) hle ⟨hsz,_,e,G5 b1,he⟩,rfl,q _ _ _ x (.lst (SqL.of ji) (Gh _))⟩
  have hb:=Heap.lt_size (hk _ _ eb)
  rw [sortedHeap_old (Nat.ne_of_lt hb) (by rw [Heap.size_push]; exact Nat.lt_succ_of_lt hb)]
  exact Heap.get?_push_of_some _ (hk _ _ eb)
theorem K9:∀ {kvs:List (L2.Key × V)} {ts:List (L2.Key × T)} {l:List Str},kvs.map (·.1)=ts.map (·.1)→Fp (ts.map fun p=>T9 p.1)=some l→kvs.map (·.1)=l.map Sum.inr
  | [],[],l,_,h=>by simp only [List.map_nil,Fp] at h; cases h; rfl
  | (k,v)::kvs,(k2,t)::ts,l,e,h=>by
    simp only [List.map_cons,List.cons.injEq] at e
    obtain ⟨e1,e2⟩:=e
    subst e1
    cases k with
    | inl i=>simp only [List.map_cons,T9,Fp,reduceCtorEq] at h
    | inr x =>
      simp only [List.map_cons,T9,Fp] at h
      obtain ⟨l',h1,h2⟩:=Option.map_eq_some_iff.mp h
      subst h2
      rw [List.map_cons,List.map_cons,K9 e2 h1]
theorem Dq.keys {K:PySem.W.Frag} {S:Hp} {as:List Addr}:∀ {kvs:List (L2.Key × V)} {ts:List (L2.Key × T)},Dq K S as kvs ts→kvs.map (·.1)=ts.map (·.1)
  | _,_,.nil=>rfl
  | _,_,.cons h q=>by rw [List.map_cons,List.map_cons,Dq.keys q]
theorem Eu {prog:Program} {w:World}:∀ {vs:List (L2.Key × Value)} {us:List Value} {l:List Str},vs.map (·.1)=l.map Sum.inr→us.length=vs.length→(∀ (j:Nat) (v:Value),us[j]? = some v→∃ k x,vs[j]? = some (k,x)∧(ud prog w).is k v=true)→StrsAre us l
  | [],us,l,e,hl,h=>by
    cases us with
    | cons _ _=>simp at hl
    | nil=>cases l with
      | nil=>exact .nil
      | cons _ _=>simp at e
  | (k,x)::vs,us,l,e,hl,h=>by
    cases us with
    | nil=>simp at hl
    | cons u us =>
      cases l with
      | nil=>simp at e
      | cons y l =>
        simp only [List.map_cons,List.cons.injEq] at e
        obtain ⟨e1,e2⟩:=e
        subst e1
        obtain ⟨k',x',h1,h2⟩:=h 0 u rfl
        simp only [List.getElem?_cons_zero,Option.some.injEq,Prod.mk.injEq] at h1
        obtain ⟨rfl,rfl⟩:=h1
        rw [R7] at h2
        have hu:∃ t,u=.str y t:=by
          rcases uf h2 with ⟨i,t,e',_⟩ | ⟨z,t,e',hz⟩
          · cases e'
          · cases e'; exact ⟨t,hz⟩
        obtain ⟨t,rfl⟩:=hu
        exact .cons y t (Eu e2 (by simpa using hl) fun j v ev=>by simpa using h (j+1) v (by simpa using ev))
theorem Li (hc:X.calm=true):Om X (.builtin "sorted") Br:=by
  intro pins s σ H xs us Q I rs z8
  obtain ⟨S,as,ts,w,sub,hr,hf,q⟩:=z8
  cases hr with
  | nil=>simp only [Br,reduceCtorEq] at hf
  | @cons x t xs' ts' h1 h2 =>
    cases h2 with
    | cons h3 h4=>cases h1 <;> simp only [Br,reduceCtorEq] at hf
    | nil =>
      cases h1 with
      | @lst a vs ts g1 g2 =>
        simp only [Br] at hf
        split at hf
        · rename_i h64
          obtain ⟨l,e1,e2⟩:=Option.map_eq_some_iff.mp hf
          subst e2
          exact Jt pins s σ H _ us Q I rs ⟨S,as,ts,l,sub,.cons (.lst g1 g2) .nil,h64,e1,q⟩
        · cases hf
      | @dic a kvs ts g1 g2 =>
        simp only [Br] at hf
        split at hf
        · rename_i h64
          obtain ⟨l,e1,e2⟩:=Option.map_eq_some_iff.mp hf
          subst e2
          obtain ⟨u,rfl,ru⟩:=rs.one
          cases ru
          obtain ⟨z,hd,vs,rel,dd⟩:=Iu I.hok (Ay sub g1)
          obtain ⟨ep,hat⟩:=dd.dictAt
          have hlen:vs.length=ts.length:=by rw [← rel.length]; exact g2.length
          have hk:=K9 g2.keys e1
          rw [KV.keys rel] at hk
          exact V8 (PySem.W.kdl_dict (knd:=ud X.prog X.w) (kvs:=vs) (ep:=ep) hd) hc I sub hat (by rw [hlen]; exact h64) (fun us hl hp=>⟨l,Eu hk hl hp,.refl _⟩) q
        · cases hf
      | _=>simp only [Br,reduceCtorEq] at hf
end
end C
end
noncomputable section
set_option linter.all false
set_option maxRecDepth 100000
set_option maxHeartbeats 4000002
set_option autoImplicit false
namespace C
open PySem PySem.Spec PyProof.Rows L2
noncomputable section
variable {prog:Program} {w:World} {A:Around} {E:Value→Shared→Prop} {s:Shared}
end
end C
end
noncomputable section
set_option linter.all false
set_option maxRecDepth 100000
set_option maxHeartbeats 4000002
set_option autoImplicit false
namespace C
open PySem PySem.Spec PyProof.Rows L2
noncomputable section
variable {prog:Program} {w:World} {A:Around} {R:Result→Shared→Prop} {I:Addr} {fp wr:List Addr} {G:Array GenState→Array GenState→Prop} {n:Nat} {P:Nat→Value→Prop} {St:Nat→Shared→Prop} {κ:Type} [DecidableEq κ] {knd:PySem.KeyKind prog w κ}
end
end C
end
noncomputable section
set_option linter.all false
set_option maxRecDepth 100000
set_option maxHeartbeats 4000002
set_option autoImplicit false
namespace C
open PySem PySem.Spec PyProof.Rows L2
noncomputable section
variable {prog:Program} {w:World} {A:Around} {E:Value→Shared→Prop} {s:Shared} {κ:Type} [DecidableEq κ] {knd:PySem.KeyKind prog w κ}
end
end C
end
noncomputable section
set_option linter.all false
set_option maxRecDepth 100000
set_option maxHeartbeats 4000002
set_option autoImplicit false
namespace C
open PySem PySem.Spec PyProof.Rows L2
noncomputable section
variable {X:Cx} {pins:List (Addr × Obj)} {σ:L2.St} {H S:Hp} {s:Shared} {as:List Addr}
inductive Hy (h:Heap) (prog:Program) (w:World):List Value→List L2.Key→List Value→Prop where
  | nil:Hy h prog w [] [] []
  | cons {t:Addr} {kx wv:Value} {o:Obj} {n:Nat} {q:L2.Key} {us:List Value} {qs:List L2.Key} {ws:List Value}:h.get? t=some o→o.cls=.type "tuple" → o.data=.seq #[kx,wv] n→(ud prog w).is q kx=true →
      Hy h prog w us qs ws→Hy h prog w (.ref t::us) (q::qs) (wv::ws)
theorem Hy.len {h:Heap} {prog:Program} {w:World}:∀ {us:List Value} {qs:List L2.Key} {ws:List Value},Hy h prog w us qs ws→us.length=qs.length∧us.length=ws.length
  | _,_,_,.nil=>⟨rfl,rfl⟩
  | _,_,_,.cons _ _ _ _ r=>⟨congrArg (· + 1) r.len.1,congrArg (· + 1) r.len.2⟩
end
noncomputable section
variable {X:Cx} {B:Bas} {a:Expr} {m:M T} {pos p:Pos}
end
end C
end
noncomputable section
set_option linter.all false
set_option autoImplicit false
namespace C
open PySem PySem.Spec PyProof.Rows L2
theorem je.zero {P:Program} {w:World} {K:PySem.W.Frag} {mg:Str→Option Value} {base:Heap} {x qual:Str} {st:Stmt} {f:Addr} {fd:FuncData} {ps:List Str} {k:Nat} (F:Fun K x qual st f fd) (h:mg x=some (.ref f)) (b:Binds K fd ps []):je P w K mg base x k ps (fun _ _=>none):=by
  have no:∀ vs H Q E,¬ spF K ps.length (fun _ _=>none) vs H Q E:=fun vs H Q E z=>by
    obtain ⟨S,as,sto,ts,t,sto',_,_,_,_,e,_⟩:=z
    cases e
  exact ⟨f,fd,⟨fun vs H Q E z=>absurd z (no vs H Q E),fun A outer s H args us vs Q E _ _ _ _ z=>absurd z (no vs H Q E)⟩,b,F.kp,h⟩
end C
end
noncomputable section
set_option linter.all false
set_option maxRecDepth 100000
set_option maxHeartbeats 4000002
set_option autoImplicit false
namespace C
open PySem PySem.Spec PyProof.Rows L2
theorem Ti {n:Nat} {c:M Bool} {b:S} {s s':Sta} {fl:Flow} (h:wg (n+1) c b s=some (fl,s')):(∃ s1,c s=some (false,s1)∧fl=.next∧s'=s1) ∨
    ∃ s1 fb s2,c s=some (true,s1)∧b s1=some (fb,s2)∧(match fb with | .next=>wg n c b s2=some (fl,s') | .cont=>wg n c b s2=some (fl,s') | .brk=>fl=.next∧s'=s2 | .ret v=>fl=.ret v∧s'=s2):=by
  rw [wg] at h
  dsimp only at h
  split at h
  · rename_i s1 e1; cases h; exact .inl ⟨_,e1,rfl,rfl⟩
  · rename_i s1 e1
    split at h
    · rename_i s2 e2; exact .inr ⟨s1,.next,s2,e1,e2,h⟩
    · rename_i s2 e2; exact .inr ⟨s1,.cont,s2,e1,e2,h⟩
    · rename_i s2 e2; cases h; exact .inr ⟨s1,.brk,_,e1,e2,rfl,rfl⟩
    · rename_i v s2 e2; cases h; exact .inr ⟨s1,.ret v,_,e1,e2,rfl,rfl⟩
    · cases h
  · cases h
theorem Yq {i j:Nat} {s s':Sta} {fl:Flow} (h:Vd i j s=some (fl,s')):∃ xs t,s.env[i]? = some (some (.lst xs,true))∧xs[xs.length - 1]? = some t∧fl=.next∧s'=cg j t false (cg i (.lst xs.dropLast) true s):=by
  unfold Vd at h
  split at h
  · rename_i xs e
    split at h
    · rename_i t e2; cases h; exact ⟨xs,t,e,e2,rfl,rfl⟩
    · cases h
  · cases h
theorem wu.dropLast {K:PySem.W.Frag} {S:Hp} {as:List Addr}:∀ {vs:List V} {ts:List T},wu K S as vs ts→wu K S as vs.dropLast ts.dropLast
  | _,_,.nil=>.nil
  | _,_,.cons h .nil=>.nil
  | _,_,.cons h (.cons h2 r)=>.cons h (wu.dropLast (.cons h2 r))
noncomputable section
variable {X:Cx} {B:Bas} {c e:Expr} {m:M T} {pos p:Pos} {u:S} {body:List Stmt}
theorem Qm (n:Nat) {mc:M Bool} (hp:PassesOwn (model X.prog X.w) X.A X.env X.xe) (hc:PT X c (cOf X.K B mc)) (hb:PSs X body (sOf X.K B u)):PS X (.While c body [] pos) (sOf X.K B (wg n mc u)):=(Yy hp hc hb).imp fun D σ H z9=>by
  obtain ⟨st,ps,S,as,R,fl,st',e,q⟩:=z9
  refine ⟨fun k σ H=>∃ sti Si asi,Rel X.K B sti σ H ps Si asi∧wg k mc u sti=some (fl,st'),⟨n,st,S,as,R,e⟩,?_⟩
  rintro k σ2 H2 ⟨sti,Si,asi,Ri,ei⟩
  cases k with
  | zero=>rw [wg] at ei; cases ei
  | succ k =>
    rcases Ti ei with ⟨s1,e1,rfl,rfl⟩ | ⟨s1,fb,s2,e1,e2,er⟩
    · exact ⟨sti,ps,Si,asi,Ri,false,_,e1,fun H3 S3 as3 R3=>a0o (q σ2 H3 S3 as3 R3)⟩
    · refine ⟨sti,ps,Si,asi,Ri,true,s1,e1,fun H3 S3 as3 R3=>a1t ⟨fun σ' H'=>∃ sti Si asi,Rel X.K B sti σ' H' ps Si asi∧wg k mc u sti=some (fl,st'),fun σ' H' h=>⟨k,Nat.lt_succ_self _,h⟩,s1,ps,S3,as3,R3,fb,s2,e2,?_⟩⟩
      cases fb with
      | next=>exact fun σ' H' S' as' R'=>⟨s2,S',as',R',er⟩
      | cont=>exact fun σ' H' S' as' R'=>⟨s2,S',as',R',er⟩
      | brk =>
        obtain ⟨rfl,rfl⟩:=er
        exact fun σ' H' S' as' R'=>q σ' H' S' as' R'
      | ret v =>
        obtain ⟨rfl,rfl⟩:=er
        exact fun v σ' H' S' as' R'=>q v σ' H' S' as' R'
theorem Zz (i j:Nat) {st:Stmt} (h:PS X st (a2r (a7w X.K "list" a7u (Yz i)) (Jj j))):PS X st (sOf X.K B (Vd i j)):=h.imp fun D σ H z9=>by
  obtain ⟨st,ps,S,as,R,fl,st',e,q⟩:=z9
  obtain ⟨xs,t,e2,e3,rfl,rfl⟩:=Yq e
  obtain ⟨w,h1,_,h3⟩:=R.slots i _ true e2
  obtain ⟨p0,rfl,ow⟩:=h3 rfl
  obtain ⟨vs,hH,h4⟩:=ow.own
  obtain ⟨y,hy,ry⟩:=h4.get e3
  have hy':vs[vs.length - 1]? = some y:=by rw [h4.length]; exact hy
  have R2:=R.turn (ob:=.lst vs.dropLast) (t':=.lst xs.dropLast) e2 h1 ⟨_,ji,h4.dropLast⟩
  exact ⟨_,h1,.inl ⟨rfl,_,SqL.of hH⟩,p0,vs,y,rfl,rfl,hH,hy',q _ _ S as (R2.put (i:=j) ry)⟩
theorem Du:Om X (.type "int") Tq:=by
  intro pins s σ H xs us Q I rs z8
  obtain ⟨S,as,ts,w,sub,hr,hf,q⟩:=z8
  cases hr with
  | nil=>simp only [Tq,reduceCtorEq] at hf
  | @cons x t xs' ts' h1 h2 =>
    cases h2 with
    | cons h3 h4=>cases h1 <;> simp only [Tq,reduceCtorEq] at hf
    | nil =>
      cases h1 <;> simp only [Tq,reduceCtorEq] at hf
      · cases hf
        exact Lh pins s σ H _ us Q I rs (.inr ⟨_,rfl,q _ H S (Ext.refl sub) (.int _)⟩)
      · cases hf
        exact Lh pins s σ H _ us Q I rs (.inl ⟨_,rfl,q _ H S (Ext.refl sub) (.int _)⟩)
end
end C
end
noncomputable section
set_option linter.all false
set_option maxRecDepth 100000
set_option maxHeartbeats 4000002
set_option autoImplicit false
namespace C
open PySem PySem.Spec PyProof.Rows L2
noncomputable section
variable {X:Cx} {B:Bas} {e st:Expr} {te:TE} {m:M T} {pos p2 p3 p4:Pos} {j:Nat}
theorem Wy (hg:Gl X "list") (hm:X.mg "list" = none) (ha:PE X e (tOf X.K B m)) (he:starEach [e] X.env=(false,eval e X.env)::starEach [] X.env:=by rfl) (hpl:(backTo pos (starEach [] X.env)).any (·.1)=false:=by rfl) :
    PE X (.Call (.Name "list" p3) [e] [] pos) (fOf X.K B (gn Cr (ak m dw))):=by
  refine (xu Cu hg hm PyProof.Rows.boot_list (wj ha Aw he) (by decide) (by decide) he hpl).imp fun σ H Q z0=>?_
  obtain ⟨st,ps,S,as,R,t,st',e,q⟩:=z0
  obtain ⟨ts,e1,e2⟩:=Bl e
  obtain ⟨t1,s1,us,ea,en,rfl⟩:=Bg e1
  cases en
  refine ⟨st,ps,S,as,R,t1,_,ea,fun v H1 S1 as1 R1=>?_⟩
  have top:=R1.top
  cases top with
  | @lst a vs ts g1 g2 =>
    simp only [Cr] at e2; cases e2
    refine ⟨a,vs,rfl,.inl (qp R1.sub g1),fun p hp=>?_⟩
    obtain ⟨bD,sD,nD,no⟩:=R1.fresh hp
    exact q p _ S1 as1 (R1.drop.Z6 bD sD nD (fun j w e1 e2=>no j w e1 e2)) ⟨⟨vs,ji,g2⟩,sD,nD,bD⟩ (fun j w e1 e2=>no j w e1 e2)
  | @tup a vs ts g1 g2 =>
    simp only [Cr] at e2; cases e2
    refine ⟨a,vs,rfl,.inr (qt R1.sub g1),fun p hp=>?_⟩
    obtain ⟨bD,sD,nD,no⟩:=R1.fresh hp
    exact q p _ S1 as1 (R1.drop.Z6 bD sD nD (fun j w e1 e2=>no j w e1 e2)) ⟨⟨vs,ji,g2⟩,sD,nD,bD⟩ (fun j w e1 e2=>no j w e1 e2)
  | _=>simp only [Cr,reduceCtorEq] at e2
end
end C
end
noncomputable section
set_option linter.all false
set_option maxRecDepth 100000
set_option maxHeartbeats 4000002
set_option autoImplicit false
namespace C
open PySem PySem.Spec PyProof.Rows L2
noncomputable section
variable {X:Cx} {B:Bas} {a:Expr} {m:M T} {pos p:Pos}
end
end C
end
noncomputable section
set_option linter.all false
set_option autoImplicit false
namespace C
open PySem PySem.Sem
noncomputable def Eo:Bool→Heap→Addr→Addr→Nat→Prop
  | true,h,it,a,i=>h.IsListIter it a i
  | false,h,it,a,i=>h.IsTupleIter it a i
noncomputable def Ca:Bool→Heap→Addr→Array Value→Prop
  | true,h,a,xs=>h.IsList a xs
  | false,h,a,xs=>h.IsTuple a xs
theorem Eo.to {k:Bool} {h h':Heap} {it a:Addr} {i:Nat} (x:Eo k h it a i) (e:∀ o,h.get? it=some o→h'.get? it=some o):Eo k h' it a i:=by
  cases k <;> obtain ⟨o,ho,r⟩:=x <;> exact ⟨o,e o ho,r⟩
theorem Eo.obj {k:Bool} {h:Heap} {it a:Addr} {i:Nat} (x:Eo k h it a i):∃ o,h.get? it=some o∧∀ v,o.data≠.cell v:=by
  cases k <;> obtain ⟨o,ho,_,d⟩:=x <;> exact ⟨o,ho,fun v z=>by rw [d] at z; cases z⟩
theorem Ca.to {k:Bool} {h h':Heap} {a:Addr} {xs:Array Value} (x:Ca k h a xs) (e:∀ o,h.get? a=some o→h'.get? a=some o):Ca k h' a xs:=by
  cases k <;> obtain ⟨o,ho,r⟩:=x <;> exact ⟨o,e o ho,r⟩
noncomputable section
variable {prog:Program} {w:World} {A:Around} {E:Value→Shared→Prop} {s:Shared}
theorem nextT {it t:Addr} {i:Nat} {xs:Array Value} {x:Value} {Q:Value→Shared→Prop} (h1:s.heap.IsTupleIter it t i) (h2:s.heap.IsTuple t xs) (h3:xs[i]? = some x)
    (q:∀ h',h'.IsTupleIter it t (i+1)→Heap.SameBut it s.heap h'→Q x { s with heap:=h' }):wpAny (model prog w) A (Builtin.SmallTypes.nextOf (.ref it)) Q E s:=by
  have ty:s.TypeIs (.ref it) "tuple_iterator" := h1.typeIs
  obtain ⟨oi,gi,ci,di⟩:=h1
  obtain ⟨ot,gt,_,m,dt⟩:=h2
  have upd:∀ (h':Heap),h'=s.heap.update it (Obj.mapFields (·.setIfInBounds 1 (rawInt ((i:Int)+1))))→h'.IsTupleIter it t (i+1):=fun h' e=>by
    subst e
    refine ⟨_,Heap.get?_update_self _ gi (Obj.isFreed_of_fields (Obj.data_mapFields di _)),(Obj.cls_mapFields ..).trans ci,?_⟩
    rw [Obj.data_mapFields di]; rfl
  unfold Builtin.SmallTypes.nextOf -- here
  refine wpAny_bind (wpAny_callSpecial?_slot (name:=Str.ofString "__next__") ty F.slot_tuple_iterator_next (wpAny_call_entry F.slot_tuple_iterator_next ty F.entry_tuple_iterator_next ?_ (F.args_tuple_iterator_next_1 _)))
  refine (show wpAny _ _ (field (.ref it) 0 >>= _) _ _ s from wpAny_bind (wpAny_field gi di (x:=.ref t) rfl ?_))
  dsimp only
  rw [if_neg (by intro z; cases z)]
  refine (show wpAny _ _ (field (.ref it) 1 >>= _) _ _ s from wpAny_bind (wpAny_field gi di (x:=.int i 0) rfl ?_))
  refine (show wpAny _ _ (seqItems? (.ref t) >>= _) _ _ s from wpAny_bind (wpAny_seqItems gt dt ?_))
  dsimp only
  rw [Int.toNat_natCast,h3]
  exact wpAny_bind (wpAny_setField gi di (by simp) (wpAny_pure ⟨x,rfl,wpAny_pure (q _ (upd _ rfl) (Heap.SameBut.update ..))⟩))
theorem Vz {it t:Addr} {i:Nat} {xs:Array Value} {Q:Value→Shared→Prop} (hh:A.handled=none) (h1:s.heap.IsTupleIter it t i) (h2:s.heap.IsTuple t xs) (h3:xs[i]? = none)
    (q:∀ h' e,Heap.ExtBut it s.heap h'→(∃ o,h'.get? e=some o∧o.cls=.type "StopIteration")→E (.ref e) { s with heap:=h' }):wpAny (model prog w) A (Builtin.SmallTypes.nextOf (.ref it)) Q E s:=by
  have ty:s.TypeIs (.ref it) "tuple_iterator" := h1.typeIs
  obtain ⟨oi,gi,ci,di⟩:=h1
  obtain ⟨ot,gt,_,m,dt⟩:=h2
  unfold Builtin.SmallTypes.nextOf -- here
  refine wpAny_bind (wpAny_callSpecial?_slot (name:=Str.ofString "__next__") ty F.slot_tuple_iterator_next (wpAny_call_entry F.slot_tuple_iterator_next ty F.entry_tuple_iterator_next ?_ (F.args_tuple_iterator_next_1 _)))
  refine (show wpAny _ _ (field (.ref it) 0 >>= _) _ _ s from wpAny_bind (wpAny_field gi di (x:=.ref t) rfl ?_))
  dsimp only
  rw [if_neg (by intro z; cases z)]
  refine (show wpAny _ _ (field (.ref it) 1 >>= _) _ _ s from wpAny_bind (wpAny_field gi di (x:=.int i 0) rfl ?_))
  refine (show wpAny _ _ (seqItems? (.ref t) >>= _) _ _ s from wpAny_bind (wpAny_seqItems gt dt ?_))
  dsimp only
  rw [Int.toNat_natCast,h3]
  refine wpAny_bind (wpAny_rule (wpAny_bind (wpAny_setField gi di (by simp) ?_)))
  refine (show wpAny _ _ (newExc (.type "StopIteration") [] >>= _) _ _ _ from wpAny_bind ?_)
  simp only [newExc,newTuple]
  refine wpAny_bind (wpAny_newObj_type (wpAny_bind (m:=firstArgMember _ _) (wpAny_of_eq (a:=Value.none) (by first | rfl | (simp only [firstArgMember]; rfl)) (wpAny_newObj_type ?_ (by size_fits)))) (by size_fits))
  simp only [raiseNew]
  refine wpAny_bind (wpAny_handled ?_) -- here
  rw [show A.in1.handled=none from hh] -- here
  exact wpAny_bind (wpAny_pure (wpAny_throw (q _ _ (((Heap.SameBut.update ..).extBut.push _).push _) ⟨_,Heap.get?_push_size _ rfl,rfl⟩)))
theorem Jq {k:Bool} {it a:Addr} {i:Nat} {xs:Array Value} {x:Value} {Q:Value→Shared→Prop} (h1:Eo k s.heap it a i) (h2:Ca k s.heap a xs) (h3:xs[i]? = some x)
    (q:∀ h',Eo k h' it a (i+1)→Heap.SameBut it s.heap h'→Q x { s with heap:=h' }):wpAny (model prog w) A (Builtin.SmallTypes.nextOf (.ref it)) Q E s:=by
  cases k with
  | true=>exact wpAny_nextOf_list_item h1 h2 h3 q
  | false=>exact nextT h1 h2 h3 q
theorem Ew {k:Bool} {it a:Addr} {i:Nat} {xs:Array Value} {Q:Value→Shared→Prop} (hh:A.handled=none) (h1:Eo k s.heap it a i) (h2:Ca k s.heap a xs) (h3:xs[i]? = none)
    (q:∀ h' e,Heap.ExtBut it s.heap h'→(∃ o,h'.get? e=some o∧o.cls=.type "StopIteration")→E (.ref e) { s with heap:=h' }):wpAny (model prog w) A (Builtin.SmallTypes.nextOf (.ref it)) Q E s:=by
  cases k with
  | true=>exact wpAny_nextOf_list_end hh h1 h2 h3 q
  | false=>exact Vz hh h1 h2 h3 q
end
structure Kg (h:Heap) (z ti to' i1 i2:Addr) (f:Value):Prop where
  zip:IsZip h z ti to' f
  its:IsPair h ti (.ref i1) (.ref i2)
  kept:∃ a b,IsPair h to' a b
structure Far (z ti to' i1 i2:Addr):Prop where
  nd:[z,ti,to',i1,i2].Nodup
theorem Far.all {z ti to' i1 i2:Addr} (f:Far z ti to' i1 i2):ti≠z∧to'≠z∧i1≠z∧i2≠z∧ti≠to'∧ti≠i1∧ti≠i2∧to'≠i1∧to'≠i2∧i1≠i2:=by
  have:=f.nd
  simp only [List.nodup_cons,List.mem_cons,List.not_mem_nil,or_false,not_or] at this
  obtain ⟨⟨a,b,c,d⟩,⟨e,f,g⟩,⟨h,i⟩,j,_⟩:=this
  exact ⟨Ne.symm a,Ne.symm b,Ne.symm c,Ne.symm d,e,f,g,h,i,j⟩
noncomputable def V3 (z to' i1 i2:Addr) (h h':Heap):Prop:=∀ c o,c≠z→c≠to'→c≠i1→c≠i2→h.get? c=some o→h'.get? c=some o
noncomputable section
variable {prog:Program} {w:World} {A:Around} {E:Value→Shared→Prop} {s:Shared}
theorem Xn {k1 k2:Bool} {z ti to' i1 i2 a1 a2:Addr} {j1 j2:Nat} {xs ys:Array Value} {x y:Value} {Q:Value→Shared→Prop} (D:Far z ti to' i1 i2) (Z:Kg s.heap z ti to' i1 i2 .none)
    (h1:Eo k1 s.heap i1 a1 j1) (h2:Eo k2 s.heap i2 a2 j2) (r1:Ca k1 s.heap a1 xs) (r2:Ca k2 s.heap a2 ys) (n2:a2≠z∧a2≠to'∧a2≠i1∧a2≠i2) (n1:a1≠z) (hx:xs[j1]? = some x) (hy:ys[j2]? = some y)
    (q:∀ h',Kg h' z ti to' i1 i2 (rawInt s.heap.objs.size)→Eo k1 h' i1 a1 (j1+1)→Eo k2 h' i2 a2 (j2+1)→IsPair h' s.heap.objs.size x y→V3 z to' i1 i2 s.heap h'→Q (.ref s.heap.objs.size) { s with heap:=h' }) :
    wpAny (model prog w) A (Builtin.«zip.__next__» ⟨[.ref z],[]⟩) (fun fin s'=>∃ v,fin=.done (.ret v)∧Q v s') E s:=by -- here
  obtain ⟨hz,hI,a,b,hO⟩:=Z
  obtain ⟨d1,d2,d3,d4,d5,d6,d7,d8,d9,d10⟩:=D.all
  refine (show wpAny _ _ (field (.ref z) 2 >>= _) _ _ _ from wpAny_bind (wpAny_field hz rfl (x:=.bool false) rfl ?_))
  refine (show wpAny _ _ (field (.ref z) 3 >>= _) _ _ _ from wpAny_bind (wpAny_field hz rfl (x:=.ref ti) rfl (wpAny_bind (wpAny_seqItems hI rfl ?_))))
  refine (show wpAny _ _ (Builtin.SmallTypes.ownedTupleIsFree (.ref z) >>= _) _ _ _ from wpAny_bind ?_)
  unfold Builtin.SmallTypes.ownedTupleIsFree -- here
  refine wpAny_bind (wpAny_field hz rfl (x:=.none) rfl (wpAny_pure ?_)) -- here
  dsimp only
  rw [if_pos rfl]
  refine wpAny_bind (wpAny_rule (wpAny_bind (wpAny_field hz rfl (x:=.ref to') rfl (wpAny_bind (wpAny_setField_rec hz (by simp) fun g1 z1 s1=>wpAny_bind ?_)))))
  have z1:IsZip g1 z ti to' .ellipsis:=z1
  simp only [List.zipIdx_cons,List.zipIdx_nil,List.forIn_cons,List.forIn_nil] -- here
  refine wpAny_bind (wpAny_bind (wpAny_onRaise (show wpAny _ _ (Builtin.SmallTypes.nextOf (.ref i1) >>= _) _ _ _ from wpAny_bind (Jq (h1.to fun o e=>s1.extBut _ _ d3 e) (r1.to fun o e=>s1.extBut _ _ n1 e) hx fun g2 t2 s2=>wpAny_pure ?_))))
  have o2:IsPair g2 to' a b:=s2.extBut _ _ d8 (s1.extBut _ _ d2 hO)
  refine wpAny_bind (wpAny_seqItems o2 rfl (wpAny_bind (wpAny_updateSeq_pair o2 fun g3 o3 s3=>wpAny_bind (wpAny_letGo (wpAny_pure ?_)))))
  have o3:IsPair g3 to' x b:=o3
  have e3:∀ c o,c≠z→c≠i1→c≠to'→s.heap.get? c=some o→g3.get? c=some o:=fun c o c1 c2 c3 e=>s3.extBut _ _ c3 (s2.extBut _ _ c2 (s1.extBut _ _ c1 e))
  refine wpAny_bind (wpAny_bind (wpAny_onRaise (show wpAny _ _ (Builtin.SmallTypes.nextOf (.ref i2) >>= _) _ _ _ from wpAny_bind (Jq (h2.to fun o e=>e3 _ o d4 (Ne.symm d10) (Ne.symm d9) e) (r2.to fun o e=>e3 _ o n2.1 n2.2.2.1 n2.2.1 e) hy fun g4 t4 s4=>wpAny_pure ?_))))
  have o4:IsPair g4 to' x b:=s4.extBut _ _ d9 o3
  refine wpAny_bind (wpAny_seqItems o4 rfl (wpAny_bind (wpAny_updateSeq_pair o4 fun g5 o5 s5=>wpAny_bind (wpAny_letGo (wpAny_pure (wpAny_pure ?_))))))
  have o5:IsPair g5 to' x y:=o5
  have sz:g5.objs.size=s.heap.objs.size:=by rw [s5.1,s4.1,s3.1,s2.1,s1.1]
  have z5:IsZip g5 z ti to' .ellipsis:=s5.extBut _ _ (Ne.symm d2) (s4.extBut _ _ (Ne.symm d4) (s3.extBut _ _ (Ne.symm d2) (s2.extBut _ _ (Ne.symm d3) z1)))
  have t5:Eo k1 g5 i1 a1 (j1+1):=t2.to fun o e=>s5.extBut _ _ (Ne.symm d8) (s4.extBut _ _ d10 (s3.extBut _ _ (Ne.symm d8) e))
  have u5:Eo k2 g5 i2 a2 (j2+1):=t4.to fun o e=>s5.extBut _ _ (Ne.symm d9) e
  refine wpAny_bind (wpAny_seqItems o5 rfl (wpAny_bind (wpAny_newTuple ?_)))
  refine (show wpAny _ _ (Builtin.SmallTypes.ownedTupleHandOut (.ref z) (.ref g5.objs.size) >>= _) _ _ _ from wpAny_bind ?_)
  unfold Builtin.SmallTypes.ownedTupleHandOut -- here
  have z6:IsZip (g5.push { cls:=.type "tuple",data:=.seq #[x,y] }) z ti to' .ellipsis:=Heap.get?_push_of_some _ z5
  refine wpAny_bind (wpAny_setField_rec z6 (by simp) fun g7 z7 s7=>?_)
  have z7:IsZip g7 z ti to' (rawInt g5.objs.size):=z7
  refine wpAny_setField_rec z7 (by simp) fun g8 z8 s8=>wpAny_pure ⟨_,rfl,?_⟩
  have z8:IsZip g8 z ti to' (rawInt g5.objs.size):=z8
  have e8:∀ c o,c≠z→g5.get? c=some o→g8.get? c=some o:=fun c o c1 e=>s8.extBut _ _ c1 (s7.extBut _ _ c1 (Heap.get?_push_of_some _ e))
  have p8:IsPair g8 g5.objs.size x y:=s8.extBut _ _ (Nat.ne_of_gt (Heap.lt_size z5)) (s7.extBut _ _ (Nat.ne_of_gt (Heap.lt_size z5)) (Heap.get?_push_size _ rfl))
  have all:∀ c o,c≠z→c≠to'→c≠i1→c≠i2→s.heap.get? c=some o→g8.get? c=some o:=fun c o c1 c2 c3 c4 e=>e8 c o c1 (s5.extBut _ _ c2 (s4.extBut _ _ c4 (e3 c o c1 c3 c2 e)))
  rw [sz] at z8 p8
  show Q (.ref g5.objs.size) _
  rw [sz]
  exact q g8 ⟨z8,all _ _ d1 d5 d6 d7 hI,x,y,e8 _ _ d2 o5⟩ (t5.to fun o e=>e8 _ o d3 e) (u5.to fun o e=>e8 _ o d4 e) p8 all
theorem Yd {k1 k2:Bool} {z ti to' i1 i2 a1 a2:Addr} {j1 j2:Nat} {xs ys:Array Value} {Q:PySem.Fin→Shared→Prop} (hh:A.handled=none) (D:Far z ti to' i1 i2) (Z:Kg s.heap z ti to' i1 i2 .none)
    (h1:Eo k1 s.heap i1 a1 j1) (h2:Eo k2 s.heap i2 a2 j2) (r1:Ca k1 s.heap a1 xs) (r2:Ca k2 s.heap a2 ys) (n2:a2≠z∧a2≠to'∧a2≠i1∧a2≠i2) (n1:a1≠z) (hend:xs[j1]? = none∨ys[j2]? = none)
    (q:∀ h' e,V3 z to' i1 i2 s.heap h'→(∃ o,h'.get? e=some o∧o.cls=.type "StopIteration")→E (.ref e) { s with heap:=h' }) :
    wpAny (model prog w) A (Builtin.«zip.__next__» ⟨[.ref z],[]⟩) Q E s:=by -- here
  obtain ⟨hz,hI,a,b,hO⟩:=Z
  obtain ⟨d1,d2,d3,d4,d5,d6,d7,d8,d9,d10⟩:=D.all
  refine (show wpAny _ _ (field (.ref z) 2 >>= _) _ _ _ from wpAny_bind (wpAny_field hz rfl (x:=.bool false) rfl ?_))
  refine (show wpAny _ _ (field (.ref z) 3 >>= _) _ _ _ from wpAny_bind (wpAny_field hz rfl (x:=.ref ti) rfl (wpAny_bind (wpAny_seqItems hI rfl ?_))))
  refine (show wpAny _ _ (Builtin.SmallTypes.ownedTupleIsFree (.ref z) >>= _) _ _ _ from wpAny_bind ?_)
  unfold Builtin.SmallTypes.ownedTupleIsFree -- here
  refine wpAny_bind (wpAny_field hz rfl (x:=.none) rfl (wpAny_pure ?_)) -- here
  dsimp only
  rw [if_pos rfl]
  refine wpAny_bind (wpAny_rule (wpAny_bind (wpAny_field hz rfl (x:=.ref to') rfl (wpAny_bind (wpAny_setField_rec hz (by simp) fun g1 z1 s1=>wpAny_bind ?_)))))
  have z1:IsZip g1 z ti to' .ellipsis:=z1
  simp only [List.zipIdx_cons,List.zipIdx_nil,List.forIn_cons,List.forIn_nil] -- here
  have fin:∀ (g:Heap) (e:Addr) (zg:IsZip g z ti to' .ellipsis) (he:∃ o,g.get? e=some o∧o.cls=.type "StopIteration") (kg:V3 z to' i1 i2 s.heap g),wpAny (model prog w) A (setField (.ref z) 0 .none) (fun _ s'=>E (.ref e) s') E { s with heap:=g }:=fun g e zg ⟨o,ho,hc⟩ kg=>by
    have ne:e≠z:=fun x=>by subst x; rw [zg] at ho; cases ho; simp at hc
    exact wpAny_setField_rec zg (by simp) fun g' _ s'=>q g' e (fun c o c1 c2 c3 c4 x=>s'.extBut _ _ c1 (kg c o c1 c2 c3 c4 x)) ⟨o,s'.extBut _ _ ne ho,hc⟩
  cases hx:xs[j1]? with
  | none =>
    refine wpAny_bind (wpAny_bind (wpAny_onRaise (show wpAny _ _ (Builtin.SmallTypes.nextOf (.ref i1) >>= _) _ _ _ from wpAny_bind (Ew hh (h1.to fun o e=>s1.extBut _ _ d3 e) (r1.to fun o e=>s1.extBut _ _ n1 e) hx fun g2 e s2 he=>?_))))
    exact fin g2 e (s2 _ _ (Ne.symm d3) z1) he fun c o c1 _ c3 _ x=>s2 _ _ c3 (s1.extBut _ _ c1 x)
  | some x =>
    have hy:ys[j2]? = none:=hend.resolve_left fun h=>by rw [hx] at h; cases h
    refine wpAny_bind (wpAny_bind (wpAny_onRaise (show wpAny _ _ (Builtin.SmallTypes.nextOf (.ref i1) >>= _) _ _ _ from wpAny_bind (Jq (h1.to fun o e=>s1.extBut _ _ d3 e) (r1.to fun o e=>s1.extBut _ _ n1 e) hx fun g2 t2 s2=>wpAny_pure ?_))))
    have o2:IsPair g2 to' a b:=s2.extBut _ _ d8 (s1.extBut _ _ d2 hO)
    refine wpAny_bind (wpAny_seqItems o2 rfl (wpAny_bind (wpAny_updateSeq_pair o2 fun g3 o3 s3=>wpAny_bind (wpAny_letGo (wpAny_pure ?_)))))
    have e3:∀ c o,c≠z→c≠i1→c≠to'→s.heap.get? c=some o→g3.get? c=some o:=fun c o c1 c2 c3 e=>s3.extBut _ _ c3 (s2.extBut _ _ c2 (s1.extBut _ _ c1 e))
    refine wpAny_bind (wpAny_bind (wpAny_onRaise (show wpAny _ _ (Builtin.SmallTypes.nextOf (.ref i2) >>= _) _ _ _ from wpAny_bind (Ew hh (h2.to fun o e=>e3 _ o d4 (Ne.symm d10) (Ne.symm d9) e) (r2.to fun o e=>e3 _ o n2.1 n2.2.2.1 n2.2.1 e) hy fun g4 e s4 he=>?_))))
    exact fin g4 e (s4 _ _ (Ne.symm d4) (s3.extBut _ _ (Ne.symm d2) (s2.extBut _ _ (Ne.symm d3) z1))) he fun c o c1 c2 c3 c4 x=>s4 _ _ c4 (e3 c o c1 c3 c2 x)
theorem Yr {k1 k2:Bool} {z ti to' i1 i2 a1 a2:Addr} {j1 j2:Nat} {xs ys:Array Value} {x y:Value} {Q:Option Value→Shared→Prop} (D:Far z ti to' i1 i2) (Z:Kg s.heap z ti to' i1 i2 .none)
    (h1:Eo k1 s.heap i1 a1 j1) (h2:Eo k2 s.heap i2 a2 j2) (r1:Ca k1 s.heap a1 xs) (r2:Ca k2 s.heap a2 ys) (n2:a2≠z∧a2≠to'∧a2≠i1∧a2≠i2) (n1:a1≠z) (hx:xs[j1]? = some x) (hy:ys[j2]? = some y)
    (q:∀ h',Kg h' z ti to' i1 i2 (rawInt s.heap.objs.size)→Eo k1 h' i1 a1 (j1+1)→Eo k2 h' i2 a2 (j2+1)→IsPair h' s.heap.objs.size x y→V3 z to' i1 i2 s.heap h'→Q (some (.ref s.heap.objs.size)) { s with heap:=h' }) :
    wpAny (model prog w) A (pyNext (.ref z)) Q E s:=by -- here
  have ty:s.TypeIs (.ref z) "zip" := ⟨_,Z.zip,rfl⟩
  unfold pyNext
  exact wpAny_bind (wpAny_attempt (wpAny_callSpecial?_slot (name:=Str.ofString "__next__") ty F.slot_zip_next (wpAny_call_entry F.slot_zip_next ty F.entry_zip_next
    (Xn D Z h1 h2 r1 r2 n2 n1 hx hy fun h' a b c d e=>wpAny_pure (q h' a b c d e)) (F.args_zip_next_1 _))))
theorem Yh {k1 k2:Bool} {z ti to' i1 i2 a1 a2:Addr} {j1 j2:Nat} {xs ys:Array Value} {Q:Option Value→Shared→Prop} (hh:A.handled=none) (D:Far z ti to' i1 i2) (Z:Kg s.heap z ti to' i1 i2 .none)
    (h1:Eo k1 s.heap i1 a1 j1) (h2:Eo k2 s.heap i2 a2 j2) (r1:Ca k1 s.heap a1 xs) (r2:Ca k2 s.heap a2 ys) (n2:a2≠z∧a2≠to'∧a2≠i1∧a2≠i2) (n1:a1≠z) (hend:xs[j1]? = none∨ys[j2]? = none)
    (q:∀ h',V3 z to' i1 i2 s.heap h'→Q none { s with heap:=h' }):wpAny (model prog w) A (pyNext (.ref z)) Q E s:=by
  have ty:s.TypeIs (.ref z) "zip" := ⟨_,Z.zip,rfl⟩
  unfold pyNext
  refine wpAny_bind (wpAny_attempt (wpAny_callSpecial?_slot (name:=Str.ofString "__next__") ty F.slot_zip_next (wpAny_call_entry F.slot_zip_next ty F.entry_zip_next
    (Yd hh D Z h1 h2 r1 r2 n2 n1 hend fun h' e kp he=>?_) (F.args_zip_next_1 _))))
  obtain ⟨o,ho,hc⟩:=he
  exact wpAny_bind (wpAny_isInstance (T := "StopIteration") (b:=true) ⟨o,ho,hc⟩ isSubtype_stop (wpAny_pure (q _ kp)))
end
noncomputable abbrev V9 (k:Bool) (a:Addr):Obj:={ cls:=.type (if k then "list_iterator" else "tuple_iterator"),data:=.fields #[.ref a,.int 0 0] }
noncomputable abbrev zh1 (h:Heap) (k1:Bool) (a1:Addr):Heap:=h.push (V9 k1 a1)
noncomputable abbrev zh2 (h:Heap) (k1 k2:Bool) (a1 a2:Addr):Heap:=(zh1 h k1 a1).push (V9 k2 a2)
noncomputable abbrev zh3 (h:Heap) (k1 k2:Bool) (a1 a2:Addr):Heap:=(zh2 h k1 k2 a1 a2).push { cls:=.type "tuple",data:=.seq #[.ref h.objs.size,.ref (zh1 h k1 a1).objs.size] }
noncomputable abbrev zh4 (h:Heap) (k1 k2:Bool) (a1 a2:Addr):Heap:=(zh3 h k1 k2 a1 a2).push { cls:=.type "tuple",data:=.seq #[.none,.none] }
noncomputable abbrev zh5 (h:Heap) (k1 k2:Bool) (a1 a2:Addr):Heap:=(zh4 h k1 k2 a1 a2).push { cls:=.type "zip",data:=.fields #[.none,.bool false,.bool false,.ref (zh2 h k1 k2 a1 a2).objs.size,.ref (zh3 h k1 k2 a1 a2).objs.size] }
set_option maxHeartbeats 4000000 in
theorem Nh (a1 a2:Addr) (xs ys:Array Value):Meets (Builtin.«zip.__new__» ⟨[.type "zip",.ref a1,.ref a2],[]⟩) (fun _ R s=>s.heap.IsTuple a1 xs∧s.heap.IsTuple a2 ys ∧
      R (.ok (.ret (.ref (zh4 s.heap false false a1 a2).objs.size))) { s with heap:=zh5 s.heap false false a1 a2 }) :=
  .of_wp fun prog w A R s z9=>by
    obtain ⟨r1,r2,fin⟩:=z9
    obtain ⟨hp,g,d,tk,os⟩:=s -- here
    have hsub:=sub_zip
    have q1:Heap.IsTuple (Shared.heap ⟨hp,g,d,tk,os⟩) a1 xs:=r1
    have q2:Heap.IsTuple (Shared.heap ⟨hp.push { cls:=.type "tuple_iterator",data:=.fields #[.ref a1,.int 0 0] },g,d,tk,os⟩) a2 ys:=Heap.IsTuple.push r2 _
    wp_walk using wpAny_pyIter_tuple q1,wpAny_pyIter_tuple q2
    exact ⟨_,rfl,fin⟩
set_option maxHeartbeats 4000000 in
theorem Nk (a1 a2:Addr) (xs ys:Array Value):Meets (Builtin.«zip.__new__» ⟨[.type "zip",.ref a1,.ref a2],[]⟩) (fun _ R s=>s.heap.IsTuple a1 xs∧s.heap.IsList a2 ys ∧
      R (.ok (.ret (.ref (zh4 s.heap false true a1 a2).objs.size))) { s with heap:=zh5 s.heap false true a1 a2 }) :=
  .of_wp fun prog w A R s z9=>by
    obtain ⟨r1,r2,fin⟩:=z9
    obtain ⟨hp,g,d,tk,os⟩:=s -- here
    have hsub:=sub_zip
    have q1:Heap.IsTuple (Shared.heap ⟨hp,g,d,tk,os⟩) a1 xs:=r1
    have q2:Heap.IsList (Shared.heap ⟨hp.push { cls:=.type "tuple_iterator",data:=.fields #[.ref a1,.int 0 0] },g,d,tk,os⟩) a2 ys:=Heap.IsList.push r2 _
    wp_walk using wpAny_pyIter_tuple q1,wpAny_pyIter_list q2
    exact ⟨_,rfl,fin⟩
set_option maxHeartbeats 4000000 in
theorem Oi (a1 a2:Addr) (xs ys:Array Value):Meets (Builtin.«zip.__new__» ⟨[.type "zip",.ref a1,.ref a2],[]⟩) (fun _ R s=>s.heap.IsList a1 xs∧s.heap.IsTuple a2 ys ∧
      R (.ok (.ret (.ref (zh4 s.heap true false a1 a2).objs.size))) { s with heap:=zh5 s.heap true false a1 a2 }) :=
  .of_wp fun prog w A R s z9=>by
    obtain ⟨r1,r2,fin⟩:=z9
    obtain ⟨hp,g,d,tk,os⟩:=s -- here
    have hsub:=sub_zip
    have q1:Heap.IsList (Shared.heap ⟨hp,g,d,tk,os⟩) a1 xs:=r1
    have q2:Heap.IsTuple (Shared.heap ⟨hp.push { cls:=.type "list_iterator",data:=.fields #[.ref a1,.int 0 0] },g,d,tk,os⟩) a2 ys:=Heap.IsTuple.push r2 _
    wp_walk using wpAny_pyIter_list q1,wpAny_pyIter_tuple q2
    exact ⟨_,rfl,fin⟩
set_option maxHeartbeats 4000000 in
theorem Mx (a1 a2:Addr) (xs ys:Array Value):Meets (Builtin.«zip.__new__» ⟨[.type "zip",.ref a1,.ref a2],[]⟩) (fun _ R s=>s.heap.IsList a1 xs∧s.heap.IsList a2 ys ∧
      R (.ok (.ret (.ref (zh4 s.heap true true a1 a2).objs.size))) { s with heap:=zh5 s.heap true true a1 a2 }) :=
  .of_wp fun prog w A R s z9=>by
    obtain ⟨r1,r2,fin⟩:=z9
    obtain ⟨hp,g,d,tk,os⟩:=s -- here
    have hsub:=sub_zip
    have q1:Heap.IsList (Shared.heap ⟨hp,g,d,tk,os⟩) a1 xs:=r1
    have q2:Heap.IsList (Shared.heap ⟨hp.push { cls:=.type "list_iterator",data:=.fields #[.ref a1,.int 0 0] },g,d,tk,os⟩) a2 ys:=Heap.IsList.push r2 _
    wp_walk using wpAny_pyIter_list q1,wpAny_pyIter_list q2
    exact ⟨_,rfl,fin⟩
theorem Xr (k1 k2:Bool) (a1 a2:Addr) (xs ys:Array Value):Meets (Builtin.«zip.__new__» ⟨[.type "zip",.ref a1,.ref a2],[]⟩) (fun _ R s=>Ca k1 s.heap a1 xs∧Ca k2 s.heap a2 ys ∧
      R (.ok (.ret (.ref (zh4 s.heap k1 k2 a1 a2).objs.size))) { s with heap:=zh5 s.heap k1 k2 a1 a2 }):=by
  cases k1 <;> cases k2
  · exact Nh a1 a2 xs ys
  · exact Nk a1 a2 xs ys
  · exact Oi a1 a2 xs ys
  · exact Mx a1 a2 xs ys
theorem Qe {k:Bool} {h:Heap} {p a:Addr} (e:h.get? p=some (V9 k a)):Eo k h p a 0:=by
  cases k <;> exact ⟨_,e,rfl,rfl⟩
noncomputable section
variable {prog:Program} {w:World} {A:Around} {E:Value→Shared→Prop} {s:Shared}
theorem Xy {k1 k2:Bool} {a1 a2:Addr} {xs ys:Array Value} {Q:Value→Shared→Prop} (r1:Ca k1 s.heap a1 xs) (r2:Ca k2 s.heap a2 ys)
    (q:∀ h',Kg h' (s.heap.objs.size+4) (s.heap.objs.size+2) (s.heap.objs.size+3) s.heap.objs.size (s.heap.objs.size+1) .none→Eo k1 h' s.heap.objs.size a1 0→Eo k2 h' (s.heap.objs.size+1) a2 0 →
      (∀ c o,s.heap.get? c=some o→h'.get? c=some o)→Q (.ref (s.heap.objs.size+4)) { s with heap:=h' }):wpAny (model prog w) A (call (.type "zip") [.ref a1,.ref a2]) Q E s:=by
  refine callType_new F.called_zip (by decide) (F.typeCall_zip_2 _ _) (F.newCall_zip_2 _ _) (fun obj=>F.args_object_init_3 obj _ _) F.entry_zip_new (Xr k1 k2 a1 a2 xs ys) ⟨r1,r2,?_⟩
  have y1:(zh1 s.heap k1 a1).objs.size=s.heap.objs.size+1:=Heap.size_push ..
  have y2:(zh2 s.heap k1 k2 a1 a2).objs.size=s.heap.objs.size+2:=by rw [Heap.size_push,y1]
  have y3:(zh3 s.heap k1 k2 a1 a2).objs.size=s.heap.objs.size+3:=by rw [Heap.size_push,y2]
  have y4:(zh4 s.heap k1 k2 a1 a2).objs.size=s.heap.objs.size+4:=by rw [Heap.size_push,y3]
  have up:∀ {h:Heap} {o:Obj} {c:Addr} {u:Obj},h.get? c=some u→(h.push o).get? c=some u:=fun e=>Heap.get?_push_of_some _ e
  have g5:(zh5 s.heap k1 k2 a1 a2).get? (zh4 s.heap k1 k2 a1 a2).objs.size=some _:=Heap.get?_push_size _ rfl
  have g4:(zh5 s.heap k1 k2 a1 a2).get? (zh3 s.heap k1 k2 a1 a2).objs.size=some _:=up (Heap.get?_push_size _ rfl)
  have g3:(zh5 s.heap k1 k2 a1 a2).get? (zh2 s.heap k1 k2 a1 a2).objs.size=some _:=up (up (Heap.get?_push_size _ rfl))
  have g2:(zh5 s.heap k1 k2 a1 a2).get? (zh1 s.heap k1 a1).objs.size=some (V9 k2 a2):=up (up (up (Heap.get?_push_size _ rfl)))
  have g1:(zh5 s.heap k1 k2 a1 a2).get? s.heap.objs.size=some (V9 k1 a1):=up (up (up (up (Heap.get?_push_size _ rfl))))
  show _∧_
  rw [y2,y3,y4] at g5
  rw [y1,y2] at g3
  rw [y3] at g4
  rw [y1] at g2
  rw [y4]
  exact ⟨⟨_,g5,rfl⟩,q _ ⟨g5,g3,_,_,g4⟩ (Qe g1) (Qe g2) fun c o x=>up (up (up (up (up x))))⟩
end
end C
end
noncomputable section
set_option linter.all false
set_option maxRecDepth 100000
set_option maxHeartbeats 4000002
set_option autoImplicit false
namespace C
open PySem PySem.Spec PyProof.Rows L2
theorem Inv.a1n {X:Cx} {pins:List (Addr × Obj)} {σ:L2.St} {H:Hp} {s:Shared} {h':Heap} {t':Nat} {ch:List Addr} {n:Addr} {o:HO} (I:L2.Inv X pins σ H s) (hch:∀ b∈ch,M8 X pins H b)
    (k:∀ b u,b∉ch→s.heap.get? b=some u→h'.get? b=some u) (hp:s.heap.objs.size≤n) (new:yq X.prog X.w (upd H n o) h' n o):L2.Inv X pins σ (upd H n o) { s with heap:=h',toks:=t' }:=by
  have fr:=I.hok.fresh hp
  have nn:∀ b u,s.heap.get? b=some u→b≠n:=fun b u e=>Nat.ne_of_lt (Nat.lt_of_lt_of_le (Heap.lt_size e) hp)
  have nch:∀ b u,H b=some u→b∉ch:=fun b u e z=>by rw [(hch b z).1] at e; cases e
  refine I.step (g':=s.gens) (d':=s.drawn) (ch:=ch) (fun b hb=>?_) (fun b u _ _ hc e _=>k b u hc e) (fun b u _ _ hc e _=>⟨u.slots,k b u hc e⟩) (fun b u _ e z=>by rw [nq (nn b u e)]; exact z)
    (fun b u hc e=>⟨u,k b u hc e⟩) (fun b xs e=>by rw [nq (um e fr)]; exact e) (fun b u xs e=>by rw [nq (um e fr)]; exact e) (fun b ps e=>⟨#[],by rw [nq (um e fr),e]; simp⟩) (fun m hm=>?_) (fun b u e=>?_) I.bare
  · obtain ⟨f0,f1,f2,f3,f4,f5⟩:=hch b hb
    exact ⟨f3,f1,f4,f5⟩
  · obtain ⟨ob,es,ep,ho,r⟩:=hm
    exact ⟨ob,es,ep,k _ ob (fun z=>(hch _ z).2.1 rfl) ho,r⟩
  · by_cases hb:b=n
    · subst hb; rw [ji] at e; cases e; exact new
    · rw [nq hb] at e
      refine (I.hok b u e).stay (fun c v hc q=>k c v ?_ q) (fun c q=>by rw [nq (um q fr)]; exact q) fun c xs q=>by rw [nq (um q fr)]; exact q
      rcases hc with rfl | hc
      · exact nch _ _ e
      · exact nch _ _ hc
theorem Inv.a1f {X:Cx} {pins:List (Addr × Obj)} {σ:L2.St} {H:Hp} {s:Shared} {h':Heap} {t':Nat} {ch:List Addr} (I:L2.Inv X pins σ H s) (hch:∀ b∈ch,M8 X pins H b)
    (k:∀ b u,b∉ch→s.heap.get? b=some u→h'.get? b=some u):L2.Inv X pins σ H { s with heap:=h',toks:=t' }:=by
  have nch:∀ b u,H b=some u→b∉ch:=fun b u e z=>by rw [(hch b z).1] at e; cases e
  refine I.step (g':=s.gens) (d':=s.drawn) (ch:=ch) (fun b hb=>?_) (fun b u _ _ hc e _=>k b u hc e) (fun b u _ _ hc e _=>⟨u.slots,k b u hc e⟩) (fun b u _ e z=>z)
    (fun b u hc e=>⟨u,k b u hc e⟩) (fun b xs e=>e) (fun b u xs e=>e) (fun b ps e=>⟨#[],by rw [e]; simp⟩) (fun m hm=>?_) (fun b u e=>?_) I.bare
  · obtain ⟨f0,f1,f2,f3,f4,f5⟩:=hch b hb
    exact ⟨f3,f1,f4,f5⟩
  · obtain ⟨ob,es,ep,ho,r⟩:=hm
    exact ⟨ob,es,ep,k _ ob (fun z=>(hch _ z).2.1 rfl) ho,r⟩
  · refine (I.hok b u e).stay (fun c v hc q=>k c v ?_ q) (fun c q=>q) fun c xs q=>q
    rcases hc with rfl | hc
    · exact nch _ _ e
    · exact nch _ _ hc
noncomputable def Sq:Bool→PySem.W.Frag→Hp→Addr→List V→Prop
  | true,K,H,a,xs=>SqL K H a xs
  | false,K,H,a,xs=>SqT K H a xs
noncomputable section
variable {X:Cx} {pins:List (Addr × Obj)} {σ:L2.St} {H:Hp} {s:Shared} {a:Addr} {xs ys:List V} {k:Bool}
theorem Sq.row (I:L2.Inv X pins σ H s) (h:Sq k X.K H a xs):∃ its:List Value,Vals xs its∧Ca k s.heap a its.toArray:=by
  cases k with
  | true=>obtain ⟨its,r,p,_⟩:=I.list h; exact ⟨its,r,p.isList⟩
  | false=>obtain ⟨its,r,p,_⟩:=I.tuple h; exact ⟨its,r,p⟩
theorem Sq.inj (I:L2.Inv X pins σ H s) (h:Sq k X.K H a xs) (h':Sq k X.K H a ys):xs=ys:=by
  cases k with
  | true=>exact I.Qx h h'
  | false=>exact I.Kd h h'
theorem Sq.far (I:L2.Inv X pins σ H s) {b:Addr} (h:Sq k X.K H a xs) (f:M8 X pins H b):a≠b:=by
  have held:∀ o,X.K.lookup a=some o→a≠b:=fun o e z=>by
    subst z
    have eb:=I.mod.kin a o e
    rcases f.2.2.2.1 with q | q
    · exact I.ok.noex a o eb q
    · exact absurd (Nat.lt_of_lt_of_le (Heap.lt_size (I.ok.bs a o eb).1) q) (Nat.lt_irrefl _)
  have there:∀ u,Rd H a u→a≠b:=fun u e z=>by
    subst z
    rcases e with e | ⟨o,e⟩ <;> rw [f.1] at e <;> cases e
  cases k with
  | true =>
    rcases h with h | ⟨o,_,_,e,_⟩
    · exact there _ h
    · exact held o e
  | false =>
    rcases h with h | ⟨o,_,_,e,_⟩
    · exact there _ h
    · exact held o e
end
noncomputable def Itz (K:PySem.W.Frag) (k1 k2:Bool) (a1 a2:Addr):It :=
  ⟨fun i H=>∃ xs ys x y,Sq k1 K H a1 xs∧Sq k2 K H a2 ys∧xs[i]? = some x∧ys[i]? = some y,
   fun i H v H'=>∃ p x y,H p=none∧v=.ref p∧H'=upd H p (.tup [x,y])∧(∀ xs,Sq k1 K H a1 xs→xs[i]? = some x)∧∀ ys,Sq k2 K H a2 ys→ys[i]? = some y,
   fun i H=>∃ xs ys,Sq k1 K H a1 xs∧Sq k2 K H a2 ys∧(xs.length≤i∨ys.length≤i)⟩
theorem Yp {P:Program} {w:World} {K:PySem.W.Frag} {elts:List Expr} {x1:Nat} {pos:Pos} {k1 k2:Bool} {a1 a2 z ti to' i1 i2:Addr} (D:Far z ti to' i1 i2) :
    Turn P w K (.Tuple elts x1 pos) (Itz K k1 k2 a1 a2) [z,ti,to',i1,i2] z (fun i h=>Kg h z ti to' i1 i2 .none∧Eo k1 h i1 a1 i∧Eo k2 h i2 a2 i) where
  mem:=by simp
  obj:=fun i h ⟨Z,t1,t2⟩ b hb=>by
    simp only [List.mem_cons,List.not_mem_nil,or_false] at hb -- here
    obtain ⟨zz,its,a,b,kp⟩:=Z
    rcases hb with rfl | rfl | rfl | rfl | rfl
    · exact ⟨_,zz,fun v q=>by cases q⟩
    · exact ⟨_,its,fun v q=>by cases q⟩
    · exact ⟨_,kp,fun v q=>by cases q⟩
    · exact t1.obj
    · exact t2.obj
  keep:=fun i h h' ⟨⟨zz,its,a,b,kp⟩,t1,t2⟩ e=>⟨⟨e z (by simp) _ zz,e ti (by simp) _ its,a,b,e to' (by simp) _ kp⟩,t1.to fun o q=>e i1 (by simp) o q,t2.to fun o q=>e i2 (by simp) o q⟩
  item:=by
    intro X hP hw hK hc i pins s σ H E I hf ⟨Z,t1,t2⟩ ⟨xs,ys,x,y,q1,q2,e1,e2⟩
    subst hP hw hK
    obtain ⟨its1,v1,r1⟩:=q1.row I
    obtain ⟨its2,v2,r2⟩:=q2.row I
    obtain ⟨u1,g1,ru1⟩:=v1.get e1
    obtain ⟨u2,g2,ru2⟩:=v2.get e2
    have f1:∀ b∈[z,ti,to',i1,i2],a1≠b:=fun b hb=>q1.far I (hf b hb)
    have f2:∀ b∈[z,ti,to',i1,i2],a2≠b:=fun b hb=>q2.far I (hf b hb)
    refine Yr D Z t1 t2 r1 r2 ⟨f2 z (by simp),f2 to' (by simp),f2 i1 (by simp),f2 i2 (by simp)⟩ (f1 z (by simp)) (by simpa using g1) (by simpa using g2) fun h' Z' t1' t2' hp kp=>?_
    refine ⟨_,rfl,wpAny_letOwnedTupleGo_zip (s:={ s with heap:=h' }) Z'.zip fun h2 z2 s2=>?_⟩
    obtain ⟨d1,d2,d3,d4,d5,d6,d7,d8,d9,d10⟩:=D.all
    have lt:∀ b∈[z,ti,to',i1,i2],s.heap.objs.size≠b:=fun b hb=>by
      have ob:∃ o,s.heap.get? b=some o:=by
        simp only [List.mem_cons,List.not_mem_nil,or_false] at hb -- here
        obtain ⟨zz,its,a,b',kp⟩:=Z
        rcases hb with rfl | rfl | rfl | rfl | rfl
        · exact ⟨_,zz⟩
        · exact ⟨_,its⟩
        · exact ⟨_,kp⟩
        · exact ⟨_,t1.obj.choose_spec.1⟩
        · exact ⟨_,t2.obj.choose_spec.1⟩
      obtain ⟨o,e⟩:=ob
      exact Nat.ne_of_gt (Heap.lt_size e)
    have pair:IsPair h2 s.heap.objs.size u1 u2:=s2.extBut _ _ (lt z (by simp)) hp
    have J:L2.Inv X pins σ (upd H s.heap.objs.size (.tup [x,y])) { s with heap:=h2,toks:=s.toks }:=Inv.a1n (ch:=[z,ti,to',i1,i2]) I hf (fun b u hb e=>by
      simp only [List.mem_cons,List.not_mem_nil,or_false,not_or] at hb
      exact s2.extBut _ _ hb.1 (kp b u hb.1 hb.2.2.1 hb.2.2.2.1 hb.2.2.2.2 e)) (Nat.le_refl _) ⟨by show 2≤sizeLine; rw [sizeLine_eq]; decide,[u1,u2],.cons ru1 (.cons ru2 .nil),⟨_,pair,rfl,rfl,0,rfl⟩⟩
    refine ⟨.ref s.heap.objs.size,_,J,rfl,⟨s.heap.objs.size,x,y,I.hok.fresh (Nat.le_refl _),rfl,rfl,fun xs' h=>by rw [h.inj I q1]; exact e1,fun ys' h=>by rw [h.inj I q2]; exact e2⟩,?_,fun b hb=>?_⟩
    · obtain ⟨_,its,a,b,kk⟩:=Z'
      exact ⟨⟨z2,s2.extBut _ _ d1 its,a,b,s2.extBut _ _ d2 kk⟩,t1'.to fun o q=>s2.extBut _ _ d3 q,t2'.to fun o q=>s2.extBut _ _ d4 q⟩
    · rw [nq (Ne.symm (lt b hb))]; exact (hf b hb).1
  done:=by
    intro X hP hw hK hc i pins s σ H E I hf ⟨Z,t1,t2⟩ ⟨xs,ys,q1,q2,e⟩
    subst hP hw hK
    obtain ⟨its1,v1,r1⟩:=q1.row I
    obtain ⟨its2,v2,r2⟩:=q2.row I
    have f1:∀ b∈[z,ti,to',i1,i2],a1≠b:=fun b hb=>q1.far I (hf b hb)
    have f2:∀ b∈[z,ti,to',i1,i2],a2≠b:=fun b hb=>q2.far I (hf b hb)
    refine Yh (I.ok.hd hc) D Z t1 t2 r1 r2 ⟨f2 z (by simp),f2 to' (by simp),f2 i1 (by simp),f2 i2 (by simp)⟩ (f1 z (by simp)) ?_ fun h' kp=>⟨rfl,Inv.a1f (t':=s.toks) (ch:=[z,ti,to',i1,i2]) I hf fun b u hb e=>?_⟩
    · have l1:=v1.length
      have l2:=v2.length
      rcases e with e | e
      · exact .inl (by simp; omega)
      · exact .inr (by simp; omega)
    · simp only [List.mem_cons,List.not_mem_nil,or_false,not_or] at hb
      exact kp b u hb.1 hb.2.2.1 hb.2.2.2.1 hb.2.2.2.2 e
  self:=fun _ _ _ _ _ ⟨Z,_⟩ h=>wpAny_pyIter_zip Z.zip h
theorem a0i (n:Nat):Far (n+4) (n+2) (n+3) n (n+1):=⟨by
  have h1:n+4≠n+2:=by omega
  have h2:n+4≠n+3:=by omega
  have h3:n+4≠n:=by omega
  have h4:n+4≠n+1:=by omega
  have h5:n+2≠n+3:=by omega
  have h6:n+2≠n:=by omega
  have h7:n+2≠n+1:=by omega
  have h8:n+3≠n:=by omega
  have h9:n+3≠n+1:=by omega
  have h10:n≠n+1:=by omega
  exact List.nodup_cons.mpr ⟨by simp only [List.mem_cons,List.not_mem_nil,or_false,not_or]; exact ⟨h1,h2,h3,h4⟩,List.nodup_cons.mpr ⟨by simp only [List.mem_cons,List.not_mem_nil,or_false,not_or]; exact ⟨h5,h6,h7⟩,List.nodup_cons.mpr ⟨by simp only [List.mem_cons,List.not_mem_nil,or_false,not_or]; exact ⟨h8,h9⟩,List.nodup_cons.mpr ⟨by simp only [List.mem_cons,List.not_mem_nil,or_false]; exact h10,List.nodup_cons.mpr ⟨by simp,.nil⟩⟩⟩⟩⟩⟩
noncomputable def iZp (K:PySem.W.Frag) (ta:TA):TI:=fun σ H R=>ta σ H fun vs H1=>∃ k1 k2 a1 a2 xs ys,vs=[.ref a1,.ref a2]∧Sq k1 K H1 a1 xs∧Sq k2 K H1 a2 ys∧R (Itz K k1 k2 a1 a2) H1
noncomputable section
variable {X:Cx} {B:Bas} {a b:Expr} {m m1 m2:M T} {pos p:Pos} {elts:List Expr} {x1:Nat} {tpos:Pos}
theorem a5y {ta:TA} (hg:Gl X "zip") (hm:X.mg "zip" = none) (ha:PA X [a,b] ta) (hs:starEach [a,b] X.env=[(false,eval a X.env),(false,eval b X.env)]:=by rfl) (hs2:starEach [b] X.env=[(false,eval b X.env)]:=by rfl) :
    PI X (.Tuple elts x1 tpos) (.Call (.Name "zip" p) [a,b] [] pos) (iZp X.K ta):=by
  intro pins s σ H R I h
  refine Call_ (Ly I hg hm boot_zip (PyProof.Rows.callWith_type1 (thn (ha pos pins s σ H _ I h) fun us s1 z0=>?_) (by rw [hs,hs2]) (by rw [hs2]; rfl)))
  obtain ⟨vs,H1,I1,r1,q1⟩:=z0
  obtain ⟨k1,k2,a1,a2,xs,ys,e,w1,w2,q⟩:=q1
  subst e
  cases r1 with
  | cons r rr =>
    cases rr with
    | cons r' rr =>
      cases rr
      cases r
      cases r'
      obtain ⟨its1,v1,r1⟩:=w1.row I1
      obtain ⟨its2,v2,r2⟩:=w2.row I1
      refine Xy r1 r2 fun h' Z t1 t2 kp=>wpAny_pyIter_zip Z.zip ?_
      have D:Far (s1.heap.objs.size+4) (s1.heap.objs.size+2) (s1.heap.objs.size+3) s1.heap.objs.size (s1.heap.objs.size+1):=a0i s1.heap.objs.size
      refine ⟨_,_,_,_,H1,rfl,I1.kept (t':=s1.toks) kp,Yp D,⟨Z,t1,t2⟩,fun b hb=>?_,q⟩
      have hle:s1.heap.objs.size≤b:=by
        simp only [List.mem_cons,List.not_mem_nil,or_false] at hb -- here
        rcases hb with rfl | rfl | rfl | rfl | rfl
        · exact Nat.le_add_right _ 4
        · exact Nat.le_add_right _ 2
        · exact Nat.le_add_right _ 3
        · exact Nat.le_refl _
        · exact Nat.le_add_right _ 1
      exact I1.a4j hle (I1.hok.fresh hle)
theorem Qi {ts:List T} {s s':Sta} (h:a2q m1 m2 s=some (ts,s')):∃ t u s1 xs ys,m1 s=some (t,s1)∧m2 s1=some (u,s')∧j6 t=some xs∧j6 u=some ys∧xs.length<lim∧ys.length<lim∧ts=a1l xs ys:=by
  unfold a2q at h
  split at h
  · rename_i t s1 e1
    split at h
    · rename_i u s2 e2
      split at h
      · rename_i xs ys e3 e4
        split at h
        · rename_i hl; cases h; exact ⟨t,u,s1,xs,ys,e1,e2,e3,e4,hl.1,hl.2,rfl⟩
        · cases h
      · cases h
    · cases h
  · cases h
theorem a3c:∀ st ts st',a2q m1 m2 st=some (ts,st')→ts.length≤sizeLine:=fun st ts st' e=>by
  obtain ⟨t,u,s1,xs,ys,_,_,_,_,l1,_,rfl⟩:=Qi e
  unfold a1l
  rw [List.length_map,List.length_zip]
  have:=vh
  omega
theorem Y0 {xs ys:List T} {i:Nat} {t:T} (h:(a1l xs ys)[i]? = some t):∃ x y,xs[i]? = some x∧ys[i]? = some y∧t=.tup [x,y]:=by
  unfold a1l at h
  rw [List.getElem?_map] at h
  obtain ⟨p,e,rfl⟩:=Option.map_eq_some_iff.mp h
  obtain ⟨e1,e2⟩:=List.getElem?_zip_eq_some.mp e
  exact ⟨p.1,p.2,e1,e2,rfl⟩
theorem U7 {K:PySem.W.Frag} {S:Hp} {as:List Addr} {v:V} {t:T} {xs:List T} (r:Rep K S as v t) (e:j6 t=some xs):∃ k a vs,v=.ref a∧Sq k K S a vs∧wu K S as vs xs∧(k=true∧t=.lst xs∨k=false∧t=.tup xs):=by
  cases r with
  | @lst a vs ts g1 g2=>simp only [j6] at e; cases e; exact ⟨true,a,vs,rfl,g1,g2,.inl ⟨rfl,rfl⟩⟩
  | @tup a vs ts g1 g2=>simp only [j6] at e; cases e; exact ⟨false,a,vs,rfl,g1,g2,.inr ⟨rfl,rfl⟩⟩
  | _=>simp only [j6,reduceCtorEq] at e
theorem Sq.mono {k:Bool} {K:PySem.W.Frag} {S H:Hp} {a:Addr} {vs:List V} (e:Same S H) (h:Sq k K S a vs):Sq k K H a vs:=by
  cases k with
  | true=>exact qp e h
  | false=>exact qt e h
theorem V2 {K:PySem.W.Frag} {S:Hp} {as:List Addr} {a:Addr} {t:T} {xs:List T} {k:Bool} (r:Rep K S as (.ref a) t) (e:k=true∧t=.lst xs∨k=false∧t=.tup xs):∃ vs,Sq k K S a vs∧wu K S as vs xs:=by
  rcases e with ⟨rfl,rfl⟩ | ⟨rfl,rfl⟩
  · cases r with
    | lst g1 g2=>exact ⟨_,g1,g2⟩
  · cases r with
    | tup g1 g2=>exact ⟨_,g1,g2⟩
theorem a6a (hg:Gl X "zip") (hm:X.mg "zip" = none) (h1:PE X a (tOf X.K B m1)) (h2:PE X b (tOf X.K B m2)) (hs:starEach [a,b] X.env=[(false,eval a X.env),(false,eval b X.env)]:=by rfl) (hs2:starEach [b] X.env=[(false,eval b X.env)]:=by rfl) :
    PI X (.Tuple elts x1 tpos) (.Call (.Name "zip" p) [a,b] [] pos) (iOf X.K B (a2q m1 m2)):=by
  intro pins s σ H R I hw
  refine a5y (ta:=Rt (tOf X.K B m1) (Rt (tOf X.K B m2) a4e)) hg hm (wj h1 (wj h2 Aw (by rw [hs2]; rfl)) (by rw [hs,hs2])) hs hs2 pins s σ H R I ?_
  obtain ⟨st,ps,S,as,Rl,ts,st',e,hz,q⟩:=hw
  obtain ⟨t,u,s1,xs,ys,e1,e2,e3,e4,l1,l2,rfl⟩:=Qi e
  refine ⟨st,ps,S,as,Rl,t,s1,e1,fun v H1 S1 as1 R1=>⟨s1,_,S1,as1,R1,u,st',e2,fun v2 H2 S2 as2 R2=>?_⟩⟩
  obtain ⟨k1,a1,vs1,rfl,w1,p1,c1⟩:=U7 R2.top2 e3
  obtain ⟨k2,a2,vs2,rfl,w2,p2,c2⟩:=U7 R2.top e4
  refine ⟨k1,k2,a1,a2,vs1,vs2,rfl,w1.mono R2.sub,w2.mono R2.sub,q _ H2 S2 as2 [(.ref a2,u),(.ref a1,t)] R2 fun S3 as3 H3 hp hh=>?_⟩
  obtain ⟨us1,y1,z1⟩:=V2 (hp (.ref a1,t) (by simp)) c1
  obtain ⟨us2,y2,z2⟩:=V2 (hp (.ref a2,u) (by simp)) c2
  refine ⟨fun i tt et=>?_,fun i hi=>⟨us1,us2,y1.mono hh,y2.mono hh,?_⟩⟩
  · obtain ⟨x,y,f1,f2,rfl⟩:=Y0 et
    obtain ⟨vx,gx,rx⟩:=z1.get f1
    obtain ⟨vy,gy,ry⟩:=z2.get f2
    refine ⟨⟨us1,us2,vx,vy,y1.mono hh,y2.mono hh,gx,gy⟩,fun v H' z0=>?_⟩
    obtain ⟨pp,x',y',hn,hv,hH,b1,b2⟩:=z0
    have c1:=b1 _ (y1.mono hh)
    have c2:=b2 _ (y2.mono hh)
    rw [gx] at c1; rw [gy] at c2
    cases c1; cases c2
    subst hv hH
    have x:=Ext.laid hh hn (.tup [vx,vy])
    exact ⟨_,x,.tup (SqT.of ji) (.cons (rx.mono x.s nol) (.cons (ry.mono x.s nol) .nil))⟩
  · rw [z1.length,z2.length]
    unfold a1l at hi
    rw [List.length_map,List.length_zip] at hi
    omega
end
end C
end
noncomputable section
set_option linter.all false
set_option maxRecDepth 100000
set_option maxHeartbeats 4000002
set_option autoImplicit false
namespace C
open PySem PySem.Spec PyProof.Rows L2
noncomputable section
variable {X:Cx}
variable {B:Bas} {o e:Expr} {m1 m2:M T} {apos cpos:Pos}
end
end C
end
noncomputable section
set_option linter.all false
set_option maxRecDepth 100000
set_option maxHeartbeats 4000002
set_option autoImplicit false
namespace C
open PySem PySem.Spec PyProof.Rows L2
theorem Ou (n d:Nat) (o:Option Int):sIx n d o=HT.sIx n d o:=by cases o <;> rfl
inductive oOf (K:PySem.W.Frag) (B:Bas) (m:M (Option Int)) (σ:L2.St) (H:Hp) (Q:Option Int→Hp→Prop):Prop
  | mk (st:Sta) (ps:List (V × T)) (S:Hp) (as:List Addr) (R:Rel K B st σ H ps S as) (o:Option Int) (st':Sta) (e:m st=some (o,st')) (q:∀ H' S' as',Rel K B st' σ H' ps S' as'→Q o H')
noncomputable section
variable {X:Cx} {B:Bas} {a e:Expr} {m:M T} {ml mh:M (Option Int)} {lo hi:Option Expr} {pos p2:Pos}
theorem a1x:PO X none (oOf X.K B a08):=fun pins s σ H Q I ⟨st,ps,S,as,R,o,st',e,q⟩=>a0z pins s σ H Q I (by cases e; exact q H S as R)
theorem Ml (h:PE X e (tOf X.K B m)):PO X (some e) (oOf X.K B (Fv m)):=fun pins s σ H Q I z9=>a1r h pins s σ H Q I (by
  obtain ⟨st,ps,S,as,R,o,st',eo,q⟩:=z9
  unfold Fv at eo
  split at eo
  · rename_i i s1 e1
    cases eo
    refine ⟨st,ps,S,as,R,.int i,_,e1,fun v H1 S1 as1 R1=>?_⟩
    cases R1.top
    exact ⟨i,rfl,q H1 S1 as1 R1.drop⟩
  · cases eo)
theorem Te {s s':Sta} {v:T} (h:Dh m ml mh s=some (v,s')):∃ t s1 l s2 u,m s=some (t,s1)∧ml s1=some (l,s2)∧mh s2=some (u,s')∧a3k l u t=some v:=by
  unfold Dh at h
  split at h
  · rename_i t s1 e1
    split at h
    · rename_i l s2 e2
      split at h
      · rename_i u s3 e3
        split at h
        · rename_i w e4; cases h; exact ⟨t,s1,l,s2,u,e1,e2,e3,e4⟩
        · cases h
      · cases h
    · cases h
  · cases h
theorem wu.takes {K:PySem.W.Frag} {S:Hp} {as:List Addr}:∀ (n:Nat) {vs:List V} {ts:List T},wu K S as vs ts→wu K S as (vs.take n) (ts.take n)
  | 0,_,_,_=>.nil
  | _+1,_,_,.nil=>.nil
  | n+1,_,_,.cons h r=>.cons h (wu.takes n r)
theorem Pu {K:PySem.W.Frag} {S:Hp} {as:List Addr} {vs:List V} {ts:List T} (r:wu K S as vs ts) (lo hi:Option Int):wu K S as (X6 vs lo hi) (a03 ts lo hi):=by
  unfold X6 a03
  rw [Ou,Ou,r.length]
  exact wu.takes _ (r.drop _)
theorem Pj (ha:PE X a (tOf X.K B m)) (hl:PO X lo (oOf X.K B ml)) (hh:PO X hi (oOf X.K B mh)):PE X (.Subscript a (.Slice lo hi none p2) pos) (tOf X.K B (Dh m ml mh)) :=
  (Yb (a0g.or a4h) ha hl hh).imp fun σ H Q z9=>by
    obtain ⟨st,ps,S,as,R,t,st',e,q⟩:=z9
    obtain ⟨t1,s1,l,s2,u,e1,e2,e3,e4⟩:=Te e
    refine ⟨st,ps,S,as,R,t1,s1,e1,fun v H1 S1 as1 R1=>⟨s1,_,S1,as1,R1,l,s2,e2,fun H2 S2 as2 R2=>⟨s2,_,S2,as2,R2,u,st',e3,fun H3 S3 as3 R3=>?_⟩⟩⟩
    have top:=R3.top
    cases top with
    | @lst b vs ts g1 g2 =>
      simp only [a3k] at e4; cases e4
      refine .inl ⟨b,vs,rfl,qp R3.sub g1,fun p hp=>?_⟩
      have x:=Ext.laid R3.sub hp (.lst (X6 vs l u))
      exact q _ _ _ _ ((R3.drop.ext x).push (.lst (SqL.of ji) ((Pu g2 l u).mono x.s nol)))
    | @tup b vs ts g1 g2 =>
      simp only [a3k] at e4
      split at e4
      · cases e4
      · rename_i hw
        cases e4
        refine .inr ⟨b,vs,rfl,qt R3.sub g1,?_,fun p hp=>?_⟩
        · rw [Ou,Ou,← g2.length] at hw; exact hw
        · have x:=Ext.laid R3.sub hp (.tup (X6 vs l u))
          exact q _ _ _ _ ((R3.drop.ext x).push (.tup (SqT.of ji) ((Pu g2 l u).mono x.s nol)))
    | _=>simp only [a3k,reduceCtorEq] at e4
end
noncomputable section
variable {prog:Program} {w:World} {A:Around} {E:Value→Shared→Prop} {s:Shared}
theorem Lr {sl:Addr} {t:Tok} {n:Nat} {Q:Int × Int × Nat→Shared→Prop} (hs:s.heap.IsSliceOf sl .none .none (.int (-1) t)) (h:Q ((n:Int) - 1,-1,n) s):wpAny (model prog w) A (Builtin.Slice.sliceApplied (.ref sl) (pure (n:Int))) Q E s:=by
  obtain ⟨os,g1,g2,g3⟩:=id hs
  have ea:Builtin.Slice.sliceAdjust none none (-1) (n:Int)=((n:Int) - 1,-1):=by
    unfold Builtin.Slice.sliceAdjust
    simp
  have en:Builtin.Slice.slicePlaces ((n:Int) - 1) (-1) (-1)=n:=by
    unfold Builtin.Slice.slicePlaces
    have h1:¬ ((-1:Int) > 0):=by decide -- here
    rw [if_neg h1]
    split
    · first
      | (simp; done)
      | (simp; omega)
    · omega
  unfold Builtin.Slice.sliceApplied Builtin.Slice.sliceFields
  refine wpAny_bind (wpAny_bind (wpAny_field g1 g3 (x:=.none) rfl (wpAny_bind (wpAny_field g1 g3 (x:=.none) rfl (wpAny_bind (wpAny_field g1 g3 (x:=.int (-1) t) rfl (wpAny_pure ?_)))))))
  refine wpAny_bind (HT.Bk (.int (-1) t) ?_)
  refine (show wpAny _ _ (if ((-1:Int)==0)=true then _ else _) _ _ s from ?_)
  rw [if_neg (by decide)]
  refine wpAny_bind (HT.Bk .none (wpAny_bind (HT.Bk .none (wpAny_bind (wpAny_pure ?_)))))
  refine (show wpAny _ _ (match Builtin.Slice.sliceAdjust none none (-1) (n:Int) with | (lo,hi)=>pure (lo,(-1:Int),Builtin.Slice.slicePlaces lo hi (-1))) _ _ s from ?_)
  rw [ea]
  refine (show wpAny _ _ (pure ((n:Int) - 1,(-1:Int),Builtin.Slice.slicePlaces ((n:Int) - 1) (-1) (-1))) _ _ s from ?_)
  rw [en]
  exact wpAny_pure h
theorem a5g {α β:Type} {f g:α→Option β}:∀ {l:List α},(∀ a∈l,f a=g a)→l.filterMap f=l.filterMap g
  | [],_=>rfl
  | a::l,h=>by rw [List.filterMap_cons,List.filterMap_cons,h a List.mem_cons_self,a5g fun b hb=>h b (List.mem_cons_of_mem _ hb)]
theorem Vo (xs:Array Value):((List.range xs.size).filterMap fun (m:Nat)=>xs[(((xs.size:Nat):Int) - 1+(m:Int) * (-1)).toNat]?)=xs.toList.reverse:=by
  have e:∀ m∈List.range xs.size,xs[(((xs.size:Nat):Int) - 1+(m:Int) * (-1)).toNat]? = some (xs.toList.reverse.getD m .none):=fun m hm=>by
    have hm:=List.mem_range.mp hm
    have e1:(((xs.size:Nat):Int) - 1+(m:Int) * (-1)).toNat=xs.size - 1 - m:=by omega
    rw [e1,List.getD_eq_getElem?_getD,List.getElem?_reverse (by rw [Array.length_toList]; exact hm),Array.getElem?_toList,Array.length_toList,Array.getElem?_eq_getElem (by omega)]
    rfl
  rw [a5g e]
  rw [show (fun (x:Nat)=>some (xs.toList.reverse.getD x Value.none))=some ∘ fun x=>xs.toList.reverse.getD x .none from rfl,List.filterMap_eq_map]
  apply List.ext_getElem
  · simp
  · intro i h1 h2
    simp [List.getD_eq_getElem?_getD,List.getElem?_eq_getElem h2]
theorem Rc {t sl:Addr} {k:Tok} {items:Array Value} {Q:Value→Shared→Prop} (ht:IsTup s.heap t items) (hs:s.heap.IsSliceOf sl .none .none (.int (-1) k))
    (h:Q (.ref s.heap.objs.size) { s with heap:=s.heap.push { cls:=.type "tuple",data:=.seq items.toList.reverse.toArray } }) (hsz:items.size≤sizeLine):wpAny (model prog w) A (getItem (.ref t) (.ref sl)) Q E s:=by
  have hz:sizeOk (.seq items.toList.reverse.toArray):=by
    show items.toList.reverse.toArray.size≤sizeLine
    rw [List.size_toArray,List.length_reverse,Array.length_toList]; exact hsz
  obtain ⟨os,g1,g2,g3⟩:=id hs
  have ty:s.TypeIs (.ref sl) "slice" := ⟨os,g1,g2⟩
  unfold getItem
  try with_reducible refine wpAny_holding ?_
  first | refine wpAny_bind (wpAny_pure ?_) | skip
  refine wpAny_bind (wpAny_sequenceKey ht.typeIs (by decide) (wpAny_bind (wpAny_callSpecial?_slot (name:=Str.ofString "__getitem__") ht.typeIs PyProof.Rows.slot_tuple_getitem
    (wpAny_call_entry PyProof.Rows.slot_tuple_getitem ht.typeIs entry_tuple_getitem ?_ (args_tuple_getitem _ _)))))
  refine (show wpAny _ _ (Builtin.Tuple.tupleItemsOf (.ref t) >>= _) _ _ s from wpAny_bind (tupleItemsOf_ ht (wpAny_bind (wpAny_typeOf ty ?_))))
  rw [if_pos (by decide)]
  refine wpAny_bind (Lr hs ?_)
  refine (show wpAny _ _ (if ((((items.size:Nat):Int) - 1)==0&&(-1:Int)==1&&items.size==items.size)=true then _ else _) _ _ s from ?_)
  rw [if_neg (by rw [show ((-1:Int)==1)=false from rfl,Bool.and_false,Bool.false_and]; exact Bool.false_ne_true),Vo]
  first
    | exact wpAny_bind (m:=Builtin.Tuple.tupleExact _) (wpAny_newObj_type (wpAny_pure ⟨_,rfl,wpAny_pure h⟩) hz)
    | exact wpAny_bind (m:=Builtin.Tuple.tupleExact _) (wpAny_newObj_type (wpAny_bind (wpAny_pure (wpAny_pure ⟨_,rfl,wpAny_pure h⟩))) hz)
    | exact wpAny_bind (wpAny_bind (m:=Builtin.Tuple.tupleExact _) (wpAny_newObj_type (wpAny_pure (wpAny_pure ⟨_,rfl,wpAny_pure h⟩)) hz))
    | exact wpAny_bind (wpAny_bind (m:=Builtin.Tuple.tupleExact _) (wpAny_newObj_type (wpAny_pure ⟨_,rfl,wpAny_pure h⟩) hz))
end
noncomputable section
variable {X:Cx} {B:Bas} {e:Expr} {te:TE} {m m1 m2:M T} {pos p p2 p3 p4:Pos} {j:Nat}
noncomputable def a7c (K:PySem.W.Frag):V→Hp→VK→Prop:=fun x H Q=>∃ a xs,x=.ref a∧((SqL K H a xs∧∀ p,H p=none→Q (.ref p) (upd H p (.lst xs.reverse)))∨(SqT K H a xs∧∀ p,H p=none→Q (.ref p) (upd H p (.tup xs.reverse))))
theorem a2e:PE X (.UnaryOp .USub (.Constant (.int 1) j p4) p3) (tC (.int (-1))):=(a5n Zk Wn).imp fun σ H Q q=>⟨1,rfl,q⟩
theorem Wr (he:PE X e te):PE X (.Subscript e (.Slice none none (some (.UnaryOp .USub (.Constant (.int 1) j p4) p3)) p2) pos) (fun σ H Q=>te σ H fun x H1=>a7c X.K x H1 Q):=by
  intro pins s σ H Q I h
  refine Subscript_ (thn (he pins s σ H _ I h) fun v s1 z0=>?_)
  obtain ⟨x,H1,I1,r1,q1⟩:=z0
  refine wpAny_Slice ?_
  rw [evalPart_none]
  refine wpAny_pure (wpAny_pure ?_) -- here
  rw [evalPart_some]
  refine thn (a2e pins s1 σ H1 (fun v H2=>v=.int (-1)∧H2=H1) I1 ⟨rfl,rfl⟩) fun vk s2 z0=>?_
  obtain ⟨y,H2,I2,r2,ey,eH⟩:=z0
  subst ey eH
  obtain ⟨t,rfl⟩:=r2
  obtain ⟨a,xs,rfl,hx⟩:=q1
  cases r1
  have I4:L2.Inv X pins σ H2 { s2 with heap:=s2.heap.push { cls:=.type "slice",data:=.fields #[.none,.none,.int (-1) t] } }:=I2.kept (t':=s2.toks) fun b ob q=>Heap.get?_push_of_some _ q
  rcases hx with ⟨hx,q⟩ | ⟨hx,q⟩
  · obtain ⟨its,r,ht,hz⟩:=I4.list hx
    have hlen:=r.length
    refine tail_any (ops:=[.ref a,.ref s2.heap.objs.size]) (T := "list") ht.isList.typeIs slot_list_getitem.lookup ?_ (by with_unfolding_all rfl)
    refine wpAny_getItem_list_slice ht.isList (Heap.IsSliceOf.new ..) .none .none (.int (-1) t) (by decide) ?_ (by rw [List.size_toArray] <;> omega)
    rw [PySem.W.krv_pick]
    refine ⟨.ref _,_,I4.laid (t':=s2.toks) (o:=.lst xs.reverse) (fun b ob q=>Heap.get?_push_of_some _ q) (Nat.le_refl _) ?_,rfl,q _ (I4.hok.fresh (Nat.le_refl _))⟩
    exact ⟨by rw [List.length_reverse]; exact hz,_,0,by simpa using r.reverse,Heap.get?_push_size _ rfl⟩
  · obtain ⟨its,r,ht,hz⟩:=I4.tuple hx
    have hlen:=r.length
    refine tail_any (ops:=[.ref a,.ref s2.heap.objs.size]) (T := "tuple") ht.typeIs PyProof.Rows.slot_tuple_getitem.lookup ?_ (by with_unfolding_all rfl)
    refine Rc ht (Heap.IsSliceOf.new ..) ?_ (by rw [List.size_toArray] <;> omega)
    refine ⟨.ref _,_,I4.laid (t':=s2.toks) (o:=.tup xs.reverse) (fun b ob q=>Heap.get?_push_of_some _ q) (Nat.le_refl _) ?_,rfl,q _ (I4.hok.fresh (Nat.le_refl _))⟩
    exact ⟨by rw [List.length_reverse]; exact hz,its.reverse,r.reverse,Xd.new _ its.reverse.toArray⟩
theorem Vh (ha:PE X e (tOf X.K B m)):PE X (.Subscript e (.Slice none none (some (.UnaryOp .USub (.Constant (.int 1) j p4) p3)) p2) pos) (tOf X.K B (mUn Wk m)) :=
  (Wr ha).imp fun σ H Q z9=>by
    obtain ⟨st,ps,S,as,R,t,st',e,q⟩:=z9
    obtain ⟨t1,e1,e3⟩:=Nr e
    refine ⟨st,ps,S,as,R,t1,st',e1,fun v H1 S1 as1 R1=>?_⟩
    have top:=R1.top
    cases top with
    | @lst a vs ts g1 g2 =>
      simp only [Wk] at e3; cases e3
      refine ⟨a,vs,rfl,.inl ⟨qp R1.sub g1,fun p hp=>?_⟩⟩
      have x:=Ext.laid R1.sub hp (.lst vs.reverse)
      exact q _ _ _ _ ((R1.drop.ext x).push (.lst (SqL.of ji) (g2.reverse.mono x.s nol)))
    | @tup a vs ts g1 g2 =>
      simp only [Wk] at e3; cases e3
      refine ⟨a,vs,rfl,.inr ⟨qt R1.sub g1,fun p hp=>?_⟩⟩
      have x:=Ext.laid R1.sub hp (.tup vs.reverse)
      exact q _ _ _ _ ((R1.drop.ext x).push (.tup (SqT.of ji) (g2.reverse.mono x.s nol)))
    | _=>simp only [Wk,reduceCtorEq] at e3
theorem a1i (ha:PE X e (tOf X.K B m)):PE X (.Subscript e (.Slice none none (some (.UnaryOp .USub (.Constant (.int 1) j p4) p3)) p2) pos) (fOf X.K B (mUn a5a m)) :=
  (Wr ha).imp fun σ H Q z9=>by
    obtain ⟨st,ps,S,as,R,t,st',e,q⟩:=z9
    obtain ⟨t1,e1,e3⟩:=Nr e
    refine ⟨st,ps,S,as,R,t1,st',e1,fun v H1 S1 as1 R1=>?_⟩
    have top:=R1.top
    cases top with
    | @lst a vs ts g1 g2 =>
      simp only [a5a] at e3; cases e3
      refine ⟨a,vs,rfl,.inl ⟨qp R1.sub g1,fun p hp=>?_⟩⟩
      obtain ⟨bD,sD,nD,no⟩:=R1.fresh hp
      exact q p _ S1 as1 (R1.drop.Z6 bD sD nD (fun j w e1 e2=>no j w e1 e2)) ⟨⟨vs.reverse,ji,g2.reverse⟩,sD,nD,bD⟩ (fun j w e1 e2=>no j w e1 e2)
    | _=>simp only [a5a,reduceCtorEq] at e3
theorem Wc:OpT X (compareOp .Is) isC:=by
  intro pins s σ H x y v u Q I rx ry z8
  obtain ⟨S,as,t,t2,w,sub,ht,hu2,hf,q⟩:=z8
  cases hu2 <;> simp only [isC,reduceCtorEq] at hf
  · cases hf
    have e:decide (x=V.non)=N8 t:=by cases ht <;> rfl
    exact Zd pins s σ H x _ v u Q I rx ry ⟨rfl,by rw [e]; exact q _ H S (Ext.refl sub) (.bl _)⟩
  · rename_i b
    cases hf
    cases ry
    have fin:∀ k:Bool,a7a b t=k→EP X pins σ Q (.bool k) s:=fun k hk=>⟨.bl k,H,I,rfl,by rw [← hk]; exact q _ H S (Ext.refl sub) (.bl _)⟩
    cases ht with
    | bl k=>cases rx; exact wpAny_is_plain rfl (fin _ (by cases k <;> cases b <;> rfl))
    | non=>cases rx; exact wpAny_is_plain rfl (fin _ rfl)
    | int i=>obtain ⟨tk,rfl⟩:=rx; exact wpAny_is_plain rfl (fin _ rfl)
    | str z=>obtain ⟨tk,rfl⟩:=rx; exact wpAny_is_plain rfl (fin _ rfl)
    | tup=>cases rx; exact wpAny_is_plain rfl (fin _ rfl)
    | lst=>cases rx; exact wpAny_is_plain rfl (fin _ rfl)
    | dic=>cases rx; exact wpAny_is_plain rfl (fin _ rfl)
    | obj=>cases rx; exact wpAny_is_plain rfl (fin _ rfl)
theorem zm:OpT X (compareOp .IsNot) xg:=by
  intro pins s σ H x y v u Q I rx ry z8
  obtain ⟨S,as,t,t2,w,sub,ht,hu2,hf,q⟩:=z8
  cases hu2 <;> simp only [xg,isC,reduceCtorEq] at hf
  · cases hf
    have e:decide (x=V.non)=N8 t:=by cases ht <;> rfl
    exact a0u pins s σ H x _ v u Q I rx ry ⟨rfl,by rw [e]; exact q _ H S (Ext.refl sub) (.bl _)⟩
  · rename_i b
    cases hf
    cases ry
    have fin:∀ k:Bool,(!a7a b t)=k→EP X pins σ Q (.bool k) s:=fun k hk=>⟨.bl k,H,I,rfl,by rw [← hk]; exact q _ H S (Ext.refl sub) (.bl _)⟩
    cases ht with
    | bl k=>cases rx; exact wpAny_isNot_plain rfl (fin _ (by cases k <;> cases b <;> rfl))
    | non=>cases rx; exact wpAny_isNot_plain rfl (fin _ rfl)
    | int i=>obtain ⟨tk,rfl⟩:=rx; exact wpAny_isNot_plain rfl (fin _ rfl)
    | str z=>obtain ⟨tk,rfl⟩:=rx; exact wpAny_isNot_plain rfl (fin _ rfl)
    | tup=>cases rx; exact wpAny_isNot_plain rfl (fin _ rfl)
    | lst=>cases rx; exact wpAny_isNot_plain rfl (fin _ rfl)
    | dic=>cases rx; exact wpAny_isNot_plain rfl (fin _ rfl)
    | obj=>cases rx; exact wpAny_isNot_plain rfl (fin _ rfl)
theorem Xg {x:Str} {i:Int} (hg:Gl X x) (h:∃ tk,X.mg x=some (.int i tk)) (hd:(x==("__debug__" : Str))=false:=by decide):PE X (.Name x pos) (tOf X.K B (aq (.int i))):=by
  obtain ⟨tk,h⟩:=h
  exact Eb (v:=.int i) (a1u hg h (show RelV (.int i) _ from ⟨tk,rfl⟩) hd) fun _ _=>.int i
theorem Jf {a:Expr} {pc:Pos} (hg:Gl X "isinstance") (hm:X.mg "isinstance" = none) (hg2:Gl X "str") (hm2:X.mg "str" = none) (ha:PE X a (tOf X.K B m)) (he:starEach [a,.Name "str" pc] X.env=(false,eval a X.env)::starEach [.Name "str" pc] X.env:=by rfl) :
    PE X (.Call (.Name "isinstance" p) [a,.Name "str" pc] [] pos) (tOf X.K B (gn isStr (ak m dw))):=by
  rw [show isStr=_ from funext Xj]
  exact Pa (cn := "str") hg hm hg2 hm2 Wd (fun t ty h=>by cases t <;> cases h <;> rfl) ha (by decide) (by decide) he
end
end C
end
noncomputable section
set_option linter.all false
set_option autoImplicit false
namespace C
open PySem PySem.Spec L2
noncomputable def Held (K:PySem.W.Frag) (u:Value) (t:T):Prop:=∃ v,RelV v u∧∀ S as,Rep K S as v t
noncomputable def Mt (K:PySem.W.Frag) (us:List Value) (ts:List T):Prop:=∃ vs,Vals vs us∧∀ S as,wu K S as vs ts
noncomputable section
variable {K:PySem.W.Frag}
theorem Held.int {i:Int} {tk:Tok}:Held K (.int i tk) (.int i):=⟨.int i,⟨tk,rfl⟩,fun _ _=>.int i⟩
theorem Held.str {x:Str} {tk:Tok}:Held K (.str x tk) (.str x):=⟨.str x,⟨tk,rfl⟩,fun _ _=>.str x⟩
theorem Held.bl {b:Bool}:Held K (.bool b) (.bl b):=⟨.bl b,rfl,fun _ _=>.bl b⟩
theorem Held.non:Held K .none .non:=⟨.non,rfl,fun _ _=>.non⟩
theorem Mt.nil:Mt K [] []:=⟨[],.nil,fun _ _=>.nil⟩
theorem Mt.cons {u:Value} {t:T} {us:List Value} {ts:List T} (h:Held K u t) (hs:Mt K us ts):Mt K (u::us) (t::ts):=by
  obtain ⟨v,r,e⟩:=h
  obtain ⟨vs,rs,es⟩:=hs
  exact ⟨v::vs,.cons r rs,fun S as=>.cons (e S as) (es S as)⟩
theorem Held.tup {a:Addr} {us:List Value} {n:Nat} {sl:Array (Option Value)} {ts:List T} (h:K.lookup a=some ⟨.type "tuple",none,.seq us.toArray n,sl⟩) (hz:us.length≤1000) (hs:Mt K us ts):Held K (.ref a) (.tup ts):=by
  obtain ⟨vs,rs,es⟩:=hs
  refine ⟨.ref a,rfl,fun S as=>.tup (.inr ⟨_,us.toArray,n,h,rfl,rfl,rfl,?_,?_⟩) (es S as)⟩
  · rw [List.size_toArray,sizeLine_eq]; omega
  · exact rs
theorem Held.lst {a:Addr} {us:List Value} {n:Nat} {sl:Array (Option Value)} {ts:List T} (h:K.lookup a=some ⟨.type "list",none,.seq us.toArray n,sl⟩) (hz:us.length≤1000) (hs:Mt K us ts):Held K (.ref a) (.lst ts):=by
  obtain ⟨vs,rs,es⟩:=hs
  refine ⟨.ref a,rfl,fun S as=>.lst (.inr ⟨_,us.toArray,n,h,rfl,rfl,rfl,?_,?_⟩) (es S as)⟩
  · rw [List.size_toArray,sizeLine_eq]; omega
  · exact rs
end
noncomputable section
variable {X:Cx} {B:Bas} {pos:Pos}
end
end C
end
noncomputable section
set_option linter.all false
set_option maxRecDepth 100000
set_option maxHeartbeats 4000002
set_option autoImplicit false
namespace C
open PySem PySem.Spec PyProof.Rows L2
noncomputable section
variable {K:PySem.W.Frag} {S:Hp} {as:List Addr}
end
noncomputable section
variable {X:Cx} {B:Bas} {a b e:Expr} {m m2:M T} {pos p1:Pos} {es:List Expr} {ms:M (List T)}
theorem Rel.base {K:PySem.W.Frag} {B:Bas} {st:Sta} {σ:L2.St} {H S:Hp} {ps:List (V × T)} {as:List Addr} (r:Rel K B st σ H ps S as):Rel K ⟨S,as,B.H⟩ st σ H ps S as :=
  ⟨r.sub,⟨Same.refl _,nol,fun p o h1 h2 h3=>by
    change S p=none at h2
    have b2:B.S p=none:=by
      cases q:B.S p with
      | none=>rfl
      | some u=>have:=r.grow.same _ _ q; rw [h2] at this; cases this
    have b3:p∉B.as:=fun q=>by obtain ⟨l,e⟩:=r.grow.more; exact h3 (by show p∈as; rw [e]; exact List.mem_append_left _ q)
    exact ⟨(r.grow.keep p o h1 b2 b3).1,h2,h3⟩⟩,fun i t f e=>by
      obtain ⟨v,h1,h2,h3⟩:=r.slots i t f e
      exact ⟨v,h1,h2,fun q=>by obtain ⟨p,ep,o⟩:=h3 q; exact ⟨p,ep,o.own,o.out,o.nas,o.new⟩⟩,r.apart,r.sto,r.pend,r.len⟩
end
end C
end
noncomputable section
set_option linter.all false
set_option maxRecDepth 100000
set_option maxHeartbeats 4000002
set_option autoImplicit false
namespace C
open PySem PySem.Spec
noncomputable section
variable {prog:Program} {w:World} {A:Around} {E:Value→Shared→Prop} {s:Shared} {it l:Addr} {xs:Array Value}
end
end C
end
noncomputable section
set_option linter.all false
set_option maxRecDepth 100000
set_option maxHeartbeats 4000002
set_option autoImplicit false
namespace C
open PySem PySem.Spec PyProof.Rows L2
noncomputable section
variable {X:Cx} {B:Bas} {a b e e1 e2:Expr} {m m1 m2:M T} {pos p1 p2 p3 p4:Pos} {lo hi:Option Expr} {ml mh:M (Option Int)}
theorem Rel.pin {K:PySem.W.Frag} {st:Sta} {σ:L2.St} {H S:Hp} {ps:List (V × T)} {as:List Addr} {p:Addr} {ob:HO} (r:Rel K B st σ H ps S as) (hp:H p=none) :
    Rel K ⟨S,as,upd B.H p ob⟩ st σ (upd H p ob) ps S as:=by
  obtain ⟨bD,sD,nD,no⟩:=r.fresh hp
  have r2:=(r.Z6 (ob:=ob) bD sD nD no).base
  refine ⟨r2.sub,⟨Same.refl _,nol,fun q o h1 h2 h3=>?_⟩,fun i t f ei=>?_,r2.apart,r2.sto,r2.pend,r2.len⟩
  · by_cases hq:q=p
    · subst hq
      change upd B.H q ob q=some o at h1
      rw [ji] at h1
      cases h1
      exact ⟨ji,sD,nD⟩
    · change upd B.H p ob q=some o at h1
      rw [nq hq] at h1
      exact r2.grow.keep q o h1 h2 h3
  · obtain ⟨v,h1,h2,h3⟩:=r2.slots i t f ei
    refine ⟨v,h1,h2,fun q=>?_⟩
    obtain ⟨p',ep,o⟩:=h3 q
    refine ⟨p',ep,o.own,o.out,o.nas,?_⟩
    have:p'≠p:=fun z=>by
      subst z
      subst ep
      subst q
      exact no i t ei h1
    change upd B.H p ob p'=none
    rw [nq this]
    exact o.new
theorem Rel.a6u {K:PySem.W.Frag} {st st':Sta} {σ σ':L2.St} {H H' S S':Hp} {ps ps':List (V × T)} {as as':List Addr} {p:Addr} {ob:HO} (r:Rel K B st σ H ps S as) (hp:H p=none) (r':Rel K ⟨S,as,upd B.H p ob⟩ st' σ' H' ps' S' as') :
    Rel K B st' σ' H' ps' S' as'∧H' p=some ob∧B.H p=none∧S' p=none∧p∉as'∧G3 st' σ' p:=by
  obtain ⟨bD,sD,nD,no⟩:=r.fresh hp
  obtain ⟨k1,k2,k3⟩:=r'.grow.keep p ob ji sD nD
  refine ⟨⟨r'.sub,⟨r.grow.same.trans r'.grow.same,?_,fun q o h1 h2 h3=>?_⟩,fun i t f ei=>?_,r'.apart,r'.sto,r'.pend,r'.len⟩,k1,bD,k2,k3,fun i t ei es=>?_⟩
  · obtain ⟨l,el⟩:=r.grow.more
    obtain ⟨l',el'⟩:=r'.grow.more
    exact ⟨l++l',by rw [el',← List.append_assoc,← el]⟩
  · have hq:q≠p:=fun z=>by subst z; rw [bD] at h1; cases h1
    obtain ⟨x,y,z⟩:=r.grow.keep q o h1 h2 h3
    exact r'.grow.keep q o (by change upd B.H p ob q=some o; rw [nq hq]; exact h1) y z
  · obtain ⟨v,h1,h2,h3⟩:=r'.slots i t f ei
    refine ⟨v,h1,h2,fun q=>?_⟩
    obtain ⟨p',ep,o⟩:=h3 q
    have:p'≠p:=fun z=>by
      have:=o.new
      subst z
      change upd B.H p' ob p'=none at this
      rw [ji] at this; cases this
    exact ⟨p',ep,o.own,o.out,o.nas,by have:=o.new; change upd B.H p ob p'=none at this; rwa [nq ‹p'≠p›] at this⟩
  · obtain ⟨v,h1,h2,h3⟩:=r'.slots i t true ei
    obtain ⟨p',ep,o⟩:=h3 rfl
    rw [es] at h1
    cases h1
    cases ep
    have:=o.new
    change upd B.H p ob p=none at this
    rw [ji] at this; cases this
end
end C
end
noncomputable section
set_option linter.all false
set_option maxRecDepth 100000
set_option maxHeartbeats 4000002
set_option autoImplicit false
namespace C
open PySem PySem.Spec PyProof.Rows L2
noncomputable section
variable {X:Cx} {B:Bas} {e1:Expr} {m1:M T} {pos p1:Pos}
theorem Z4 {k:Int} {j1:Nat} (h1:∀ B,PE X e1 (tOf X.K B m1)) :
    PE X (.Dict [some (.Constant (.int k) j1 p1)] [e1] pos) (fOf X.K B (gn (a1q k) (ak m1 dw))) :=
  (a0h (Ye Wn (peE h1) a2f) rfl rfl (by simp) (by simp)).imp fun σ H Q z9=>by
    obtain ⟨st,ps,S,as,R,t,st',ev,q⟩:=z9
    intro p hp
    obtain ⟨ts,ea,eb⟩:=Bl ev
    obtain ⟨t1,s1,us,c1,cr,rfl⟩:=Bg ea
    cases cr
    simp only [a1q] at eb
    cases eb
    refine ⟨_,st,ps,S,as,R.pin (ob:=.dK []) hp,t1,_,c1,fun v1 H1 S1 as1 R1=>?_⟩
    obtain ⟨R3,a1,a2,a3,a4,a5⟩:=R.a6u hp R1
    refine ⟨a1,[(.inl k,v1)],rfl,by simp,?_⟩
    have em:Hz [] [((.inl k:L2.Key),v1)]=[(.inl k,v1)]:=by simp [Hz,putK]
    rw [em]
    exact q p _ S1 as1 (R3.drop.Z6 a2 a3 a4 a5) ⟨⟨_,ji,.cons R3.top .nil⟩,a3,a4,a2⟩ a5
end
end C
end
noncomputable section
set_option linter.all false
set_option maxRecDepth 100000
set_option autoImplicit false
namespace C
open PySem
theorem Lz {α:Type} {h f:α→T} {g:G} {c:M Bool} {e:M T} {nv:Nat} {cap:List Slot} {sto:List SO} (hcap:cap.map n6=cap) :
    ∀ (l:List α) (acc:List T) (pre:List Slot),pre.length=nv→acc.length+l.length≤lim →
      (∀ a∈l,∀ pre:List Slot,pre.length=nv→∃ pre',pre'.length=nv∧g (h a) ⟨pre++cap,sto⟩=some ⟨pre'++cap,sto⟩∧c ⟨pre'++cap,sto⟩=some (true,⟨pre'++cap,sto⟩)∧e ⟨pre'++cap,sto⟩=some (f a,⟨pre'++cap,sto⟩)) →
      ∃ s',Bu g c e (l.map h) ⟨pre++cap,sto⟩ acc=some (acc++l.map f,s')∧s'.sto=sto
  | [],acc,pre,hp,hl,H=>⟨⟨pre++cap,sto⟩,by simp [Bu],rfl⟩
  | a::l,acc,pre,hp,hl,H=>by
    obtain ⟨pre',p1,p2,p3,p4⟩:=H a List.mem_cons_self pre hp
    have hlen:acc.length<lim:=by simp at hl ⊢; omega
    obtain ⟨s',q1,q2⟩:=Lz hcap l (acc++[f a]) (pre'.map n6) (by simpa using p1) (by simp at hl ⊢; omega) fun b hb=>H b (List.mem_cons_of_mem _ hb)
    refine ⟨s',?_,q2⟩
    rw [List.map_cons,Bu,p2]
    dsimp only
    rw [p3]
    dsimp only
    rw [p4]
    dsimp only
    rw [if_pos hlen,qj]
    dsimp only
    rw [List.map_append,hcap,q1]
    simp
theorem Vu {α:Type} (h f:α→T) (l:List α) {g:G} {c:M Bool} {e:M T} {nv:Nat} {ci:List Nat} {it:M (List T)} {s s1:Sta} (env:List Slot) (cap:List Slot) (hit:it s=some (l.map h,s1)) (henv:bh ci s1.env=env) (hci:ci.map (fun i=>(env[i]?).getD none)=cap) (hcap:cap.map n6=cap) (hl:l.length≤lim)
    (H:∀ a∈l,∀ pre:List Slot,pre.length=nv→∃ pre',pre'.length=nv∧g (h a) ⟨pre++cap,s1.sto⟩=some ⟨pre'++cap,s1.sto⟩∧c ⟨pre'++cap,s1.sto⟩=some (true,⟨pre'++cap,s1.sto⟩)∧e ⟨pre'++cap,s1.sto⟩=some (f a,⟨pre'++cap,s1.sto⟩)) :
    qz nv ci g it c e s=some (.lst (l.map f),⟨env,s1.sto⟩):=by
  obtain ⟨s',q1,q2⟩:=Lz hcap l [] (List.replicate nv none) (by simp) (by simpa using hl) H
  unfold qz
  rw [hit]
  dsimp only
  rw [henv,hci,q1]
  dsimp only
  rw [q2]; rfl
noncomputable def okS (x:Str):Prop:=PyData.canLay0 (.str x)=true
theorem Nx {x:Str} (h:okS x):dat (.str x)=some (.str x):=by
  unfold okS at h
  simp [dat,h]
noncomputable def Pl (n:Nat) (t:T):Prop:=∃ d,dat t=some d∧d.depth≤n
theorem a67 (n:Nat) (i:Int):Pl n (.int i):=⟨.int i,by simp [dat],by simp [PyData.depth]⟩
theorem a5s (n:Nat) {x:Str} (h:okS x):Pl n (.str x):=⟨.str x,Nx h,by simp [PyData.depth]⟩
theorem pls {n:Nat}:∀ ts:List T,(∀ t∈ts,Pl n t)→∃ ds,Mh ts=some ds∧PyData.depthAll ds≤n
  | [],_=>⟨[],by simp [Mh],by simp [PyData.depthAll]⟩
  | t::r,h=>by
    obtain ⟨d,d1,d2⟩:=h t List.mem_cons_self
    obtain ⟨ds,e1,e2⟩:=pls r fun x hx=>h x (List.mem_cons_of_mem _ hx)
    exact ⟨d::ds,by simp [Mh,d1,e1],by simp only [PyData.depthAll]; omega⟩
theorem Zm {n:Nat} {ts:List T} (h:∀ t∈ts,Pl n t):Pl (n+1) (.tup ts):=by
  obtain ⟨ds,e1,e2⟩:=pls ts h
  exact ⟨.tuple ds,by simp [dat,e1],by simp only [PyData.depth]; omega⟩
end C
namespace C
open PySem
theorem W5 {g:G} {b:S} (P:List T→Sta→Prop) (H:∀ t r s,P (t::r) s→∃ s1 s2,g t s=some s1∧b s1=some (.next,s2)∧P r s2):∀ (ts:List T) (s:Sta),P ts s→∃ s',forL g b ts s=some (.next,s')∧P [] s'
  | [],s,h=>⟨s,by simp [forL],h⟩
  | t::r,s,h=>by
    obtain ⟨s1,s2,h1,h2,h3⟩:=H t r s h
    obtain ⟨s',e,p⟩:=W5 P H r s2 h3
    refine ⟨s',?_,p⟩
    rw [forL]; dsimp only; rw [h1]; dsimp only; rw [h2]; dsimp only; exact e
theorem Wb {g:G} {b:S} {ts:List T} {s:Sta} {r:Option (Flow × Sta)} (hF:forL g b ts s=r) (P:List T→Sta→Prop) (hP:P ts s) (H:∀ t r s,P (t::r) s→∃ s1 s2,g t s=some s1∧b s1=some (.next,s2)∧P r s2):∃ s',r=some (.next,s')∧P [] s':=by
  obtain ⟨s',e,p⟩:=W5 P H ts s hP
  exact ⟨s',hF.symm.trans e,p⟩
end C
namespace C
open PySem
theorem zp {α:Type} {g:G} {c:M Bool} {e:M T} {nv:Nat} {ci:List Nat} {it:M (List T)} {s:Sta} {r:Option (T × Sta)} (hF:qz nv ci g it c e s=r) (h f:α→T) (l:List α) (s1:Sta) (env cap:List Slot) (hit:it s=some (l.map h,s1)) (henv:bh ci s1.env=env) (hci:ci.map (fun i=>(env[i]?).getD none)=cap) (hcap:cap.map n6=cap) (hl:l.length≤lim)
    (H:∀ a∈l,∀ pre:List Slot,pre.length=nv→∃ pre',pre'.length=nv∧g (h a) ⟨pre++cap,s1.sto⟩=some ⟨pre'++cap,s1.sto⟩∧c ⟨pre'++cap,s1.sto⟩=some (true,⟨pre'++cap,s1.sto⟩)∧e ⟨pre'++cap,s1.sto⟩=some (f a,⟨pre'++cap,s1.sto⟩)) :
    r=some (.lst (l.map f),⟨env,s1.sto⟩):=hF.symm.trans (Vu h f l env cap hit henv hci hcap hl H)
end C
end
noncomputable section
set_option linter.all false
set_option maxRecDepth 100000
set_option autoImplicit false
namespace C
open PySem
theorem Ky {α σ:Type} {g:G} {b:S} (h:α→T) (R:σ→Sta) (step:σ→α→σ) (P:List α→σ→Prop)
    (H:∀ a r x,P (a::r) x→(∃ s1,g (h a) (R x)=some s1∧b s1=some (.next,R (step x a)))∧P r (step x a)) :
    ∀ (l:List α) (x:σ),P l x→forL g b (l.map h) (R x)=some (.next,R (l.foldl step x))∧P [] (l.foldl step x)
  | [],x,p=>⟨by simp [forL],p⟩
  | a::l,x,p=>by
    obtain ⟨⟨s1,h1,h2⟩,h3⟩:=H a l x p
    obtain ⟨e,q⟩:=Ky h R step P H l (step x a) h3
    refine ⟨?_,q⟩
    rw [List.map_cons,forL]; dsimp only; rw [h1]; dsimp only; rw [h2]; dsimp only; exact e
theorem Yw {α σ:Type} {g:G} {b:S} {ts:List T} {s:Sta} {r:Option (Flow × Sta)} (hF:forL g b ts s=r) (h:α→T) (l:List α) (R:σ→Sta) (x0:σ) (step:σ→α→σ) (P:List α→σ→Prop) (ht:ts=l.map h) (hs:s=R x0) (hP:P l x0)
    (H:∀ a r x,P (a::r) x→(∃ s1,g (h a) (R x)=some s1∧b s1=some (.next,R (step x a)))∧P r (step x a)) :
    r=some (.next,R (l.foldl step x0))∧P [] (l.foldl step x0):=by
  subst ht hs
  obtain ⟨e,p⟩:=Ky h R step P H l x0 hP
  exact ⟨hF.symm.trans e,p⟩
theorem Cd {α:Type} {h f:α→T} {q:α→Bool} {g:G} {c:M Bool} {e:M T} {nv:Nat} {cap:List Slot} {sto:List SO} (hcap:cap.map n6=cap) :
    ∀ (l:List α) (acc:List T) (pre:List Slot),pre.length=nv→acc.length+l.length≤lim →
      (∀ a∈l,∀ pre:List Slot,pre.length=nv→∃ pre',pre'.length=nv∧g (h a) ⟨pre++cap,sto⟩=some ⟨pre'++cap,sto⟩∧c ⟨pre'++cap,sto⟩=some (q a,⟨pre'++cap,sto⟩)∧(q a=true→e ⟨pre'++cap,sto⟩=some (f a,⟨pre'++cap,sto⟩))) →
      ∃ s',Bu g c e (l.map h) ⟨pre++cap,sto⟩ acc=some (acc++(l.filter q).map f,s')∧s'.sto=sto
  | [],acc,pre,hp,hl,H=>⟨⟨pre++cap,sto⟩,by simp [Bu],rfl⟩
  | a::l,acc,pre,hp,hl,H=>by
    obtain ⟨pre',p1,p2,p3,p4⟩:=H a List.mem_cons_self pre hp
    have hlen:acc.length<lim:=by simp at hl ⊢; omega
    rw [List.map_cons,Bu,p2]
    dsimp only
    rw [p3]
    cases hq:q a with
    | true =>
      obtain ⟨s',q1,q2⟩:=Cd hcap l (acc++[f a]) (pre'.map n6) (by simpa using p1) (by simp at hl ⊢; omega) fun b hb=>H b (List.mem_cons_of_mem _ hb)
      refine ⟨s',?_,q2⟩
      dsimp only
      rw [p4 hq]
      dsimp only
      rw [if_pos hlen,qj]
      dsimp only
      rw [List.map_append,hcap,q1]
      simp [hq]
    | false =>
      obtain ⟨s',q1,q2⟩:=Cd hcap l acc (pre'.map n6) (by simpa using p1) (by simp at hl ⊢; omega) fun b hb=>H b (List.mem_cons_of_mem _ hb)
      refine ⟨s',?_,q2⟩
      dsimp only
      rw [qj]
      dsimp only
      rw [List.map_append,hcap,q1]
      simp [hq]
theorem Kw {α:Type} {g:G} {c:M Bool} {e:M T} {nv:Nat} {ci:List Nat} {it:M (List T)} {s:Sta} {r:Option (T × Sta)} (hF:qz nv ci g it c e s=r) (h f:α→T) (q:α→Bool) (l:List α) (s1:Sta) (env cap:List Slot) (hit:it s=some (l.map h,s1)) (henv:bh ci s1.env=env) (hci:ci.map (fun i=>(env[i]?).getD none)=cap) (hcap:cap.map n6=cap) (hl:l.length≤lim)
    (H:∀ a∈l,∀ pre:List Slot,pre.length=nv→∃ pre',pre'.length=nv∧g (h a) ⟨pre++cap,s1.sto⟩=some ⟨pre'++cap,s1.sto⟩∧c ⟨pre'++cap,s1.sto⟩=some (q a,⟨pre'++cap,s1.sto⟩)∧(q a=true→e ⟨pre'++cap,s1.sto⟩=some (f a,⟨pre'++cap,s1.sto⟩))) :
    r=some (.lst ((l.filter q).map f),⟨env,s1.sto⟩):=by
  obtain ⟨s',q1,q2⟩:=Cd hcap l [] (List.replicate nv none) (by simp) (by simpa using hl) H
  rw [← hF]
  unfold qz
  rw [hit]
  dsimp only
  rw [henv,hci,q1]
  dsimp only
  rw [q2]; rfl
theorem uy {a b:Int}:eqO (.int a) (.int b)=some (.bl (a==b)):=by simp [eqO,eqT,eqD,dat,PyData.depth,PyData.eqv]
theorem Hu {a b:Int}:neO (.int a) (.int b)=some (.bl (!(a==b))):=by simp [neO,eqT,eqD,dat,PyData.depth,PyData.eqv]
theorem Ce {a b:Str} (ha:okS a) (hb:okS b):eqO (.str a) (.str b)=some (.bl (a==b)):=by
  simp [eqO,eqT,eqD,Nx ha,Nx hb,PyData.depth,PyData.eqv]
theorem Ju {xs:List T} {k:Nat} {t:T} (h:xs[k]? = some t):iw (.lst xs) (.int (k:Int))=some t:=by
  have hk:k<xs.length:=(List.getElem?_eq_some_iff.mp h).1
  have h1:(k:Int)<(xs.length:Int):=by omega
  simp [iw,ixI,h1,h]
theorem Oc {xs:List T} {k:Nat} {t:T} (h:xs[k]? = some t):iw (.tup xs) (.int (k:Int))=some t:=by
  have hk:k<xs.length:=(List.getElem?_eq_some_iff.mp h).1
  have h1:(k:Int)<(xs.length:Int):=by omega
  simp [iw,ixI,h1,h]
theorem xr {a:T} {r:List T}:iw (.tup (a::r)) (.int 0)=some a:=Oc (k:=0) rfl
theorem v9 {a b:T} {r:List T}:iw (.tup (a::b::r)) (.int 1)=some b:=Oc (k:=1) rfl
theorem Qu {a b c:T} {r:List T}:iw (.tup (a::b::c::r)) (.int 2)=some c:=Oc (k:=2) rfl
theorem a75 {i j:Nat} {x y:T} {s:Sta}:m8 [i,j] (.tup [x,y]) s=some (cg j y false (cg i x false s)):=by simp [m8]
theorem j4 {a b:S} {s s':Sta} (h:a s=some (.next,s')):jd a b s=b s':=by unfold jd; rw [h]
noncomputable def Out (r:Option (T × List SO)) (P:T→List SO→Prop):Prop:=∃ t s,r=some (t,s)∧P t s
theorem Out.of {t:T} {s:List SO} {P:T→List SO→Prop} (h:P t s):Out (some (t,s)) P:=⟨t,s,rfl,h⟩
theorem Bf {n:Nat} {c:M Bool} {b:S} {s s1 s2:Sta} (hc:c s=some (true,s1)) (hb:b s1=some (.next,s2)):wg (n+1) c b s=wg n c b s2:=by
  rw [wg]; dsimp only; rw [hc]; dsimp only; rw [hb]
theorem Sw {n:Nat} {c:M Bool} {b:S} {s s1:Sta} (hc:c s=some (false,s1)):wg (n+1) c b s=some (.next,s1):=by
  rw [wg]; dsimp only; rw [hc]
theorem Gz {n:Nat} {c:M Bool} {b:S} {s s1 s2:Sta} {v:T} (hc:c s=some (true,s1)) (hb:b s1=some (.ret v,s2)):wg (n+1) c b s=some (.ret v,s2):=by
  rw [wg]; dsimp only; rw [hc]; dsimp only; rw [hb]
end C
end
noncomputable section
set_option linter.all false
namespace K
open C PySem
noncomputable def zx:Fn:=iy 6
  (jd (sNew 2 (aq (.dic [])))
  (jd (mz (m8 [3,4]) (jw (bw 1))
  (Es 2 (bw 3) (mOp ju (En 2 (bw 3) (aq (.int 0))) (bw 4))))
  (jd (jk 5 (qz 1 [2] (hName 0) (jw (gn Br (ak (bw 2) dw))) (fj (mOp neO (mOp iw (bw 1) (bw 0)) (aq (.int 0)))) (gn (fun l=>some (.tup l)) (ak (bw 0) (ak (mOp iw (bw 1) (bw 0)) dw)))))
  (jl (gn (fun l=>some (.tup l)) (ak (bw 0) (ak (gn Bb (ak (bw 5) dw)) dw)))))))
noncomputable def M6:Fn:=iy 2
  (jl (dz zx (ak (mOp ju (mOp iw (bw 0) (aq (.int 0))) (mOp iw (bw 1) (aq (.int 0)))) (ak (mOp ju (mOp iw (bw 0) (aq (.int 1))) (mOp iw (bw 1) (aq (.int 1)))) dw))))
noncomputable def tu:Fn:=iy 6
  (jd (sNew 2 (gn Cr (ak (mOp iw (bw 0) (aq (.int 0))) dw)))
  (jd (sNew 3 (gn Cr (ak (mOp iw (bw 0) (aq (.int 1))) dw)))
  (jd (sNew 4 (mUn a5a (gn Cr (ak (bw 1) dw))))
  (jd (wg 1000 (fj (mOp gtT (Aj 4) (aq (.int 0))))
  (jd (Vd 4 5)
  (sIf (fj (mOp eqO (mOp iw (bw 5) (aq (.int 0))) (aq (.str "and"))))
  (dj 4 (mUn Wk (mOp iw (bw 5) (aq (.int 1)))))
  (sIf (fj (mOp eqO (mOp iw (bw 5) (aq (.int 0))) (aq (.str "or"))))
  (dg 3 (mOp iw (bw 5) (aq (.int 1))))
  (dg 2 (bw 5))))))
  (jl (gn (fun l=>some (.tup l)) (ak (bw 2) (ak (bw 3) dw))))))))
noncomputable def jj:Fn:=iy 1
  (jl (mIf (fj (gn isTup (ak (bw 0) dw))) (gn Bb (ak (bw 0) dw)) (gn (fun l=>some (.tup l)) dw)))
noncomputable def jf:Fn:=iy 3
  (jl (iz (kj (fj (mOp eqO (gn m9 (ak (bw 0) dw)) (bw 2))) (fj (iz (kj (fj (gn isStr (ak (mOp iw (bw 0) (aq (.int 0))) dw))) (fj (mOp eqO (mOp iw (bw 0) (aq (.int 0))) (bw 1)))))))))
noncomputable def nu:Fn:=iy 1
  (jl (iz (kj (fj (gn isInt (ak (bw 0) dw))) (fj (iz (oh (fj (gn a5u (ak (bw 0) dw)))))))))
noncomputable def qg:Fn:=iy 2
  (jl (iz (kj (fj (mOp leT (aq (.int 0)) (bw 0))) (fj (mOp ltT (bw 0) (gn m9 (ak (bw 1) dw)))))))
noncomputable def jq:Fn:=iy 5
  (jd (sIf (mOr (oh (fj (dz qg (ak (bw 1) (ak (mOp iw (bw 0) (aq (.int 1))) dw))))) (oh (fj (gn isTup (ak (bw 2) dw)))))
  (jl (aq .non))
  jt)
  (jd (jk 3 (mOp iw (mOp iw (bw 0) (aq (.int 1))) (bw 1)))
  (jd (jk 4 (dz jj (ak (bw 2) dw)))
  (jd (sIf (fj (mOp neO (gn m9 (ak (bw 4) dw)) (gn m9 (ak (bw 3) dw))))
  (jl (aq .non))
  jt)
  (jl (qz 2 [0] (m8 [0,1]) (a2q (bw 3) (bw 4)) j5 (gn (fun l=>some (.tup l)) (ak (dz tu (ak (bw 2) (ak (gn (fun l=>some (.lst l)) (ak (bw 0) dw)) dw))) (ak (bw 1) dw)))))))))
noncomputable def yc:Fn:=iy 2
  (jl (gn (fun l=>some (.tup l)) (ak (aq (.str "most")) (ak (gn (fun l=>some (.tup l)) (ak (mUn ni (bw 1)) (ak (gn (fun l=>some (.tup l)) (ak (gn (fun l=>some (.tup l)) (ak (bw 0) (ak (aq (.int 1)) dw))) dw)) dw))) dw))))
noncomputable def vd:Fn:=iy 2
  (jl (gn (fun l=>some (.tup l)) (ak (aq (.str "most")) (ak (gn (fun l=>some (.tup l)) (ak (bw 1) (ak (gn (fun l=>some (.tup l)) (ak (gn (fun l=>some (.tup l)) (ak (bw 0) (ak (mUn ni (aq (.int 1))) dw))) dw)) dw))) dw))))
noncomputable def jx:Fn:=iy 8
  (jd (jk 5 (qz 1 [2] (hName 0) (jw (bw 0)) (kj (fj (gn isStr (ak (bw 1) dw))) (fj (mOp eqO (bw 0) (bw 1)))) (bw 0)))
  (jd (sIf (fj (mOp neO (gn m9 (ak (bw 5) dw)) (aq (.int 1))))
  (jl (aq .non))
  jt)
  (jd (jk 6 (dz tu (ak (bw 1) (ak (gn (fun l=>some (.lst l)) (ak (dz yc (ak (mOp iw (bw 5) (aq (.int 0))) (ak (bw 3) dw))) dw)) dw))))
  (jd (jk 7 (dz tu (ak (bw 1) (ak (gn (fun l=>some (.lst l)) (ak (dz vd (ak (mOp iw (bw 5) (aq (.int 0))) (ak (mOp ju (bw 3) (aq (.int 1))) dw))) dw)) dw))))
  (jl (gn (fun l=>some (.lst l)) (ak (gn (fun l=>some (.tup l)) (ak (bw 6) (ak (mOp iw (bw 4) (aq (.int 0))) dw))) (ak (gn (fun l=>some (.tup l)) (ak (bw 7) (ak (mOp iw (bw 4) (aq (.int 1))) dw))) dw))))))))
noncomputable def vf:Fn:=iy 6
  (jd (jk 2 (aq (.int 0)))
  (jd (sNew 3 (gn (fun l=>some (.lst l)) dw))
  (jd (mz (hName 4) (jw (bw 1))
  (jd (jk 5 (mOp iw (mOp iw (bw 0) (mOp iw (bw 4) (aq (.int 0)))) (aq (.int 1))))
  (jd (jk 2 (mOp ju (bw 2) (mOp Ms (mOp iw (bw 4) (mUn ni (aq (.int 1)))) (mOp iw (bw 5) (aq (.int 0))))))
  (dj 3 (qz 2 [4] (m8 [0,1]) (jw (mOp iw (bw 5) (aq (.int 1)))) j5 (gn (fun l=>some (.tup l)) (ak (bw 0) (ak (mOp Ms (mOp iw (bw 2) (mUn ni (aq (.int 1)))) (bw 1)) dw))))))))
  (jl (dz zx (ak (bw 2) (ak (bw 3) dw)))))))
noncomputable def ql:Fn:=iy 3
  (jl (iz (kj (fj (dz qg (ak (bw 1) (ak (bw 0) dw)))) (fj (mOp eqO (mOp iw (mOp iw (bw 0) (bw 1)) (aq (.int 0))) (bw 2))))))
noncomputable def m6:Fn:=iy 2
  (jl (iz (kj (fj (mOp eqO (gn m9 (ak (bw 1) dw)) (aq (.int 2)))) (fj (iz (kj (fj (dz ql (ak (bw 0) (ak (mOp iw (bw 1) (aq (.int 0))) (ak (aq (.str "most")) dw))))) (fj (mOp gtT (mOp iw (bw 1) (aq (.int 1))) (aq (.int 0))))))))))
noncomputable def Bm:Fn:=iy 3
  (jd (sIf (oh (fj (gn Sg (ak (qz 1 [0] (hName 0) (jw (bw 1)) j5 (dz m6 (ak (bw 1) (ak (bw 0) dw)))) dw))))
  (jl (aq (.bl false)))
  jt)
  (jd (jk 2 (dz vf (ak (bw 0) (ak (bw 1) dw))))
  (jl (iz (kj (fj (mOp eqO (mOp iw (bw 2) (aq (.int 1))) (gn (fun l=>some (.tup l)) dw))) (fj (mOp gtT (mOp iw (bw 2) (aq (.int 0))) (aq (.int 0)))))))))
noncomputable def xq:Fn:=iy 3
  (jd (sIf (mOr (oh (fj (dz ql (ak (bw 0) (ak (bw 1) (ak (aq (.str "most")) dw)))))) (oh (fj (dz ql (ak (bw 0) (ak (bw 2) (ak (aq (.str "most")) dw)))))))
  (jl (aq (.bl false)))
  jt)
  (jl (mOp eqO (dz M6 (ak (mOp iw (mOp iw (bw 0) (bw 1)) (aq (.int 1))) (ak (mOp iw (mOp iw (bw 0) (bw 2)) (aq (.int 1))) dw))) (gn (fun l=>some (.tup l)) (ak (aq (.int 0)) (ak (gn (fun l=>some (.tup l)) dw) dw))))))
noncomputable def qu:Fn:=iy 3
  (jd (sIf (fj (mOp eqO (gn m9 (ak (bw 2) dw)) (aq (.int 3))))
  (jl (iz (kj (fj (dz xq (ak (bw 0) (ak (mOp iw (bw 2) (aq (.int 0))) (ak (mOp iw (bw 2) (aq (.int 1))) dw))))) (fj (mOp neO (mOp iw (bw 2) (aq (.int 2))) (aq (.int 0)))))))
  jt)
  (jd (sIf (fj (mOp eqO (gn m9 (ak (bw 2) dw)) (aq (.int 2))))
  (jl (iz (kj (fj (dz ql (ak (bw 0) (ak (mOp iw (bw 2) (aq (.int 0))) (ak (aq (.str "rest")) dw))))) (fj (iz (kj (fj (mOp neO (mOp iw (bw 2) (aq (.int 1))) (aq (.int 0)))) (fj (mOp eqO (mOp jy (mOp Ms (mOp iw (bw 2) (aq (.int 1))) (mOp iw (mOp iw (bw 0) (mOp iw (bw 2) (aq (.int 0)))) (aq (.int 2)))) (bw 1)) (aq (.int 0))))))))))
  jt)
  (jl (aq (.bl false)))))
noncomputable def Aq:Fn:=iy 4
  (jd (sIf (mOr (fj (mOp ltT (bw 1) (aq (.int 2)))) (oh (fj (gn Sg (ak (qz 1 [0,1] (hName 0) (jw (bw 2)) j5 (dz qu (ak (bw 1) (ak (bw 2) (ak (bw 0) dw))))) dw)))))
  (jl (aq (.bl false)))
  jt)
  (jd (jk 3 (dz vf (ak (bw 0) (ak (bw 2) dw))))
  (jl (iz (kj (fj (mOp neO (mOp jy (mOp iw (bw 3) (aq (.int 0))) (bw 1)) (aq (.int 0)))) (fj (gn Sg (ak (qz 2 [1] (m8 [0,1]) (jw (mOp iw (bw 3) (aq (.int 1)))) j5 (mOp eqO (mOp jy (bw 1) (bw 2)) (aq (.int 0)))) dw))))))))
noncomputable def uw:Fn:=iy 2
  (jd (jk 1 (dz jj (ak (bw 0) dw)))
  (jl (mIf (fj (gn Sg (ak (qz 1 [] (hName 0) (jw (bw 1)) j5 (dz nu (ak (bw 0) dw))) dw))) (gn Bb (ak (qz 1 [] (hName 0) (jw (bw 1)) j5 (gn Tq (ak (bw 0) dw))) dw)) (gn (fun l=>some (.tup l)) dw))))
noncomputable def qd:Fn:=iy 1
  (jl (qz 1 [] (hName 0) (jw (dz jj (ak (bw 0) dw))) j5 (dz uw (ak (bw 0) dw))))
noncomputable def gj:Fn:=iy 4
  (jd (jk 3 (dz jj (ak (bw 2) dw)))
  (jd (sIf (kj (fj (dz jf (ak (bw 3) (ak (aq (.str "or")) (ak (aq (.int 3)) dw))))) (fj (dz nu (ak (mOp iw (bw 3) (aq (.int 1))) dw))))
  (jl (dz jq (ak (bw 1) (ak (gn Tq (ak (mOp iw (bw 3) (aq (.int 1))) dw)) (ak (mOp iw (bw 3) (aq (.int 2))) dw)))))
  jt)
  (jd (sIf (kj (fj (dz jf (ak (bw 3) (ak (aq (.str "cut")) (ak (aq (.int 5)) dw))))) (fj (dz nu (ak (mOp iw (bw 3) (aq (.int 2))) dw))))
  (jl (dz jx (ak (bw 0) (ak (bw 1) (ak (mOp iw (bw 3) (aq (.int 1))) (ak (gn Tq (ak (mOp iw (bw 3) (aq (.int 2))) dw)) (ak (Dh (bw 3) (Fv (aq (.int 3))) a08) dw)))))))
  jt)
  (jd (sIf (kj (fj (dz jf (ak (bw 3) (ak (aq (.str "sum")) (ak (aq (.int 2)) dw))))) (fj (dz Bm (ak (mOp iw (bw 1) (aq (.int 0))) (ak (dz qd (ak (mOp iw (bw 3) (aq (.int 1))) dw)) dw)))))
  (jl (gn (fun l=>some (.lst l)) dw))
  jt)
  (jd (sIf (kj (fj (dz jf (ak (bw 3) (ak (aq (.str "rest")) (ak (aq (.int 3)) dw))))) (kj (fj (dz nu (ak (mOp iw (bw 3) (aq (.int 1))) dw))) (fj (dz Aq (ak (mOp iw (bw 1) (aq (.int 0))) (ak (gn Tq (ak (mOp iw (bw 3) (aq (.int 1))) dw)) (ak (dz qd (ak (mOp iw (bw 3) (aq (.int 2))) dw)) dw)))))))
  (jl (gn (fun l=>some (.lst l)) dw))
  jt)
  (jl (aq .non)))))))
noncomputable def uz:Fn:=iy 5
  (jd (sNew 1 (gn (fun l=>some (.lst l)) dw))
  (jd (mz (m8 [2,3,4]) (jw (bw 0))
  (jd (dg 1 (dz vd (ak (bw 2) (ak (bw 3) dw))))
  (dg 1 (dz yc (ak (bw 2) (ak (bw 4) dw))))))
  (jl (gn (fun l=>some (.tup l)) (ak (bw 1) (ak (gn (fun l=>some (.lst l)) dw) dw))))))
noncomputable def jh:Fn:=iy 7
  (jd (jk 3 (qz 3 [] (m8 [0,1,2]) (jw (bw 0)) j5 (bw 0)))
  (jd (sNew 4 (gn (fun l=>some (.lst l)) (ak (gn (fun l=>some (.tup l)) (ak (dz tu (ak (dz uz (ak (bw 0) dw)) (ak (bw 1) dw))) (ak (bw 2) (ak (aq (.int 1)) dw)))) dw)))
  (jd (wg 1000 (fj (mOp gtT (Aj 4) (aq (.int 0))))
  (jd (Vd 4 5)
  (jd (jk 6 (aq .non))
  (jd (sIf (fj (mOp leT (mOp iw (bw 5) (aq (.int 2))) (aq (.int 90))))
  (jk 6 (dz gj (ak (bw 3) (ak (mOp iw (bw 5) (aq (.int 0))) (ak (mOp iw (bw 5) (aq (.int 1))) dw)))))
  jt)
  (jd (sIf (fj (mOp a2x (bw 6) (aq .non)))
  (jl (aq (.bl false)))
  jt)
  (dj 4 (qz 2 [5] (m8 [0,1]) (jw (bw 6)) j5 (gn (fun l=>some (.tup l)) (ak (bw 0) (ak (bw 1) (ak (mOp ju (mOp iw (bw 2) (aq (.int 2))) (aq (.int 1))) dw)))))))))))
  (jl (aq (.bl true))))))
noncomputable def jm:Fn:=iy 2
  (jd (sIf (fj (mOp ltT (bw 1) (gn m9 (ak (bw 0) dw))))
  (jl (mOp iw (bw 0) (bw 1)))
  jt)
  (jl (aq (.int 0))))
noncomputable def u6:Fn:=iy 2
  (jd (sIf (fj (mOp ltT (bw 0) (aq (.int 0))))
  (jl (mUn ni (mOp jy (mUn ni (bw 0)) (bw 1))))
  jt)
  (jl (mOp jy (bw 0) (bw 1))))
noncomputable def yw:Fn:=iy 5
  (jd (sNew 1 (gn (fun l=>some (.lst l)) dw))
  (jd (mz (hName 2) (gk (mOp ju (aq (.int 1)) (mOp jy (dz jm (ak (bw 0) (ak (aq (.int 0)) dw))) (aq (.int 3)))))
  (jd (jk 3 (dz jm (ak (bw 0) (ak (mOp ju (aq (.int 1)) (bw 2)) dw))))
  (jd (jk 4 (dz u6 (ak (bw 3) (ak (mOp iw (gn (fun l=>some (.lst l)) (ak (aq (.int 9)) (ak (mOp Ms (aq (.int 9)) (mOp Tp (aq (.int 10)) (aq (.int 29)))) dw))) (mOp jy (mOp j8 (bw 3) (aq (.int 3))) (aq (.int 2)))) dw))))
  (dg 1 (gn (fun l=>some (.tup l)) (ak (mOp iw (gn (fun l=>some (.lst l)) (ak (aq (.str "x")) (ak (aq (.str "@p")) (ak (aq (.str "yy")) dw)))) (bw 2)) (ak (bw 4) (ak (mOp ju (bw 4) (mOp jy (mOp j8 (gn pq (ak (bw 3) dw)) (aq (.int 7))) (mOp Tp (aq (.int 10)) (aq (.int 29))))) dw))))))))
  (jl (bw 1))))
noncomputable def sy:Fn:=iy 5
  (jd (jk 3 (mOp iw (bw 0) (aq (.int 1))))
  (jd (jk 4 (gn (fun l=>some (.lst l)) (ak (aq .non) (ak (aq (.bl true)) (ak (aq (.int 0)) (ak (aq (.str "sum")) (ak (gn (fun l=>some (.lst l)) dw) (ak (gn (fun l=>some (.tup l)) dw) (ak (gn (fun l=>some (.tup l)) (ak (aq (.str "sum")) dw)) (ak (gn (fun l=>some (.lst l)) (ak (aq (.str "sum")) (ak (bw 3) dw))) (ak (gn (fun l=>some (.tup l)) (ak (aq (.str "sum")) (ak (gn Cr (ak (bw 3) dw)) dw))) (ak (gn (fun l=>some (.tup l)) (ak (aq (.str "sum")) (ak (bw 3) (ak (gn (fun l=>some (.tup l)) dw) dw)))) dw))))))))))))
  (jd (jk 4 (mOp ju (bw 4) (gn (fun l=>some (.lst l)) (ak (gn (fun l=>some (.tup l)) (ak (aq (.str "sums")) (ak (bw 3) dw))) (ak (gn (fun l=>some (.tup l)) (ak (aq (.str "rest")) (ak (bw 3) dw))) (ak (gn (fun l=>some (.tup l)) (ak (aq (.str "rest")) (ak (aq (.int 2)) (ak (bw 3) dw)))) (ak (gn (fun l=>some (.tup l)) (ak (bw 3) (ak (aq (.str "sum")) dw))) (ak (gn (fun l=>some (.tup l)) (ak (aq (.str "sum")) (ak (gn (fun l=>some (.tup l)) dw) dw))) (ak (gn (fun l=>some (.tup l)) (ak (aq (.str "sum")) (ak (gn (fun l=>some (.tup l)) (ak (bw 3) dw)) dw))) dw)))))))))
  (jd (jk 4 (mOp ju (bw 4) (gn (fun l=>some (.lst l)) (ak (gn (fun l=>some (.tup l)) (ak (aq (.str "sum")) (ak (gn (fun l=>some (.tup l)) (ak (mOp iw (bw 3) (aq (.int 0))) dw)) dw))) (ak (gn (fun l=>some (.tup l)) (ak (aq (.str "sum")) (ak (gn (fun l=>some (.tup l)) (ak (mOp iw (bw 3) (aq (.int 1))) dw)) dw))) (ak (gn (fun l=>some (.tup l)) (ak (aq (.str "sum")) (ak (gn (fun l=>some (.tup l)) (ak (mOp iw (bw 3) (aq (.int 0))) (ak (gn (fun l=>some (.tup l)) (ak (mOp iw (mOp iw (bw 3) (aq (.int 1))) (aq (.int 0))) (ak (aq (.int 2)) dw))) dw))) dw))) dw))))))
  (jd (jk 4 (mOp ju (bw 4) (gn (fun l=>some (.lst l)) (ak (gn (fun l=>some (.tup l)) (ak (aq (.str "sum")) (ak (mOp ju (mUn Wk (bw 3)) (gn (fun l=>some (.tup l)) (ak (aq (.int 0)) dw))) dw))) (ak (gn (fun l=>some (.tup l)) (ak (aq (.str "sum")) (ak (gn (fun l=>some (.tup l)) (ak (mOp iw (bw 3) (aq (.int 0))) (ak (gn (fun l=>some (.tup l)) (ak (bw 1) (ak (aq (.bl true)) dw))) dw))) dw))) (ak (gn (fun l=>some (.tup l)) (ak (aq (.str "sum")) (ak (gn (fun l=>some (.tup l)) (ak (mOp iw (bw 3) (aq (.int 0))) (ak (gn (fun l=>some (.tup l)) (ak (bw 1) (ak (aq (.str "1")) dw))) dw))) dw))) dw))))))
  (jd (jk 4 (mOp ju (bw 4) (gn (fun l=>some (.lst l)) (ak (gn (fun l=>some (.tup l)) (ak (aq (.str "sum")) (ak (gn (fun l=>some (.tup l)) (ak (mOp iw (bw 3) (aq (.int 0))) (ak (gn (fun l=>some (.lst l)) (ak (bw 1) (ak (aq (.int 1)) dw))) dw))) dw))) (ak (gn (fun l=>some (.tup l)) (ak (aq (.str "sum")) (ak (gn (a1q 0) (ak (aq (.int 1)) dw)) dw))) (ak (gn (fun l=>some (.tup l)) (ak (aq (.str "or")) (ak (aq (.int 0)) (ak (gn (fun l=>some (.tup l)) dw) dw)))) (ak (gn (fun l=>some (.tup l)) (ak (aq (.str "or")) (ak (aq (.int 0)) (ak (gn (fun l=>some (.tup l)) (ak (bw 0) dw)) dw)))) (ak (gn (fun l=>some (.tup l)) (ak (aq (.str "or")) (ak (bw 1) (ak (gn (fun l=>some (.tup l)) (ak (bw 0) dw)) dw)))) dw))))))))
  (jd (jk 4 (mOp ju (bw 4) (gn (fun l=>some (.lst l)) (ak (gn (fun l=>some (.tup l)) (ak (aq (.str "or")) (ak (mUn ni (aq (.int 1))) (ak (gn (fun l=>some (.tup l)) (ak (bw 0) (ak (bw 0) dw))) dw)))) (ak (gn (fun l=>some (.tup l)) (ak (aq (.str "or")) (ak (aq (.bl true)) (ak (gn (fun l=>some (.tup l)) (ak (bw 0) (ak (bw 0) dw))) dw)))) (ak (gn (fun l=>some (.tup l)) (ak (aq (.str "cut")) (ak (aq (.str "x")) (ak (aq (.int 0)) (ak (bw 0) dw))))) dw))))))
  (jd (jk 4 (mOp ju (bw 4) (gn (fun l=>some (.lst l)) (ak (gn (fun l=>some (.tup l)) (ak (aq (.str "cut")) (ak (aq (.str "x")) (ak (aq (.int 0)) (ak (bw 0) (ak (aq .non) dw)))))) (ak (gn (fun l=>some (.tup l)) (ak (aq (.str "cut")) (ak (aq (.str "q")) (ak (aq (.int 0)) (ak (bw 0) (ak (bw 0) dw)))))) (ak (gn (fun l=>some (.tup l)) (ak (aq (.str "cut")) (ak (aq (.int 0)) (ak (aq (.int 0)) (ak (bw 0) (ak (bw 0) dw)))))) dw))))))
  (jd (jk 4 (mOp ju (bw 4) (gn (fun l=>some (.lst l)) (ak (gn (fun l=>some (.tup l)) (ak (aq (.str "cut")) (ak (aq (.str "x")) (ak (aq (.bl true)) (ak (bw 0) (ak (bw 0) dw)))))) (ak (gn (fun l=>some (.tup l)) (ak (aq (.str "cut")) (ak (aq (.str "x")) (ak (aq (.str "0")) (ak (bw 0) (ak (bw 0) dw)))))) (ak (gn (fun l=>some (.tup l)) (ak (aq (.str "cut")) (ak (gn (fun l=>some (.tup l)) (ak (aq (.str "x")) dw)) (ak (aq (.int 0)) (ak (bw 0) (ak (bw 0) dw)))))) dw))))))
  (jd (jk 4 (mOp ju (bw 4) (gn (fun l=>some (.lst l)) (ak (gn (fun l=>some (.tup l)) (ak (aq (.str "cut")) (ak (aq (.str "x")) (ak (aq (.int 0)) (ak (gn (fun l=>some (.lst l)) (ak (bw 0) dw)) (ak (bw 0) dw)))))) (ak (gn (fun l=>some (.tup l)) (ak (aq (.str "cuts")) (ak (aq (.str "x")) (ak (aq (.int 0)) (ak (bw 0) (ak (bw 0) dw)))))) (ak (gn (fun l=>some (.tup l)) (ak (aq (.str "or")) (ak (aq (.int 9)) (ak (gn (fun l=>some (.tup l)) (ak (bw 0) (ak (bw 0) dw))) dw)))) dw))))))
  (jd (jk 4 (mOp ju (bw 4) (gn (fun l=>some (.lst l)) (ak (gn (fun l=>some (.tup l)) (ak (aq (.str "cut")) (ak (aq .non) (ak (aq (.int 0)) (ak (bw 0) (ak (bw 0) dw)))))) (ak (gn (fun l=>some (.tup l)) (ak (aq (.str "or")) (ak (aq (.bl false)) (ak (gn (fun l=>some (.tup l)) (ak (bw 0) (ak (bw 0) dw))) dw)))) (ak (gn (fun l=>some (.tup l)) (ak (aq (.str "or")) (ak (aq (.int 0)) (ak (gn (fun l=>some (.tup l)) (ak (bw 0) (ak (bw 0) (ak (bw 0) dw)))) dw)))) dw))))))
  (jd (jk 4 (mOp ju (bw 4) (gn (fun l=>some (.lst l)) (ak (gn (fun l=>some (.tup l)) (ak (aq (.str "or")) (ak (aq (.int 0)) (ak (gn (fun l=>some (.lst l)) (ak (bw 0) (ak (bw 0) dw))) dw)))) (ak (gn (fun l=>some (.tup l)) (ak (aq (.str "or")) (ak (aq (.int 0)) (ak (gn (fun l=>some (.tup l)) (ak (bw 0) (ak (bw 0) dw))) (ak (gn (fun l=>some (.tup l)) dw) dw))))) (ak (gn (fun l=>some (.tup l)) (ak (aq (.str "cut")) (ak (aq (.str "x")) (ak (aq (.int 0)) (ak (bw 0) (ak (bw 0) (ak (bw 0) dw))))))) dw))))))
  (jl (mOp iw (bw 4) (mOp jy (bw 2) (aq (.int 45)))))))))))))))))
noncomputable def jz:Fn:=iy 3
  (jd (sIf (fj (mOp eqO (mOp jy (bw 2) (aq (.int 4))) (aq (.int 1))))
  (jl (gn (fun l=>some (.tup l)) (ak (aq (.str "cut")) (ak (aq (.str "x")) (ak (mOp qb (mOp jy (mOp j8 (bw 2) (aq (.int 4))) (aq (.int 7))) (aq (.int 3))) (ak (bw 0) (ak (bw 1) dw)))))))
  jt)
  (jd (sIf (fj (mOp eqO (mOp jy (bw 2) (aq (.int 4))) (aq (.int 2))))
  (jl (gn (fun l=>some (.tup l)) (ak (aq (.str "cut")) (ak (aq (.str "x")) (ak (mOp jy (bw 2) (mOp Tp (aq (.int 10)) (aq (.int 60)))) (ak (bw 1) (ak (bw 0) dw)))))))
  jt)
  (jd (sIf (fj (mOp eqO (mOp jy (bw 2) (aq (.int 4))) (aq (.int 3))))
  (jl (gn (fun l=>some (.tup l)) (ak (aq (.str "or")) (ak (aq (.int 0)) (ak (gn (fun l=>some (.tup l)) (ak (bw 0) (ak (bw 1) dw))) dw)))))
  jt)
  (jl (bw 0)))))
noncomputable def m5:Fn:=iy 4
  (jd (jk 2 (bw 0))
  (jd (mz (hName 3) (gk (bw 1))
  (sIf (fj (mOp eqO (mOp jy (bw 3) (aq (.int 3))) (aq (.int 0))))
  (jk 2 (gn (fun l=>some (.tup l)) (ak (aq (.str "cut")) (ak (aq (.str "x")) (ak (bw 3) (ak (bw 2) (ak (bw 0) dw)))))))
  (sIf (fj (mOp eqO (mOp jy (bw 3) (aq (.int 3))) (aq (.int 1))))
  (jk 2 (gn (fun l=>some (.tup l)) (ak (aq (.str "cut")) (ak (aq (.str "x")) (ak (mUn ni (bw 3)) (ak (bw 0) (ak (bw 2) dw)))))))
  (jk 2 (gn (fun l=>some (.tup l)) (ak (aq (.str "or")) (ak (aq (.int 0)) (ak (gn (fun l=>some (.tup l)) (ak (bw 0) (ak (bw 2) dw))) dw))))))))
  (jl (bw 2))))
noncomputable def Tg:Fn:=iy 13
  (jd (jk 1 (dz yw (ak (bw 0) dw)))
  (jd (jk 2 (mOp Ms (aq (.int 2)) (gn m9 (ak (bw 1) dw))))
  (jd (jk 3 (mOp iw (mOp iw (bw 1) (aq (.int 0))) (aq (.int 2))))
  (jd (jk 4 (gn (fun l=>some (.lst l)) (ak (gn (fun l=>some (.tup l)) (ak (aq (.str "most")) (ak (gn (fun l=>some (.tup l)) (ak (mOp ju (bw 3) (aq (.int 1))) (ak (gn (fun l=>some (.tup l)) (ak (gn (fun l=>some (.tup l)) (ak (aq (.str "x")) (ak (mUn ni (aq (.int 1))) dw))) dw)) dw))) dw))) (ak (gn (fun l=>some (.tup l)) (ak (aq (.str "or")) (ak (gn (fun l=>some (.tup l)) (ak (gn (fun l=>some (.tup l)) (ak (aq (.str "and")) (ak (gn (fun l=>some (.tup l)) dw) dw))) (ak (gn (fun l=>some (.tup l)) (ak (aq (.str "most")) (ak (gn (fun l=>some (.tup l)) (ak (aq (.int 0)) (ak (gn (fun l=>some (.tup l)) dw) dw))) dw))) dw))) dw))) (ak (gn (fun l=>some (.tup l)) (ak (aq (.str "and")) (ak (gn (fun l=>some (.tup l)) dw) dw))) dw)))))
  (jd (jk 5 (gn (fun l=>some (.tup l)) (ak (aq (.str "sum")) (ak (gn (fun l=>some (.tup l)) (ak (gn (fun l=>some (.tup l)) (ak (aq (.int 1)) (ak (aq (.int 1)) dw))) (ak (gn (fun l=>some (.tup l)) (ak (bw 2) (ak (aq (.int 1)) dw))) dw))) dw))))
  (jd (mz (hName 6) (jw (Dh (bw 0) (Fv (aq (.int 4))) (Fv (aq (.int 63)))))
  (jd (jk 7 (mOp j8 (bw 6) (aq (.int 45))))
  (jd (sIf (fj (mOp xg (dz jh (ak (bw 1) (ak (bw 4) (ak (dz jz (ak (bw 5) (ak (bw 5) (ak (bw 7) dw)))) dw)))) (aq (.bl true))))
  (jl (aq (.bl false)))
  jt)
  (sIf (fj (mOp xg (dz jh (ak (bw 1) (ak (bw 4) (ak (dz jz (ak (dz sy (ak (bw 5) (ak (bw 2) (ak (bw 6) dw)))) (ak (bw 5) (ak (bw 7) dw)))) dw)))) (aq (.bl false))))
  (jl (aq (.bl false)))
  jt))))
  (jd (mz (hName 6) (gk (aq (.int 45)))
  (sIf (fj (mOp xg (dz jh (ak (bw 1) (ak (bw 4) (ak (dz sy (ak (bw 5) (ak (bw 2) (ak (bw 6) dw)))) dw)))) (aq (.bl false))))
  (jl (aq (.bl false)))
  jt))
  (jd (jk 8 (gn (fun l=>some (.tup l)) (ak (aq (.str "sum")) (ak (gn (fun l=>some (.tup l)) (ak (gn (fun l=>some (.tup l)) (ak (aq (.int 1)) (ak (aq (.int 1)) dw))) (ak (gn (fun l=>some (.tup l)) (ak (bw 2) (ak (aq (.int 1)) dw))) dw))) dw))))
  (jd (jk 9 (gn (fun l=>some (.lst l)) (ak (gn (fun l=>some (.tup l)) (ak (aq (.str "or")) (ak (gn (fun l=>some (.tup l)) (ak (mOp iw (bw 4) (aq (.int 0))) (ak (gn (fun l=>some (.tup l)) (ak (aq (.str "most")) (ak (gn (fun l=>some (.tup l)) (ak (aq (.int 0)) (ak (gn (fun l=>some (.tup l)) dw) dw))) dw))) dw))) dw))) dw)))
  (jd (sIf (fj (mOp xg (dz jh (ak (bw 1) (ak (bw 9) (ak (gn (fun l=>some (.tup l)) (ak (aq (.str "or")) (ak (aq (.int 0)) (ak (gn (fun l=>some (.tup l)) (ak (bw 8) (ak (bw 8) dw))) dw)))) dw)))) (aq (.bl false))))
  (jl (aq (.bl false)))
  jt)
  (jd (jk 10 (gn (fun l=>some (.tup l)) (ak (aq (.str "sum")) (ak (gn (fun l=>some (.tup l)) (ak (gn (fun l=>some (.tup l)) (ak (aq (.int 0)) (ak (aq (.int 1)) dw))) (ak (gn (fun l=>some (.tup l)) (ak (bw 2) (ak (aq (.int 1)) dw))) dw))) dw))))
  (jd (sIf (fj (mOp xg (dz jh (ak (bw 1) (ak (gn (fun l=>some (.lst l)) dw) (ak (gn (fun l=>some (.tup l)) (ak (aq (.str "cut")) (ak (aq (.str "x")) (ak (mOp qb (mOp iw (mOp iw (bw 1) (aq (.int 0))) (aq (.int 1))) (aq (.int 1))) (ak (bw 10) (ak (bw 10) dw)))))) dw)))) (aq (.bl false))))
  (jl (aq (.bl false)))
  jt)
  (jd (jk 11 (mOp jy (dz jm (ak (bw 0) (ak (aq (.int 4)) dw))) (aq (.int 90))))
  (jd (jk 12 (mOp ju (aq (.int 90)) (mOp jy (mOp j8 (dz jm (ak (bw 0) (ak (aq (.int 4)) dw))) (aq (.int 90))) (aq (.int 9)))))
  (jd (sIf (mOr (fj (mOp xg (dz jh (ak (bw 1) (ak (bw 4) (ak (dz m5 (ak (bw 5) (ak (bw 11) dw))) dw)))) (aq (.bl true)))) (fj (mOp xg (dz jh (ak (bw 1) (ak (bw 4) (ak (dz m5 (ak (bw 5) (ak (aq (.int 89)) dw))) dw)))) (aq (.bl true)))))
  (jl (aq (.bl false)))
  jt)
  (jl (iz (kj (fj (mOp isC (dz jh (ak (bw 1) (ak (bw 4) (ak (dz m5 (ak (bw 5) (ak (aq (.int 90)) dw))) dw)))) (aq (.bl false)))) (fj (mOp isC (dz jh (ak (bw 1) (ak (bw 4) (ak (dz m5 (ak (bw 5) (ak (bw 12) dw))) dw)))) (aq (.bl false))))))))))))))))))))))
end K
end
noncomputable section
set_option linter.all false
set_option maxRecDepth 100000
set_option autoImplicit false
namespace K
open C PySem
noncomputable abbrev Pr:=Str × Int
noncomputable def pT (p:Pr):T:=.tup [.str p.1,.int p.2]
noncomputable abbrev Sm:=Int × List Pr
noncomputable def smT (s:Sm):T:=.tup [.int s.1,.tup (s.2.map pT)]
noncomputable def dd (d:List Pr):List (C.Key × T):=d.map fun p=>(.inr p.1,.int p.2)
noncomputable def gt:List Pr→Str→Int
  | [],_=>0
  | (k,v)::r,b=>if k=b then v else gt r b
noncomputable def ks (d:List Pr):List Str:=d.map (·.1)
noncomputable def pt (d:List Pr) (b:Str) (v:Int):List Pr:=if b∈ks d then d.map fun p=>if p.1=b then (p.1,v) else p else d++[(b,v)]
theorem Ue (b:Str):∀ d:List Pr,(Rj (.inr b) (dd d)).getD (.int 0)=.int (gt d b)
  | []=>rfl
  | (k,v)::r=>by
    have ih:=Ue b r
    unfold dd at ih ⊢
    simp only [List.map_cons,Rj,gt]
    by_cases h:k=b
    · simp [h]
    · rw [if_neg (by simpa using h),if_neg h,ih]
theorem Qo {b:Str}:∀ {d:List Pr},b∈ks d→Rj (.inr b) (dd d)=some (.int (gt d b))
  | [],h=>by simp [ks] at h
  | (k,v)::r,h=>by
    unfold dd
    simp only [List.map_cons,Rj,gt]
    by_cases e:k=b
    · simp [e]
    · rw [if_neg (by simpa using e),if_neg e]
      simp only [ks,List.map_cons,List.mem_cons] at h
      rcases h with h | h
      · exact absurd h.symm e
      · exact Qo (d:=r) h
theorem Qz {b:Str}:∀ {d:List Pr},b∉ks d→gt d b=0
  | [],_=>rfl
  | (k,v)::r,h=>by
    simp only [ks,List.map_cons,List.mem_cons,not_or] at h
    rw [gt,if_neg (fun e=>h.1 e.symm)]
    exact Qz (d:=r) h.2
theorem a1w (b:Str) (v:Int) (d:List Pr):a0y (.inr b) (.int v) (dd d)=dd (pt d b v):=by
  have any:((dd d).any fun p=>decide (p.1=Sum.inr b))=decide (b∈ks d):=by
    rw [Bool.eq_iff_iff]
    simp only [List.any_eq_true,decide_eq_true_eq,dd,ks,List.mem_map]
    constructor
    · rintro ⟨x,⟨p,hp,rfl⟩,h⟩
      simp only [Sum.inr.injEq] at h
      exact ⟨p,hp,h⟩
    · rintro ⟨p,hp,h⟩
      exact ⟨_,⟨p,hp,rfl⟩,by simp [h]⟩
  unfold a0y pt
  rw [any]
  by_cases h:b∈ks d
  · rw [if_pos (by simpa using h),if_pos h] -- here
    unfold dd
    rw [List.map_map,List.map_map] -- here
    apply List.map_congr_left
    intro p _
    simp only [Function.comp,Sum.inr.injEq]
    split <;> rfl
  · rw [if_neg (by simpa using h),if_neg h] -- here
    unfold dd
    rw [List.map_append]; rfl
theorem a3z (d:List Pr) (b:Str) (v:Int):ks (pt d b v)=if b∈ks d then ks d else ks d++[b]:=by
  unfold pt
  split
  · unfold ks
    rw [List.map_map]
    apply List.map_congr_left
    intro p _
    simp only [Function.comp]
    split <;> rfl
  · unfold ks; rw [List.map_append]; rfl
theorem Kc {b k:Str} {v:Int} {r:List Pr}:b∈ks ((k,v)::r)↔b=k∨b∈ks r:=by simp [ks]
theorem a00 {b:Str} {e:List Pr}:∀ {d:List Pr},gt (d++e) b=if b∈ks d then gt d b else gt e b
  | []=>by simp [ks]
  | (k,v)::r=>by
    simp only [List.cons_append,gt]
    by_cases h:k=b
    · rw [if_pos h,if_pos h,if_pos (Kc.mpr (.inl h.symm))]
    · rw [if_neg h,if_neg h,a00 (d:=r)]
      have hiff:(b∈ks ((k,v)::r))↔b∈ks r:=Kc.trans ⟨fun z=>z.resolve_left fun z=>h z.symm,.inr⟩
      by_cases hr:b∈ks r
      · rw [if_pos hr,if_pos (hiff.mpr hr)]
      · rw [if_neg hr,if_neg (fun z=>hr (hiff.mp z))]
theorem Zw {b c:Str} {v:Int}:∀ {d:List Pr},gt (d.map fun p=>if p.1=b then (p.1,v) else p) c=if c=b∧c∈ks d then v else gt d c
  | []=>by simp [ks,gt]
  | (k,w)::r=>by
    have ih:=Zw (b:=b) (c:=c) (v:=v) (d:=r)
    rw [List.map_cons]
    by_cases h:k=b
    · rw [if_pos h]
      simp only [gt]
      by_cases hc:k=c
      · rw [if_pos hc,if_pos ⟨by rw [← hc,h],Kc.mpr (.inl hc.symm)⟩]
      · rw [if_neg hc,if_neg hc,ih]
        have hb:¬ c=b:=fun z=>hc (by rw [h,z])
        rw [if_neg (fun z=>hb z.1),if_neg (fun z=>hb z.1)]
    · rw [if_neg h]
      simp only [gt]
      by_cases hc:k=c
      · rw [if_pos hc,if_pos hc]
        have hb:¬ c=b:=fun z=>h (by rw [hc,z])
        rw [if_neg (fun z=>hb z.1)]
      · rw [if_neg hc,if_neg hc,ih]
        have hiff:(c∈ks ((k,w)::r))↔c∈ks r:=Kc.trans ⟨fun z=>z.resolve_left fun z=>hc z.symm,.inr⟩
        by_cases hr:c=b∧c∈ks r
        · rw [if_pos hr,if_pos ⟨hr.1,hiff.mpr hr.2⟩]
        · rw [if_neg hr,if_neg (fun z=>hr ⟨z.1,hiff.mp z.2⟩)]
theorem a78 {d:List Pr} {b c:Str} {v:Int}:gt (pt d b v) c=if c=b then v else gt d c:=by
  unfold pt
  split
  · rename_i h
    rw [Zw]
    by_cases e:c=b
    · rw [if_pos ⟨e,by rw [e]; exact h⟩,if_pos e]
    · rw [if_neg (fun z=>e z.1),if_neg e]
  · rename_i h
    rw [a00]
    by_cases e:c=b
    · subst e
      rw [if_neg h,if_pos rfl]; simp [gt]
    · rw [if_neg e]
      split
      · rfl
      · rename_i h2
        have:¬ b=c:=fun z=>e z.symm
        rw [Qz h2]
        simp [gt,this]
noncomputable def tot:List Pr→Str→Int
  | [],_=>0
  | (k,v)::r,b=>(if k=b then v else 0)+tot r b
noncomputable def Wq (l:List Pr) (d:List Pr):List Pr:=l.foldl (fun d p=>pt d p.1 (gt d p.1+p.2)) d
theorem Wv (b:Str):∀ (l d:List Pr),gt (Wq l d) b=gt d b+tot l b
  | [],d=>by simp [Wq,tot]
  | (k,v)::r,d=>by
    have ih:=Wv b r (pt d k (gt d k+v))
    unfold Wq at ih ⊢
    rw [List.foldl_cons,ih,a78,tot]
    by_cases h:b=k
    · subst h; simp; omega
    · have h2:¬ k=b:=fun z=>h z.symm
      rw [if_neg h,if_neg h2]; omega
theorem Wj:∀ (l d:List Pr),(ks d).Nodup→(ks (Wq l d)).Nodup∧(∀ b,b∈ks (Wq l d)↔b∈ks d∨b∈ks l)
  | [],d,h=>⟨h,fun b=>by simp [Wq,ks]⟩
  | (k,v)::r,d,h=>by
    have h1:(ks (pt d k (gt d k+v))).Nodup:=by
      rw [a3z]
      split
      · exact h
      · rename_i hn
        rw [List.nodup_append]
        exact ⟨h,by simp,fun a ha b hb=>by simp at hb; subst hb; exact fun z=>hn (by rw [← z]; exact ha)⟩
    obtain ⟨a1,a2⟩:=Wj r (pt d k (gt d k+v)) h1
    unfold Wq at a1 a2 ⊢
    rw [List.foldl_cons]
    refine ⟨a1,fun b=>?_⟩
    rw [a2 b,a3z,Kc]
    by_cases hk:k∈ks d
    · rw [if_pos hk]
      constructor
      · rintro (z | z)
        · exact .inl z
        · exact .inr (.inr z)
      · rintro (z | z | z)
        · exact .inl z
        · subst z; exact .inl hk
        · exact .inr z
    · rw [if_neg hk]
      constructor
      · rintro (z | z)
        · rcases List.mem_append.mp z with z | z
          · exact .inl z
          · simp at z; exact .inr (.inl z)
        · exact .inr (.inr z)
      · rintro (z | z | z)
        · exact .inl (List.mem_append_left _ z)
        · subst z; exact .inl (List.mem_append_right _ (by simp))
        · exact .inr z
structure Uni (U:List Str):Prop where
  len:U.length≤8
  ok:∀ x∈U,okS x
  ins:∀ x∈U,∀ P:Str→Bool,P x=false→Tr x (U.filter P)=U.filter fun b=>P b||b==x
noncomputable def canon (U:List Str) (f:Str→Int):List Pr:=(U.filter fun b=>f b != 0).map fun b=>(b,f b)
theorem Ld {U:List Str} (u:Uni U):∀ (l:List Str) (P:Str→Bool),l.Nodup→(∀ b∈l,b∈U∧P b=false)→l.foldl (fun acc x=>Tr x acc) (U.filter P)=U.filter fun b=>P b||l.contains b
  | [],P,_,_=>by simp
  | x::l,P,hn,h=>by
    obtain ⟨h1,h2⟩:=List.nodup_cons.mp hn
    rw [List.foldl_cons,u.ins x (h x List.mem_cons_self).1 P (h x List.mem_cons_self).2,Ld u l _ h2 fun b hb=>⟨(h b (List.mem_cons_of_mem _ hb)).1,by
      rw [(h b (List.mem_cons_of_mem _ hb)).2,Bool.false_or]
      exact beq_eq_false_iff_ne.mpr fun z=>h1 (by rw [← z]; exact hb)⟩]
    congr 1
    funext b
    rw [List.contains_cons,Bool.or_assoc]
theorem Hx {U l:List Str} (u:Uni U) (hn:l.Nodup) (h:∀ b∈l,b∈U):Bj l=U.filter fun b=>l.contains b:=by
  have:=Ld u l (fun _=>false) hn fun b hb=>⟨h b hb,rfl⟩
  unfold Bj
  rw [show U.filter (fun _=>false)=[] by simp] at this
  rw [this]
  apply List.filter_congr
  intro b _
  simp
theorem N6 {U:List Str} {d:List Pr} (u:Uni U) (hn:(ks d).Nodup) (h:∀ b∈ks d,b∈U):((Bj (ks d)).filter fun b=>gt d b != 0)=U.filter fun b=>gt d b != 0:=by
  rw [Hx u hn h,List.filter_filter]
  apply List.filter_congr
  intro b hb
  by_cases e:b∈ks d
  · simp [e]
  · simp [Qz e]
theorem Q6 {U:List Str} {d:List Pr} (u:Uni U) (hn:(ks d).Nodup) (h:∀ b∈ks d,b∈U):d.length≤U.length:=by
  have h1:=List.Nodup.length_le_of_subset hn h
  simpa [ks] using h1
end K
end
noncomputable section
set_option linter.all false
set_option maxRecDepth 100000
set_option autoImplicit false
namespace K
open C PySem
noncomputable def U4:List Str:=["@p","x","yy"]
theorem a7d:Uni U4 where
  len:=by decide
  ok:=by unfold okS; decide +kernel
  ins:=by
    intro x hx P hP
    simp only [U4,List.mem_cons,List.not_mem_nil,or_false] at hx
    unfold U4
    rcases hx with rfl | rfl | rfl
    · cases h1:P "x" <;> cases h2:P "yy" <;> simp only [List.filter_cons,List.filter_nil,hP,h1,h2] <;> decide +kernel
    · cases h1:P "@p" <;> cases h2:P "yy" <;> simp only [List.filter_cons,List.filter_nil,hP,h1,h2] <;> decide +kernel
    · cases h1:P "@p" <;> cases h2:P "x" <;> simp only [List.filter_cons,List.filter_nil,hP,h1,h2] <;> decide +kernel
noncomputable section
variable {U:List Str} {sto:List SO}
theorem keys_str:∀ d:List Pr,Fp ((dd d).map fun p=>T9 p.1)=some (ks d)
  | []=>rfl
  | (k,v)::r=>by
    have ih:=keys_str r
    show (Fp ((dd r).map fun p=>T9 p.1)).map (k :: ·)=_
    rw [ih]; rfl
theorem V6 {d:List Pr} (h:d.length<64):Br [.dic (dd d)]=some (.lst ((Bj (ks d)).map T.str)):=by
  have h2:(dd d).length<64:=by simpa [dd] using h
  simp only [Br,if_pos h2,keys_str,Option.map_some]
noncomputable def prs (l:List Pr) (s:T):Prop:=s=.lst (l.map pT)∨s=.tup (l.map pT)
theorem a1d {l:List Pr} {s:T} (h:prs l s) (hl:l.length<1000000) {m:M T} {st st':Sta} (e:m st=some (s,st')):jw m st=some (l.map pT,st'):=by
  have h1:l.length<lim:=hl
  rcases h with rfl | rfl <;> simp [jw,e,h1]
theorem a5w {b:Str} {v:Int} {d:List Pr}:a0y (.inr b) (.int v) (dd d)=dd (pt d b v):=a1w b v d
theorem a0w {v:Int}:neO (.int v) (.int 0)=some (.bl (v != 0)):=by
  rw [Hu]; rfl
theorem a5h {n:Int} {l:List Pr} {s:T} (u:Uni U) (hs:prs l s) (hl:l.length<1000) (hU:∀ b∈ks l,b∈U):zx [.int n,s] sto=some (smT (n,canon U (tot l)),sto):=by
  have e1:bw 1 ⟨[some (.int n,false),some (s,false),some (.dic (dd []),true),none,none,none],sto⟩=some (s,⟨[some (.int n,false),some (s,false),some (.dic (dd []),true),none,none,none],sto⟩):=rfl
  have is:=a1d hs (by omega) e1
  obtain ⟨hn,hk⟩:=Wj l [] (by simp [ks])
  have hkU:∀ b∈ks (Wq l []),b∈U:=fun b hb=>by
    rcases (hk b).mp hb with z | z
    · simp [ks] at z
    · exact hU b z
  have hlen:=Q6 u hn hkU
  have ul:=u.len
  unfold zx iy
  rw [show ([T.int n,s].map (fun t=>some (t,false))++List.replicate (6 - [T.int n,s].length) none:List Slot)=[some (.int n,false),some (s,false),none,none,none,none] from rfl]
  rw [j4 (s':=⟨[some (.int n,false),some (s,false),some (.dic (dd []),true),none,none,none],sto⟩) rfl]
  have loop:(mz (m8 [3,4]) (jw (bw 1)) (Es 2 (bw 3) (mOp ju (En 2 (bw 3) (aq (.int 0))) (bw 4)))) ⟨[some (.int n,false),some (s,false),some (.dic (dd []),true),none,none,none],sto⟩
      = some (.next,⟨[some (.int n,false),some (s,false),some (.dic (dd (Wq l [])),true),(l.foldl (fun (x:List Pr × Slot × Slot) p=>(pt x.1 p.1 (gt x.1 p.1+p.2),some (.str p.1,false),some (.int p.2,false))) ([],none,none)).2.1,(l.foldl (fun (x:List Pr × Slot × Slot) p=>(pt x.1 p.1 (gt x.1 p.1+p.2),some (.str p.1,false),some (.int p.2,false))) ([],none,none)).2.2,none],sto⟩):=by
    unfold mz
    rw [is]
    dsimp only
    generalize hF:forL _ _ _ _=r
    obtain ⟨rfl,_⟩:=Yw hF pT l (fun (x:List Pr × Slot × Slot)=>(⟨[some (.int n,false),some (s,false),some (.dic (dd x.1),true),x.2.1,x.2.2,none],sto⟩:Sta)) ([],none,none)
      (fun x p=>(pt x.1 p.1 (gt x.1 p.1+p.2),some (.str p.1,false),some (.int p.2,false))) (fun r x=>x.1.length+r.length≤l.length) rfl rfl (by simp) (by
        rintro p r x h1
        simp only [List.length_cons] at h1
        have hlt:(dd x.1).length<lim:=by simp only [dd,List.length_map]; show _<1000000; omega
        refine ⟨⟨_,by unfold pT; exact a75,?_⟩,?_⟩
        · simp [iy,jd,sIf,jk,sNew,jl,jt,sNx,fu,sGo,cj,mz,dg,dj,j9,fj,oh,kj,mOr,iz,mIf,mOp,mUn,bw,gn,ak,dw,aq,jc,dz,cg,hName,m8,gk,jw,ltT,leT,m9,ju,qb,jy,j8,ni,pq,j6,j5,bh,n6,Es,En,Ng,keyOf,Ue,hlt,a5w]
        · have:(pt x.1 p.1 (gt x.1 p.1+p.2)).length≤x.1.length+1:=by
            unfold pt
            split
            · rw [List.length_map]; omega
            · rw [List.length_append,List.length_singleton]; exact Nat.le_refl _
          dsimp only
          omega)
    have fst:∀ (l:List Pr) (x:List Pr × Slot × Slot),(l.foldl (fun (x:List Pr × Slot × Slot) p=>(pt x.1 p.1 (gt x.1 p.1+p.2),some (T.str p.1,false),some (T.int p.2,false))) x).1=Wq l x.1:=fun l=>by
      induction l with
      | nil=>intro x; rfl
      | cons p l ih=>intro x; rw [List.foldl_cons,ih]; rfl
    rw [fst]
  rw [j4 loop]
  generalize (l.foldl (fun (x:List Pr × Slot × Slot) p=>(pt x.1 p.1 (gt x.1 p.1+p.2),some (T.str p.1,false),some (T.int p.2,false))) ([],none,none)).2.1=o3
  generalize (l.foldl (fun (x:List Pr × Slot × Slot) p=>(pt x.1 p.1 (gt x.1 p.1+p.2),some (T.str p.1,false),some (T.int p.2,false))) ([],none,none)).2.2=o4
  generalize hd:Wq l []=d at *
  have hso:=V6 (d:=d) (by omega)
  have il:(Bj (ks d)).length<lim:=by
    rw [Hx u hn hkU]
    exact Nat.lt_of_le_of_lt (List.length_filter_le _ _) (by show _<1000000; omega)
  simp [iy,jd,sIf,jk,sNew,jl,jt,sNx,fu,sGo,cj,mz,dg,dj,j9,fj,oh,kj,mOr,iz,mIf,mOp,mUn,bw,gn,ak,dw,aq,jc,dz,cg,hName,m8,gk,jw,ltT,leT,m9,ju,qb,jy,j8,ni,pq,j6,j5,bh,n6]
  generalize hF:qz 1 _ _ _ _ _ _=r
  have e:=Kw hF T.str (fun b=>pT (b,gt d b)) (fun b=>gt d b != 0) (Bj (ks d)) ⟨[some (.int n,false),some (s,false),some (.dic (dd d),false),o3,o4,none],sto⟩ [some (.int n,false),some (s,false),some (.dic (dd d),false),o3,o4,none] [some (.dic (dd d),false)] (by first | exact rfl | simp [iy,jd,sIf,jk,sNew,jl,jt,sNx,fu,sGo,cj,mz,dg,dj,j9,fj,oh,kj,mOr,iz,mIf,mOp,mUn,bw,gn,ak,dw,aq,jc,dz,cg,hName,m8,gk,jw,ltT,leT,m9,ju,qb,jy,j8,ni,pq,j6,j5,bh,n6,hso,il]) rfl rfl rfl (Nat.le_of_lt il) (fun b hb pre hp=>by
    have hb2:b∈ks d:=by
      rw [Hx u hn hkU] at hb
      have:=(List.mem_filter.mp hb).2
      simpa using this
    have hg:=Qo hb2
    match pre,hp with
    | [p0],_=>exact ⟨[some (.str b,false)],rfl,by first | exact rfl | simp [iy,jd,sIf,jk,sNew,jl,jt,sNx,fu,sGo,cj,mz,dg,dj,j9,fj,oh,kj,mOr,iz,mIf,mOp,mUn,bw,gn,ak,dw,aq,jc,dz,cg,hName,m8,gk,jw,ltT,leT,m9,ju,qb,jy,j8,ni,pq,j6,j5,bh,n6],by first | exact rfl | simp [iy,jd,sIf,jk,sNew,jl,jt,sNx,fu,sGo,cj,mz,dg,dj,j9,fj,oh,kj,mOr,iz,mIf,mOp,mUn,bw,gn,ak,dw,aq,jc,dz,cg,hName,m8,gk,jw,ltT,leT,m9,ju,qb,jy,j8,ni,pq,j6,j5,bh,n6,iw,keyOf,hg,a0w],fun _=>by first | exact rfl | simp [iy,jd,sIf,jk,sNew,jl,jt,sNx,fu,sGo,cj,mz,dg,dj,j9,fj,oh,kj,mOr,iz,mIf,mOp,mUn,bw,gn,ak,dw,aq,jc,dz,cg,hName,m8,gk,jw,ltT,leT,m9,ju,qb,jy,j8,ni,pq,j6,j5,bh,n6,iw,keyOf,hg,pT]⟩)
  subst e
  rw [N6 u hn hkU]
  have hg:∀ b,gt d b=tot l b:=fun b=>by rw [← hd,Wv]; simp [gt]
  simp [iy,jd,sIf,jk,sNew,jl,jt,sNx,fu,sGo,cj,mz,dg,dj,j9,fj,oh,kj,mOr,iz,mIf,mOp,mUn,bw,gn,ak,dw,aq,jc,dz,cg,hName,m8,gk,jw,ltT,leT,m9,ju,qb,jy,j8,ni,pq,j6,j5,bh,n6,Bb,smT,canon]
  simp only [hg]
  rfl
end
end K
end
noncomputable section
set_option linter.all false
set_option maxRecDepth 100000
set_option autoImplicit false
namespace K
open C PySem
noncomputable section
variable {U:List Str} {sto:List SO}
structure X7 (U:List Str) (s:Sm):Prop where
  nd:(ks s.2).Nodup
  sub:∀ b∈ks s.2,b∈U
theorem Q0 {f:Str→Int}:ks (canon U f)=U.filter fun b=>f b != 0:=by
  unfold ks canon
  rw [List.map_map]
  exact List.map_id' _
theorem Z5 {f:Str→Int} {n:Int} (hU:U.Nodup):X7 U (n,canon U f):=⟨by
  show (ks (canon U f)).Nodup
  rw [Q0]; exact hU.filter _,fun b hb=>by
  have hb:b∈ks (canon U f):=hb
  rw [Q0] at hb; exact (List.mem_filter.mp hb).1⟩
theorem Zy {b:Str}:∀ {l:List Pr},(ks l).Nodup→tot l b=gt l b
  | [],_=>rfl
  | (k,v)::r,h=>by
    obtain ⟨h1,h2⟩:=List.nodup_cons.mp (show (k::ks r).Nodup from h)
    rw [tot,gt,Zy h2]
    by_cases e:k=b
    · subst e; rw [if_pos rfl,if_pos rfl,Qz h1]; omega
    · rw [if_neg e,if_neg e]; omega
theorem a04 {s:Sm} (u:Uni U) (h:X7 U s):s.2.length≤8:=Nat.le_trans (Q6 u h.nd h.sub) u.len
end
end K
end
noncomputable section
set_option linter.all false
set_option maxRecDepth 100000
set_option autoImplicit false
namespace K
open C PySem
inductive Fm where
  | atom (k:Str) (r:List T) | all (l:List Fm) | any (ms:List T)
mutual
noncomputable def fmT:Fm→T
  | .atom k r=>.tup (.str k::r)
  | .all l=>.tup [.str "and",.tup (a2w l)]
  | .any ms=>.tup [.str "or",.tup ms]
noncomputable def a2w:List Fm→List T
  | []=>[]
  | f::l=>fmT f::a2w l
end
mutual
noncomputable def fsz:Fm→Nat
  | .atom _ _=>1
  | .all l=>1+Fl l
  | .any _=>1
noncomputable def Fl:List Fm→Nat
  | []=>0
  | f::l=>fsz f+Fl l
end
mutual
noncomputable def flA:Fm→List T
  | .atom k r=>[.tup (.str k::r)]
  | .all l=>Ib l
  | .any _=>[]
noncomputable def Ib:List Fm→List T
  | []=>[]
  | f::l=>flA f++Ib l
end
mutual
noncomputable def flO:Fm→List T
  | .atom _ _=>[]
  | .all l=>Ie l
  | .any ms=>[.tup ms]
noncomputable def Ie:List Fm→List T
  | []=>[]
  | f::l=>flO f++Ie l
end
noncomputable def okA (k:Str):Prop:=okS k∧(k==("and" : Str))=false∧(k==("or" : Str))=false
mutual
noncomputable def okF:Fm→Prop
  | .atom k _=>okA k
  | .all l=>Xi l
  | .any _=>True
noncomputable def Xi:List Fm→Prop
  | []=>True
  | f::l=>okF f∧Xi l
end
theorem Qj:∀ l:List Fm,a2w l=l.map fmT
  | []=>rfl
  | f::l=>by rw [a2w,Qj l]; rfl
theorem Fx:∀ l r:List Fm,Fl (l++r)=Fl l+Fl r
  | [],r=>by simp [Fl]
  | f::l,r=>by rw [List.cons_append,Fl,Fl,Fx l r]; omega
theorem Ql:∀ l r:List Fm,Ib (l++r)=Ib l++Ib r
  | [],r=>by simp [Ib]
  | f::l,r=>by rw [List.cons_append,Ib,Ib,Ql l r,List.append_assoc]
theorem Q8:∀ l r:List Fm,Ie (l++r)=Ie l++Ie r
  | [],r=>by simp [Ie]
  | f::l,r=>by rw [List.cons_append,Ie,Ie,Q8 l r,List.append_assoc]
theorem Qn:∀ l r:List Fm,Xi l→Xi r→Xi (l++r)
  | [],r,_,h=>h
  | f::l,r,h1,h2=>by rw [List.cons_append,Xi]; exact ⟨h1.1,Qn l r h1.2 h2⟩
theorem Mw:∀ l:List Fm,l.length≤Fl l
  | []=>by simp [Fl]
  | f::l=>by
    have:=Mw l
    have:1≤fsz f:=by cases f <;> simp [fsz] <;> omega
    rw [Fl,List.length_cons]; omega
theorem Xf {f:Fm} {r:List Fm}:((f::r).reverse.map fmT)[((f::r).reverse.map fmT).length - 1]? = some (fmT f):=by
  rw [List.reverse_cons,List.map_append,List.length_append]
  simp
theorem Z9 {f:Fm} {r:List Fm}:((f::r).reverse.map fmT).dropLast=r.reverse.map fmT:=by
  rw [List.reverse_cons,List.map_append]
  simp
theorem Ov:okS "and" := by unfold okS; decide +kernel
theorem Za:okS "or" := by unfold okS; decide +kernel
theorem a4f:(("or" : Str)==("and" : Str))=false:=by decide +kernel
noncomputable section
variable {sto:List SO} {L F:T}
noncomputable abbrev a3h:M Bool:=fj (mOp gtT (Aj 4) (aq (.int 0)))
noncomputable abbrev a7f:S:=(jd (Vd 4 5)
  (sIf (fj (mOp eqO (mOp iw (bw 5) (aq (.int 0))) (aq (.str "and"))))
  (dj 4 (mUn Wk (mOp iw (bw 5) (aq (.int 1)))))
  (sIf (fj (mOp eqO (mOp iw (bw 5) (aq (.int 0))) (aq (.str "or"))))
  (dg 3 (mOp iw (bw 5) (aq (.int 1))))
  (dg 2 (bw 5)))))
theorem Dz:∀ (n:Nat) (l:List Fm) (A O:List T) (o5:Slot),Fl l<n→Xi l→A.length+Fl l<900000→O.length+Fl l<900000→∃ o5',wg n a3h a7f ⟨[some (L,false),some (F,false),some (.lst A,true),some (.lst O,true),some (.lst (l.reverse.map fmT),true),o5],sto⟩=some (.next,⟨[some (L,false),some (F,false),some (.lst (A++Ib l),true),some (.lst (O++Ie l),true),some (.lst [],true),o5'],sto⟩)
  | 0,l,A,O,o5,h,_,_,_=>by omega
  | n+1,[],A,O,o5,h,ok,h1,h2=>⟨o5,by
    rw [wg]
    simp [iy,jd,sIf,jk,sNew,jl,jt,sNx,fu,sGo,cj,mz,dg,dj,j9,fj,oh,kj,mOr,iz,mIf,mOp,mUn,bw,gn,ak,dw,aq,jc,dz,cg,hName,m8,gk,jw,ltT,leT,m9,ju,qb,jy,j8,ni,pq,j6,j5,bh,n6,Aj,gtT,Ib,Ie]⟩
  | n+1,f::r,A,O,o5,h,ok,h1,h2=>by
    have f1:1≤fsz f:=by cases f <;> simp [fsz] <;> omega
    rw [Fl] at h h1 h2
    have c1:a3h ⟨[some (L,false),some (F,false),some (.lst A,true),some (.lst O,true),some (.lst ((f::r).reverse.map fmT),true),o5],sto⟩=some (true,⟨[some (L,false),some (F,false),some (.lst A,true),some (.lst O,true),some (.lst ((f::r).reverse.map fmT),true),o5],sto⟩):=by
      simp [iy,jd,sIf,jk,sNew,jl,jt,sNx,fu,sGo,cj,mz,dg,dj,j9,fj,oh,kj,mOr,iz,mIf,mOp,mUn,bw,gn,ak,dw,aq,jc,dz,cg,hName,m8,gk,jw,ltT,leT,m9,ju,qb,jy,j8,ni,pq,j6,j5,bh,n6,Aj,gtT]
    have pop:Vd 4 5 ⟨[some (L,false),some (F,false),some (.lst A,true),some (.lst O,true),some (.lst ((f::r).reverse.map fmT),true),o5],sto⟩=some (.next,⟨[some (L,false),some (F,false),some (.lst A,true),some (.lst O,true),some (.lst (r.reverse.map fmT),true),some (fmT f,false)],sto⟩):=by
      unfold Vd
      dsimp only [List.getElem?_cons_succ,List.getElem?_cons_zero]
      rw [Xf]
      dsimp only
      rw [Z9]; rfl
    have la:A.length<lim:=by show _<1000000; omega
    have lo:O.length<lim:=by show _<1000000; omega
    have hr:=Mw r
    cases f with
    | atom k xs =>
      obtain ⟨a1,a2,a3⟩:=ok.1
      obtain ⟨o5',ih⟩:=Dz n r (A++[.tup (.str k::xs)]) O (some (.tup (.str k::xs),false)) (by omega) ok.2 (by rw [List.length_append,List.length_singleton]; omega) (by omega)
      refine ⟨o5',?_⟩
      have e1:=Ce a1 Ov
      have e2:=Ce a1 Za
      rw [a2] at e1
      rw [a3] at e2
      have body:(sIf (fj (mOp eqO (mOp iw (bw 5) (aq (.int 0))) (aq (.str "and")))) (dj 4 (mUn Wk (mOp iw (bw 5) (aq (.int 1))))) (sIf (fj (mOp eqO (mOp iw (bw 5) (aq (.int 0))) (aq (.str "or")))) (dg 3 (mOp iw (bw 5) (aq (.int 1)))) (dg 2 (bw 5)))) ⟨[some (L,false),some (F,false),some (.lst A,true),some (.lst O,true),some (.lst (r.reverse.map fmT),true),some (fmT (.atom k xs),false)],sto⟩=some (.next,⟨[some (L,false),some (F,false),some (.lst (A++[.tup (.str k::xs)]),true),some (.lst O,true),some (.lst (r.reverse.map fmT),true),some (.tup (.str k::xs),false)],sto⟩):=by
        simp [iy,jd,sIf,jk,sNew,jl,jt,sNx,fu,sGo,cj,mz,dg,dj,j9,fj,oh,kj,mOr,iz,mIf,mOp,mUn,bw,gn,ak,dw,aq,jc,dz,cg,hName,m8,gk,jw,ltT,leT,m9,ju,qb,jy,j8,ni,pq,j6,j5,bh,n6,fmT,xr,e1,e2,la]
      rw [Bf c1 ((j4 pop).trans body),ih,Ib,Ie,flA,flO]
      simp
    | any ms =>
      obtain ⟨o5',ih⟩:=Dz n r A (O++[.tup ms]) (some (.tup [.str "or",.tup ms],false)) (by omega) ok.2 (by omega) (by rw [List.length_append,List.length_singleton]; omega)
      refine ⟨o5',?_⟩
      have e1:=Ce Za Ov
      have e2:=Ce Za Za
      rw [a4f] at e1
      rw [beq_self_eq_true] at e2
      have body:(sIf (fj (mOp eqO (mOp iw (bw 5) (aq (.int 0))) (aq (.str "and")))) (dj 4 (mUn Wk (mOp iw (bw 5) (aq (.int 1))))) (sIf (fj (mOp eqO (mOp iw (bw 5) (aq (.int 0))) (aq (.str "or")))) (dg 3 (mOp iw (bw 5) (aq (.int 1)))) (dg 2 (bw 5)))) ⟨[some (L,false),some (F,false),some (.lst A,true),some (.lst O,true),some (.lst (r.reverse.map fmT),true),some (fmT (.any ms),false)],sto⟩=some (.next,⟨[some (L,false),some (F,false),some (.lst A,true),some (.lst (O++[.tup ms]),true),some (.lst (r.reverse.map fmT),true),some (.tup [.str "or",.tup ms],false)],sto⟩):=by
        simp [iy,jd,sIf,jk,sNew,jl,jt,sNx,fu,sGo,cj,mz,dg,dj,j9,fj,oh,kj,mOr,iz,mIf,mOp,mUn,bw,gn,ak,dw,aq,jc,dz,cg,hName,m8,gk,jw,ltT,leT,m9,ju,qb,jy,j8,ni,pq,j6,j5,bh,n6,fmT,xr,v9,e1,e2,lo]
      rw [Bf c1 ((j4 pop).trans body),ih,Ib,Ie,flA,flO]
      simp
    | all ms =>
      rw [fsz] at h h1 h2
      have hm:=Mw ms
      obtain ⟨o5',ih⟩:=Dz n (ms++r) A O (some (.tup [.str "and",.tup (ms.map fmT)],false)) (by rw [Fx]; omega) (Qn ms r ok.1 ok.2) (by rw [Fx]; omega) (by rw [Fx]; omega)
      refine ⟨o5',?_⟩
      have e1:=Ce Ov Ov
      rw [beq_self_eq_true] at e1
      have lw:r.length+ms.length<lim:=by show _<1000000; omega
      have body:(sIf (fj (mOp eqO (mOp iw (bw 5) (aq (.int 0))) (aq (.str "and")))) (dj 4 (mUn Wk (mOp iw (bw 5) (aq (.int 1))))) (sIf (fj (mOp eqO (mOp iw (bw 5) (aq (.int 0))) (aq (.str "or")))) (dg 3 (mOp iw (bw 5) (aq (.int 1)))) (dg 2 (bw 5)))) ⟨[some (L,false),some (F,false),some (.lst A,true),some (.lst O,true),some (.lst (r.reverse.map fmT),true),some (fmT (.all ms),false)],sto⟩=some (.next,⟨[some (L,false),some (F,false),some (.lst A,true),some (.lst O,true),some (.lst ((ms++r).reverse.map fmT),true),some (.tup [.str "and",.tup (ms.map fmT)],false)],sto⟩):=by
        simp [iy,jd,sIf,jk,sNew,jl,jt,sNx,fu,sGo,cj,mz,dg,dj,j9,fj,oh,kj,mOr,iz,mIf,mOp,mUn,bw,gn,ak,dw,aq,jc,dz,cg,hName,m8,gk,jw,ltT,leT,m9,ju,qb,jy,j8,ni,pq,j6,j5,bh,n6,fmT,Qj,xr,v9,e1,Wk,lw]
      rw [Bf c1 ((j4 pop).trans body),ih,Ql,Q8,Ib,Ie,flA,flO]
theorem Hi {A O:List T} {l:List Fm} (hs:Fl l<1000) (ok:Xi l) (ha:A.length<800000) (ho:O.length<800000) :
    tu [.tup [.lst A,.lst O],.lst (l.map fmT)] sto=some (.tup [.lst (A++Ib l),.lst (O++Ie l)],sto):=by
  obtain ⟨o5',e⟩:=Dz (sto:=sto) (L:=.tup [.lst A,.lst O]) (F:=.lst (l.map fmT)) 1000 l A O none hs ok (by omega) (by omega)
  unfold tu iy
  rw [show ([T.tup [.lst A,.lst O],T.lst (l.map fmT)].map (fun t=>some (t,false))++List.replicate (6 - [T.tup [.lst A,.lst O],T.lst (l.map fmT)].length) none:List Slot)=[some (.tup [.lst A,.lst O],false),some (.lst (l.map fmT),false),none,none,none,none] from rfl]
  rw [j4 (s':=⟨[some (.tup [.lst A,.lst O],false),some (.lst (l.map fmT),false),some (.lst A,true),none,none,none],sto⟩) (by first | exact rfl | simp [iy,jd,sIf,jk,sNew,jl,jt,sNx,fu,sGo,cj,mz,dg,dj,j9,fj,oh,kj,mOr,iz,mIf,mOp,mUn,bw,gn,ak,dw,aq,jc,dz,cg,hName,m8,gk,jw,ltT,leT,m9,ju,qb,jy,j8,ni,pq,j6,j5,bh,n6,xr,Cr])]
  rw [j4 (s':=⟨[some (.tup [.lst A,.lst O],false),some (.lst (l.map fmT),false),some (.lst A,true),some (.lst O,true),none,none],sto⟩) (by first | exact rfl | simp [iy,jd,sIf,jk,sNew,jl,jt,sNx,fu,sGo,cj,mz,dg,dj,j9,fj,oh,kj,mOr,iz,mIf,mOp,mUn,bw,gn,ak,dw,aq,jc,dz,cg,hName,m8,gk,jw,ltT,leT,m9,ju,qb,jy,j8,ni,pq,j6,j5,bh,n6,v9,Cr])]
  rw [j4 (s':=⟨[some (.tup [.lst A,.lst O],false),some (.lst (l.map fmT),false),some (.lst A,true),some (.lst O,true),some (.lst (l.reverse.map fmT),true),none],sto⟩) (by first | exact rfl | simp [iy,jd,sIf,jk,sNew,jl,jt,sNx,fu,sGo,cj,mz,dg,dj,j9,fj,oh,kj,mOr,iz,mIf,mOp,mUn,bw,gn,ak,dw,aq,jc,dz,cg,hName,m8,gk,jw,ltT,leT,m9,ju,qb,jy,j8,ni,pq,j6,j5,bh,n6,Cr,a5a])]
  rw [j4 e]
  simp [iy,jd,sIf,jk,sNew,jl,jt,sNx,fu,sGo,cj,mz,dg,dj,j9,fj,oh,kj,mOr,iz,mIf,mOp,mUn,bw,gn,ak,dw,aq,jc,dz,cg,hName,m8,gk,jw,ltT,leT,m9,ju,qb,jy,j8,ni,pq,j6,j5,bh,n6]
end
end K
end
noncomputable section
set_option linter.all false
set_option maxRecDepth 100000
set_option autoImplicit false
namespace K
open C PySem
inductive Cl where
  | i (n:Int) | b (k:Bool) | s (x:Str) | t (l:List T)
noncomputable def clT:Cl→T
  | .i n=>.int n
  | .b k=>.bl k
  | .s x=>.str x
  | .t l=>.tup l
noncomputable def isI:Cl→Bool
  | .i _=>true
  | _=>false
noncomputable def vI:Cl→Int
  | .i n=>n
  | _=>0
noncomputable abbrev Rw:=List Cl
noncomputable def rwT (r:Rw):T:=.tup (r.map clT)
noncomputable def pr (r:Rw):List Int:=if r.all isI then r.map vI else []
noncomputable def okC:Cl→Prop
  | .i n=>Av n=true
  | _=>True
noncomputable def ilT (l:List Int):T:=.tup (l.map .int)
structure At where
  k:Str
  s:Sm
  more:List T
noncomputable def atT (a:At):T:=.tup (.str a.k::smT a.s::a.more)
noncomputable def Mi (U:List Str) (a:At):Prop:=okS a.k∧X7 U a.s
noncomputable def look (A:List At):List Int→Option (Sm × Int)
  | [n,t]=>if 0≤n∧0<t then (match A[n.toNat]? with
    | some a=>if a.k==("most" : Str) then some (a.s,t) else none
    | none=>none) else none
  | _=>none
noncomputable def cN (gs:List (Sm × Int)):Int:=(gs.map fun g=>g.2 * g.1.1).sum
noncomputable def cF (gs:List (Sm × Int)) (b:Str):Int:=(gs.map fun g=>g.2 * gt g.1.2 b).sum
noncomputable def fin (s:Sm):Bool:=s.2.isEmpty&&decide (0<s.1)
noncomputable def Az (U:List Str) (A:List At) (rows:List (List Int)):Bool:=rows.all (fun l=>(look A l).isSome)&&fin (cN (rows.filterMap (look A)),canon U (cF (rows.filterMap (look A))))
theorem Gn:okS "most" := by unfold okS; decide +kernel
noncomputable section
variable {U:List Str} {sto:List SO} {A:List At}
theorem Fw {c:Cl}:nu [clT c] sto=some (.bl (isI c),sto):=by
  cases c <;> simp [iy,jd,sIf,jk,sNew,jl,jt,sNx,fu,sGo,cj,mz,dg,dj,j9,fj,oh,kj,mOr,iz,mIf,mOp,mUn,bw,gn,ak,dw,aq,jc,dz,cg,hName,m8,gk,jw,ltT,leT,m9,ju,qb,jy,j8,ni,pq,j6,j5,bh,n6,nu,clT,isInt,a5u,isI]
theorem lg {l:List T}:jj [.tup l] sto=some (.tup l,sto):=by first | exact rfl | simp [iy,jd,sIf,jk,sNew,jl,jt,sNx,fu,sGo,cj,mz,dg,dj,j9,fj,oh,kj,mOr,iz,mIf,mOp,mUn,bw,gn,ak,dw,aq,jc,dz,cg,hName,m8,gk,jw,ltT,leT,m9,ju,qb,jy,j8,ni,pq,j6,j5,bh,n6,jj,isTup,Bb]
theorem Kf {α:Type} (f:α→Bool):∀ l:List α,Fb (l.map fun a=>T.bl (f a))=some (l.map f)
  | []=>rfl
  | a::l=>by simp [Fb,Kf f l]
theorem all_map {α:Type} (f:α→Bool) (l:List α):Sg [.lst (l.map fun a=>T.bl (f a))]=some (.bl (l.all f)):=by
  simp [Sg,Kf,List.all_map]
theorem Lp {r:Rw} (hl:r.length<1000):uw [rwT r] sto=some (ilT (pr r),sto):=by
  have l1:r.length<lim:=by show _<1000000; omega
  unfold uw
  simp [iy,jd,sIf,jk,sNew,jl,jt,sNx,fu,sGo,cj,mz,dg,dj,j9,fj,oh,kj,mOr,iz,mIf,mOp,mUn,bw,gn,ak,dw,aq,jc,dz,cg,hName,m8,gk,jw,ltT,leT,m9,ju,qb,jy,j8,ni,pq,j6,j5,bh,n6,rwT,lg]
  generalize hF:qz 1 _ _ _ _ (dz nu _) _=q
  have e:=zp hF clT (fun c=>T.bl (isI c)) r ⟨[some (rwT r,false),some (rwT r,false)],sto⟩ [some (rwT r,false),some (rwT r,false)] [] (by first | exact rfl | simp [iy,jd,sIf,jk,sNew,jl,jt,sNx,fu,sGo,cj,mz,dg,dj,j9,fj,oh,kj,mOr,iz,mIf,mOp,mUn,bw,gn,ak,dw,aq,jc,dz,cg,hName,m8,gk,jw,ltT,leT,m9,ju,qb,jy,j8,ni,pq,j6,j5,bh,n6,rwT,l1]) rfl rfl rfl (Nat.le_of_lt l1) (fun c hc pre hp=>by
    match pre,hp with
    | [p0],_=>exact ⟨[some (clT c,false)],rfl,by first | exact rfl | simp [iy,jd,sIf,jk,sNew,jl,jt,sNx,fu,sGo,cj,mz,dg,dj,j9,fj,oh,kj,mOr,iz,mIf,mOp,mUn,bw,gn,ak,dw,aq,jc,dz,cg,hName,m8,gk,jw,ltT,leT,m9,ju,qb,jy,j8,ni,pq,j6,j5,bh,n6],rfl,by first | exact rfl | simp [iy,jd,sIf,jk,sNew,jl,jt,sNx,fu,sGo,cj,mz,dg,dj,j9,fj,oh,kj,mOr,iz,mIf,mOp,mUn,bw,gn,ak,dw,aq,jc,dz,cg,hName,m8,gk,jw,ltT,leT,m9,ju,qb,jy,j8,ni,pq,j6,j5,bh,n6,Fw]⟩)
  subst e
  by_cases h:r.all isI=true
  · have ha:=all_map isI r
    rw [h] at ha
    simp [iy,jd,sIf,jk,sNew,jl,jt,sNx,fu,sGo,cj,mz,dg,dj,j9,fj,oh,kj,mOr,iz,mIf,mOp,mUn,bw,gn,ak,dw,aq,jc,dz,cg,hName,m8,gk,jw,ltT,leT,m9,ju,qb,jy,j8,ni,pq,j6,j5,bh,n6,ha]
    generalize hG:qz 1 _ _ _ _ _ _=q
    have e:=zp hG clT (fun c=>T.int (vI c)) r ⟨[some (rwT r,false),some (rwT r,false)],sto⟩ [some (rwT r,false),some (rwT r,false)] [] (by first | exact rfl | simp [iy,jd,sIf,jk,sNew,jl,jt,sNx,fu,sGo,cj,mz,dg,dj,j9,fj,oh,kj,mOr,iz,mIf,mOp,mUn,bw,gn,ak,dw,aq,jc,dz,cg,hName,m8,gk,jw,ltT,leT,m9,ju,qb,jy,j8,ni,pq,j6,j5,bh,n6,rwT,l1]) rfl rfl rfl (Nat.le_of_lt l1) (fun c hc pre hp=>by
      have hi:=List.all_eq_true.mp h c hc
      match pre,hp with
      | [p0],_=>exact ⟨[some (clT c,false)],rfl,by first | exact rfl | simp [iy,jd,sIf,jk,sNew,jl,jt,sNx,fu,sGo,cj,mz,dg,dj,j9,fj,oh,kj,mOr,iz,mIf,mOp,mUn,bw,gn,ak,dw,aq,jc,dz,cg,hName,m8,gk,jw,ltT,leT,m9,ju,qb,jy,j8,ni,pq,j6,j5,bh,n6],rfl,by
          cases c with
          | i n=>simp [iy,jd,sIf,jk,sNew,jl,jt,sNx,fu,sGo,cj,mz,dg,dj,j9,fj,oh,kj,mOr,iz,mIf,mOp,mUn,bw,gn,ak,dw,aq,jc,dz,cg,hName,m8,gk,jw,ltT,leT,m9,ju,qb,jy,j8,ni,pq,j6,j5,bh,n6,clT,Tq,vI]
          | b k=>cases hi
          | s k=>cases hi
          | t k=>cases hi⟩)
    subst e
    simp [iy,jd,sIf,jk,sNew,jl,jt,sNx,fu,sGo,cj,mz,dg,dj,j9,fj,oh,kj,mOr,iz,mIf,mOp,mUn,bw,gn,ak,dw,aq,jc,dz,cg,hName,m8,gk,jw,ltT,leT,m9,ju,qb,jy,j8,ni,pq,j6,j5,bh,n6,Bb,ilT,pr,h]
  · have hf:r.all isI=false:=by simpa using h
    have ha:=all_map isI r
    rw [hf] at ha
    simp [iy,jd,sIf,jk,sNew,jl,jt,sNx,fu,sGo,cj,mz,dg,dj,j9,fj,oh,kj,mOr,iz,mIf,mOp,mUn,bw,gn,ak,dw,aq,jc,dz,cg,hName,m8,gk,jw,ltT,leT,m9,ju,qb,jy,j8,ni,pq,j6,j5,bh,n6,ha,ilT,pr,hf]
theorem a2y {rs:List Rw} (hr:rs.length<1000) (hl:∀ r∈rs,r.length<1000):qd [.tup (rs.map rwT)] sto=some (.lst ((rs.map pr).map ilT),sto):=by
  have l1:rs.length<lim:=by show _<1000000; omega
  unfold qd
  simp [iy,jd,sIf,jk,sNew,jl,jt,sNx,fu,sGo,cj,mz,dg,dj,j9,fj,oh,kj,mOr,iz,mIf,mOp,mUn,bw,gn,ak,dw,aq,jc,dz,cg,hName,m8,gk,jw,ltT,leT,m9,ju,qb,jy,j8,ni,pq,j6,j5,bh,n6]
  generalize hF:qz 1 _ _ _ _ _ _=q
  have e:=zp hF rwT (fun r=>ilT (pr r)) rs ⟨[some (.tup (rs.map rwT),false)],sto⟩ [some (.tup (rs.map rwT),false)] [] (by first | exact rfl | simp [iy,jd,sIf,jk,sNew,jl,jt,sNx,fu,sGo,cj,mz,dg,dj,j9,fj,oh,kj,mOr,iz,mIf,mOp,mUn,bw,gn,ak,dw,aq,jc,dz,cg,hName,m8,gk,jw,ltT,leT,m9,ju,qb,jy,j8,ni,pq,j6,j5,bh,n6,lg,l1]) rfl rfl rfl (Nat.le_of_lt l1) (fun r hr' pre hp=>by
    have:=Lp (sto:=sto) (hl r hr')
    match pre,hp with
    | [p0],_=>exact ⟨[some (rwT r,false)],rfl,by first | exact rfl | simp [iy,jd,sIf,jk,sNew,jl,jt,sNx,fu,sGo,cj,mz,dg,dj,j9,fj,oh,kj,mOr,iz,mIf,mOp,mUn,bw,gn,ak,dw,aq,jc,dz,cg,hName,m8,gk,jw,ltT,leT,m9,ju,qb,jy,j8,ni,pq,j6,j5,bh,n6],rfl,by first | exact rfl | simp [iy,jd,sIf,jk,sNew,jl,jt,sNx,fu,sGo,cj,mz,dg,dj,j9,fj,oh,kj,mOr,iz,mIf,mOp,mUn,bw,gn,ak,dw,aq,jc,dz,cg,hName,m8,gk,jw,ltT,leT,m9,ju,qb,jy,j8,ni,pq,j6,j5,bh,n6,this]⟩)
  subst e
  simp
theorem Dt {α:Type} {f:α→T} {n:Int} {l:List α}:qg [.int n,.lst (l.map f)] sto=some (.bl (decide (0≤n)&&decide (n<l.length)),sto):=by
  by_cases h:0≤n <;> simp [iy,jd,sIf,jk,sNew,jl,jt,sNx,fu,sGo,cj,mz,dg,dj,j9,fj,oh,kj,mOr,iz,mIf,mOp,mUn,bw,gn,ak,dw,aq,jc,dz,cg,hName,m8,gk,jw,ltT,leT,m9,ju,qb,jy,j8,ni,pq,j6,j5,bh,n6,qg,h]
theorem a0n {n:Int} (ok:∀ a∈A,Mi U a):ql [.lst (A.map atT),.int n,.str "most"] sto=some (.bl (decide (0≤n)&&(match A[n.toNat]? with | some a=>a.k==("most" : Str) | none=>false)),sto):=by
  by_cases h:0≤n
  · by_cases h2:n<A.length
    · have hn:n.toNat<A.length:=by omega
      have hi:iw (.lst (A.map atT)) (.int n)=some (atT A[n.toNat]):=by
        have:=Ju (xs:=A.map atT) (k:=n.toNat) (t:=atT A[n.toNat]) (by rw [List.getElem?_map,List.getElem?_eq_getElem hn]; rfl)
        rw [Int.toNat_of_nonneg h] at this
        exact this
      have he:=Ce (ok _ (List.getElem_mem hn)).1 Gn
      simp [iy,jd,sIf,jk,sNew,jl,jt,sNx,fu,sGo,cj,mz,dg,dj,j9,fj,oh,kj,mOr,iz,mIf,mOp,mUn,bw,gn,ak,dw,aq,jc,dz,cg,hName,m8,gk,jw,ltT,leT,m9,ju,qb,jy,j8,ni,pq,j6,j5,bh,n6,ql,Dt,h,h2,hi,atT,xr,he,List.getElem?_eq_getElem hn]
    · have hn:A[n.toNat]? = none:=List.getElem?_eq_none_iff.mpr (by omega)
      simp [iy,jd,sIf,jk,sNew,jl,jt,sNx,fu,sGo,cj,mz,dg,dj,j9,fj,oh,kj,mOr,iz,mIf,mOp,mUn,bw,gn,ak,dw,aq,jc,dz,cg,hName,m8,gk,jw,ltT,leT,m9,ju,qb,jy,j8,ni,pq,j6,j5,bh,n6,ql,Dt,h,h2,hn]
  · simp [iy,jd,sIf,jk,sNew,jl,jt,sNx,fu,sGo,cj,mz,dg,dj,j9,fj,oh,kj,mOr,iz,mIf,mOp,mUn,bw,gn,ak,dw,aq,jc,dz,cg,hName,m8,gk,jw,ltT,leT,m9,ju,qb,jy,j8,ni,pq,j6,j5,bh,n6,ql,Dt,h]
theorem T6 {l:List Int} (ok:∀ a∈A,Mi U a):m6 [.lst (A.map atT),ilT l] sto=some (.bl (look A l).isSome,sto):=by
  match l with
  | [n,t] =>
    have ia:=a0n (sto:=sto) (n:=n) ok
    by_cases h:0≤n
    · cases hA:A[n.toNat]? with
      | none =>
        rw [hA] at ia
        simp [iy,jd,sIf,jk,sNew,jl,jt,sNx,fu,sGo,cj,mz,dg,dj,j9,fj,oh,kj,mOr,iz,mIf,mOp,mUn,bw,gn,ak,dw,aq,jc,dz,cg,hName,m8,gk,jw,ltT,leT,m9,ju,qb,jy,j8,ni,pq,j6,j5,bh,n6,m6,ilT,uy,xr,v9,ia,h,look,hA]
      | some a =>
        rw [hA] at ia
        dsimp only at ia
        by_cases hk:(a.k==("most" : Str))=true
        · rw [hk] at ia
          by_cases ht:0<t
          · simp [iy,jd,sIf,jk,sNew,jl,jt,sNx,fu,sGo,cj,mz,dg,dj,j9,fj,oh,kj,mOr,iz,mIf,mOp,mUn,bw,gn,ak,dw,aq,jc,dz,cg,hName,m8,gk,jw,ltT,leT,m9,ju,qb,jy,j8,ni,pq,j6,j5,bh,n6,m6,ilT,uy,xr,v9,ia,h,look,hA,hk,gtT,ht]
          · simp [iy,jd,sIf,jk,sNew,jl,jt,sNx,fu,sGo,cj,mz,dg,dj,j9,fj,oh,kj,mOr,iz,mIf,mOp,mUn,bw,gn,ak,dw,aq,jc,dz,cg,hName,m8,gk,jw,ltT,leT,m9,ju,qb,jy,j8,ni,pq,j6,j5,bh,n6,m6,ilT,uy,xr,v9,ia,h,look,hA,hk,gtT,ht]
        · have hf:(a.k==("most" : Str))=false:=by simpa using hk
          rw [hf] at ia
          simp [iy,jd,sIf,jk,sNew,jl,jt,sNx,fu,sGo,cj,mz,dg,dj,j9,fj,oh,kj,mOr,iz,mIf,mOp,mUn,bw,gn,ak,dw,aq,jc,dz,cg,hName,m8,gk,jw,ltT,leT,m9,ju,qb,jy,j8,ni,pq,j6,j5,bh,n6,m6,ilT,uy,xr,v9,ia,h,look,hA,hf]
    · simp [iy,jd,sIf,jk,sNew,jl,jt,sNx,fu,sGo,cj,mz,dg,dj,j9,fj,oh,kj,mOr,iz,mIf,mOp,mUn,bw,gn,ak,dw,aq,jc,dz,cg,hName,m8,gk,jw,ltT,leT,m9,ju,qb,jy,j8,ni,pq,j6,j5,bh,n6,m6,ilT,uy,xr,v9,ia,h,look]
  | []=>simp [iy,jd,sIf,jk,sNew,jl,jt,sNx,fu,sGo,cj,mz,dg,dj,j9,fj,oh,kj,mOr,iz,mIf,mOp,mUn,bw,gn,ak,dw,aq,jc,dz,cg,hName,m8,gk,jw,ltT,leT,m9,ju,qb,jy,j8,ni,pq,j6,j5,bh,n6,m6,ilT,uy,look]
  | [n]=>simp [iy,jd,sIf,jk,sNew,jl,jt,sNx,fu,sGo,cj,mz,dg,dj,j9,fj,oh,kj,mOr,iz,mIf,mOp,mUn,bw,gn,ak,dw,aq,jc,dz,cg,hName,m8,gk,jw,ltT,leT,m9,ju,qb,jy,j8,ni,pq,j6,j5,bh,n6,m6,ilT,uy,look]
  | a::b::c::r =>
    have hb:(((r.length:Int)+1+1+1)==2)=false:=beq_eq_false_iff_ne.mpr (by omega)
    simp [iy,jd,sIf,jk,sNew,jl,jt,sNx,fu,sGo,cj,mz,dg,dj,j9,fj,oh,kj,mOr,iz,mIf,mOp,mUn,bw,gn,ak,dw,aq,jc,dz,cg,hName,m8,gk,jw,ltT,leT,m9,ju,qb,jy,j8,ni,pq,j6,j5,bh,n6,m6,ilT,uy,look,hb]
end
end K
end
noncomputable section
set_option linter.all false
set_option maxRecDepth 100000
set_option autoImplicit false
namespace K
open C PySem
noncomputable section
variable {U:List Str} {sto:List SO} {A:List At}
noncomputable def Cj (gs:List (Sm × Int)):List Pr:=gs.flatMap fun g=>g.1.2.map fun p=>(p.1,g.2 * p.2)
theorem Uw {b:Str}:∀ l r:List Pr,tot (l++r) b=tot l b+tot r b
  | [],r=>by simp [tot]
  | (k,v)::l,r=>by rw [List.cons_append,tot,tot,Uw l r]; omega
theorem Qy {t:Int} {b:Str}:∀ l:List Pr,tot (l.map fun p=>(p.1,t * p.2)) b=t * tot l b
  | []=>by simp [tot]
  | (k,v)::r=>by
    rw [List.map_cons,tot,tot,Qy r,Int.mul_add]
    by_cases e:k=b <;> simp [e]
theorem Vr {b:Str}:∀ {gs:List (Sm × Int)},(∀ g∈gs,X7 U g.1)→tot (Cj gs) b=cF gs b
  | [],_=>rfl
  | g::gs,h=>by
    have ih:=Vr (b:=b) (gs:=gs) fun x hx=>h x (List.mem_cons_of_mem _ hx)
    unfold Cj cF at ih ⊢
    rw [List.flatMap_cons,Uw,ih,Qy,Zy (h g List.mem_cons_self).nd,List.map_cons,List.sum_cons]
theorem Gp {l:List Int} {g:Sm × Int} (h:look A l=some g):∃ n t a,l=[n,t]∧0≤n∧0<t∧A[n.toNat]? = some a∧(a.k==("most" : Str))=true∧g=(a.s,t):=by
  match l,h with
  | [n,t],h =>
    by_cases hc:0≤n∧0<t
    · cases hA:A[n.toNat]? with
      | none=>simp [look,hA] at h
      | some a =>
        by_cases hk:(a.k==("most" : Str))=true
        · simp only [look,hA,hk,hc.1,hc.2,and_self,if_true,Option.some.injEq] at h
          exact ⟨n,t,a,rfl,hc.1,hc.2,hA,hk,h.symm⟩
        · simp [look,hA,hk] at h
    · simp [look,hc] at h
theorem item_at {n:Int} {a:At} (h0:0≤n) (h:A[n.toNat]? = some a):iw (.lst (A.map atT)) (.int n)=some (atT a):=by
  have:=Ju (xs:=A.map atT) (k:=n.toNat) (t:=atT a) (by rw [List.getElem?_map,h]; rfl)
  rw [Int.toNat_of_nonneg h0] at this
  exact this
noncomputable def a02 (A:List At) (rows:List (List Int)):Prop:=∀ l∈rows,∃ g,look A l=some g∧Av g.2=true
theorem item_last {n t:Int}:iw (ilT [n,t]) (.int (-1))=some (.int t):=rfl
theorem R9 {n t:Int}:iw (ilT [n,t]) (.int 0)=some (.int n):=rfl
theorem Np (u:Uni U):∀ {gs:List (Sm × Int)},(∀ g∈gs,X7 U g.1)→(Cj gs).length≤8 * gs.length
  | [],_=>by simp [Cj]
  | g::gs,h=>by
    have ih:=Np u (gs:=gs) fun x hx=>h x (List.mem_cons_of_mem _ hx)
    have:=a04 u (h g List.mem_cons_self)
    unfold Cj at ih ⊢
    rw [List.flatMap_cons,List.length_append,List.length_map,List.length_cons]
    omega
theorem Yo {rows:List (List Int)} (u:Uni U) (ok:∀ a∈A,Mi U a) (hr:a02 A rows) (hl:rows.length≤100) :
    vf [.lst (A.map atT),.lst (rows.map ilT)] sto=some (smT (cN (rows.filterMap (look A)),canon U (cF (rows.filterMap (look A)))),sto):=by
  have l1:rows.length<lim:=by show _<1000000; omega
  have allg:∀ {rs:List (List Int)},(∀ l∈rs,l∈rows)→∀ g∈rs.filterMap (look A),X7 U g.1:=fun {rs} hs g hg=>by
    obtain ⟨l,hl,e⟩:=List.mem_filterMap.mp hg
    obtain ⟨n,t,a,_,_,_,ha,_,rfl⟩:=Gp e
    exact (ok a (List.mem_of_getElem? ha)).2
  unfold vf
  simp [iy,jd,sIf,jk,sNew,jl,jt,sNx,fu,sGo,cj,mz,dg,dj,j9,fj,oh,kj,mOr,iz,mIf,mOp,mUn,bw,gn,ak,dw,aq,jc,dz,cg,hName,m8,gk,jw,ltT,leT,m9,ju,qb,jy,j8,ni,pq,j6,j5,bh,n6,l1]
  generalize hF:forL _ _ _ _=r
  obtain ⟨s',rfl,P⟩:=Wb hF (fun ts s=>∃ (l done:List (List Int)) (o4 o5:Slot),ts=l.map ilT∧rows=done++l∧s=⟨[some (.lst (A.map atT),false),some (.lst (rows.map ilT),false),some (.int (cN (done.filterMap (look A))),false),some (.lst ((Cj (done.filterMap (look A))).map pT),true),o4,o5],sto⟩)
    ⟨rows,[],none,none,rfl,rfl,rfl⟩ (by
      rintro t r s ⟨l,done,o4,o5,e1,e2,rfl⟩
      cases l with
      | nil=>cases e1
      | cons x l =>
        cases e1
        obtain ⟨g,hg,hb⟩:=hr x (by rw [e2]; simp)
        obtain ⟨n,t,a,rfl,h0,h1,ha,hk,rfl⟩:=Gp hg
        have hb:Av t=true:=hb
        have sa:=(ok a (List.mem_of_getElem? ha)).2
        have la:=a04 u sa
        have ii:=item_at h0 ha
        have hd:∀ l∈done,l∈rows:=fun y hy=>by rw [e2]; exact List.mem_append_left _ hy
        have lp:=Np u (allg hd)
        have ld:(done.filterMap (look A)).length≤done.length:=List.length_filterMap_le _ _
        have lr:done.length≤rows.length:=by rw [e2,List.length_append]; omega
        have ls:a.s.2.length<lim:=by show _<1000000; omega
        have lt:(Cj (done.filterMap (look A))).length+a.s.2.length<lim:=by show _<1000000; omega
        have ef:(done++[[n,t]]).filterMap (look A)=done.filterMap (look A)++[(a.s,t)]:=by rw [List.filterMap_append]; simp [hg]
        refine ⟨⟨[some (.lst (A.map atT),false),some (.lst (rows.map ilT),false),some (.int (cN (done.filterMap (look A))),false),some (.lst ((Cj (done.filterMap (look A))).map pT),true),some (ilT [n,t],false),o5],sto⟩,⟨[some (.lst (A.map atT),false),some (.lst (rows.map ilT),false),some (.int (cN ((done++[[n,t]]).filterMap (look A))),false),some (.lst ((Cj ((done++[[n,t]]).filterMap (look A))).map pT),true),some (ilT [n,t],false),some (smT a.s,false)],sto⟩,rfl,?_,l,done++[[n,t]],_,_,rfl,by rw [e2]; simp,rfl⟩
        have en:cN ((done++[[n,t]]).filterMap (look A))=cN (done.filterMap (look A))+t * a.s.1:=by
          rw [ef]; unfold cN; rw [List.map_append,List.sum_append]; simp
        have ep:Cj ((done++[[n,t]]).filterMap (look A))=Cj (done.filterMap (look A))++a.s.2.map fun p=>(p.1,t * p.2):=by
          rw [ef]; unfold Cj; rw [List.flatMap_append]; simp
        rw [en,ep]
        simp [iy,jd,sIf,jk,sNew,jl,jt,sNx,fu,sGo,cj,mz,dg,dj,j9,fj,oh,kj,mOr,iz,mIf,mOp,mUn,bw,gn,ak,dw,aq,jc,dz,cg,hName,m8,gk,jw,ltT,leT,m9,ju,qb,jy,j8,ni,pq,j6,j5,bh,n6,R9,ii,atT,v9,item_last,smT,xr,Ms,hb]
        generalize hG:qz 2 _ _ _ _ _ _=q
        have e:=zp hG pT (fun p=>pT (p.1,t * p.2)) a.s.2 ⟨[some (.lst (A.map atT),false),some (.lst (rows.map ilT),false),some (.int (cN (done.filterMap (look A))+t * a.s.1),false),some (.lst ((Cj (done.filterMap (look A))).map pT),true),some (ilT [n,t],false),some (smT a.s,false)],sto⟩ [some (.lst (A.map atT),false),some (.lst (rows.map ilT),false),some (.int (cN (done.filterMap (look A))+t * a.s.1),false),some (.lst ((Cj (done.filterMap (look A))).map pT),true),some (ilT [n,t],false),some (smT a.s,false)] [some (ilT [n,t],false)] (by first | exact rfl | simp [iy,jd,sIf,jk,sNew,jl,jt,sNx,fu,sGo,cj,mz,dg,dj,j9,fj,oh,kj,mOr,iz,mIf,mOp,mUn,bw,gn,ak,dw,aq,jc,dz,cg,hName,m8,gk,jw,ltT,leT,m9,ju,qb,jy,j8,ni,pq,j6,j5,bh,n6,smT,v9,ls]) rfl rfl rfl (Nat.le_of_lt ls) (fun p hp pre hl=>by
          match pre,hl with
          | [p0,p1],_=>exact ⟨[some (.str p.1,false),some (.int p.2,false)],rfl,by first | exact rfl | simp [iy,jd,sIf,jk,sNew,jl,jt,sNx,fu,sGo,cj,mz,dg,dj,j9,fj,oh,kj,mOr,iz,mIf,mOp,mUn,bw,gn,ak,dw,aq,jc,dz,cg,hName,m8,gk,jw,ltT,leT,m9,ju,qb,jy,j8,ni,pq,j6,j5,bh,n6,pT],rfl,by first | exact rfl | simp [iy,jd,sIf,jk,sNew,jl,jt,sNx,fu,sGo,cj,mz,dg,dj,j9,fj,oh,kj,mOr,iz,mIf,mOp,mUn,bw,gn,ak,dw,aq,jc,dz,cg,hName,m8,gk,jw,ltT,leT,m9,ju,qb,jy,j8,ni,pq,j6,j5,bh,n6,item_last,Ms,hb,pT]⟩)
        subst e
        simp [iy,jd,sIf,jk,sNew,jl,jt,sNx,fu,sGo,cj,mz,dg,dj,j9,fj,oh,kj,mOr,iz,mIf,mOp,mUn,bw,gn,ak,dw,aq,jc,dz,cg,hName,m8,gk,jw,ltT,leT,m9,ju,qb,jy,j8,ni,pq,j6,j5,bh,n6,lt]
        rfl)
  obtain ⟨l,done,o4,o5,e1,e2,rfl⟩:=P
  cases l with
  | cons _ _=>cases e1
  | nil =>
    rw [List.append_nil] at e2
    subst e2
    have ag:=allg (rs:=rows) fun _ h=>h
    have lp:=Np u ag
    have ld:(rows.filterMap (look A)).length≤rows.length:=List.length_filterMap_le _ _
    have so:=a5h (sto:=sto) (n:=cN (rows.filterMap (look A))) (l:=Cj (rows.filterMap (look A))) u (.inl rfl) (by omega) (fun b hb=>by
      unfold ks Cj at hb
      rw [List.map_flatMap] at hb
      obtain ⟨g,hg,h⟩:=List.mem_flatMap.mp hb
      refine (ag g hg).sub b ?_
      unfold ks
      simpa using h)
    simp [iy,jd,sIf,jk,sNew,jl,jt,sNx,fu,sGo,cj,mz,dg,dj,j9,fj,oh,kj,mOr,iz,mIf,mOp,mUn,bw,gn,ak,dw,aq,jc,dz,cg,hName,m8,gk,jw,ltT,leT,m9,ju,qb,jy,j8,ni,pq,j6,j5,bh,n6,so]
    rw [show tot (Cj (rows.filterMap (look A)))=cF (rows.filterMap (look A)) from funext fun b=>Vr ag]
theorem a5q {U:List Str} {l:List Pr} (u:Uni U) (h:∀ b∈ks l,b∈U):Pl 2 (.tup (l.map pT)):=Zm (n:=1) fun t ht=>by
  obtain ⟨p,hp,rfl⟩:=List.mem_map.mp ht
  refine Zm (n:=0) fun t ht=>?_
  simp only [List.mem_cons,List.not_mem_nil,or_false] at ht
  rcases ht with rfl | rfl
  · exact a5s 0 (u.ok _ (h _ (List.mem_map.mpr ⟨p,hp,rfl⟩)))
  · exact a67 0 _
theorem eq_nil {l:List Pr} (u:Uni U) (h:∀ b∈ks l,b∈U):eqO (.tup (l.map pT)) (.tup [])=some (.bl l.isEmpty):=by
  obtain ⟨d,e1,e2⟩:=a5q u h
  have e0:dat (.tup [])=some (.tuple []):=by simp [dat,Mh]
  have h40:d.depth≤40:=by omega
  cases l with
  | nil=>simp [eqO,eqT,eqD,e0,PyData.depth,PyData.depthAll,PyData.eqv,PyData.eqvAll]
  | cons p l =>
    simp only [dat,List.map_cons,Option.map_eq_some_iff] at e1
    obtain ⟨ds,e3,rfl⟩:=e1
    cases ds with
    | nil =>
      simp only [Mh] at e3
      split at e3
      · obtain ⟨_,_,z⟩:=Option.map_eq_some_iff.mp e3; cases z
      · cases e3
    | cons x ds =>
      have e1:dat (.tup (pT p::l.map pT))=some (.tuple (x::ds)):=by simp only [dat,e3]; rfl
      simp [eqO,eqT,eqD,e1,e0,h40,PyData.eqv,PyData.eqvAll]
theorem a1m {s:Sm} {T1 T2:Prop} (u:Uni U) (h:X7 U s) {env:List Slot} {i:Nat} (hi:env[i]? = some (some (smT s,false))) :
    iz (kj (fj (mOp eqO (mOp iw (bw i) (aq (.int 1))) (gn (fun l=>some (.tup l)) dw))) (fj (mOp gtT (mOp iw (bw i) (aq (.int 0))) (aq (.int 0))))) ⟨env,sto⟩=some (.bl (fin s),⟨env,sto⟩):=by
  have en:=eq_nil u h.sub
  cases hs:s.2.isEmpty with
  | true =>
    rw [hs] at en
    simp [iy,jd,sIf,jk,sNew,jl,jt,sNx,fu,sGo,cj,mz,dg,dj,j9,fj,oh,kj,mOr,iz,mIf,mOp,mUn,bw,gn,ak,dw,aq,jc,dz,cg,hName,m8,gk,jw,ltT,leT,m9,ju,qb,jy,j8,ni,pq,j6,j5,bh,n6,hi,smT,v9,xr,en,gtT,fin,hs]
  | false =>
    rw [hs] at en
    simp [iy,jd,sIf,jk,sNew,jl,jt,sNx,fu,sGo,cj,mz,dg,dj,j9,fj,oh,kj,mOr,iz,mIf,mOp,mUn,bw,gn,ak,dw,aq,jc,dz,cg,hName,m8,gk,jw,ltT,leT,m9,ju,qb,jy,j8,ni,pq,j6,j5,bh,n6,hi,smT,v9,en,fin,hs]
end
end K
end
noncomputable section
set_option linter.all false
set_option maxRecDepth 100000
set_option autoImplicit false
namespace K
open C PySem
noncomputable section
variable {U:List Str} {sto:List SO} {A:List At}
theorem Wz {a b:S} {s s':Sta} {v:T} (h:a s=some (.ret v,s')):jd a b s=some (.ret v,s'):=by unfold jd; rw [h]
theorem Ho {f g:Str→Int} (h:∀ b∈U,f b=g b):canon U f=canon U g:=by
  unfold canon
  rw [List.filter_congr (q:=fun b=>g b != 0) fun b hb=>by rw [h b hb]]
  exact List.map_congr_left fun b hb=>by rw [h b (List.mem_filter.mp hb).1]
theorem a4i {rows:List (List Int)} (u:Uni U) (hU:U.Nodup) (ok:∀ a∈A,Mi U a) (hb:∀ l∈rows,∀ n∈l,Av n=true) (hl:rows.length≤100) :
    Bm [.lst (A.map atT),.lst (rows.map ilT)] sto=some (.bl (Az U A rows),sto):=by
  have l1:rows.length<lim:=by show _<1000000; omega
  have co:qz 1 [0] (hName 0) (jw (bw 1)) j5 (dz m6 (ak (bw 1) (ak (bw 0) dw))) ⟨[some (.lst (A.map atT),false),some (.lst (rows.map ilT),false),none],sto⟩=some (.lst (rows.map fun l=>T.bl (look A l).isSome),⟨[some (.lst (A.map atT),false),some (.lst (rows.map ilT),false),none],sto⟩):=by
    generalize hF:qz 1 _ _ _ _ _ _=q
    exact zp hF ilT (fun l=>T.bl (look A l).isSome) rows ⟨[some (.lst (A.map atT),false),some (.lst (rows.map ilT),false),none],sto⟩ [some (.lst (A.map atT),false),some (.lst (rows.map ilT),false),none] [some (.lst (A.map atT),false)] (by first | exact rfl | simp [iy,jd,sIf,jk,sNew,jl,jt,sNx,fu,sGo,cj,mz,dg,dj,j9,fj,oh,kj,mOr,iz,mIf,mOp,mUn,bw,gn,ak,dw,aq,jc,dz,cg,hName,m8,gk,jw,ltT,leT,m9,ju,qb,jy,j8,ni,pq,j6,j5,bh,n6,l1]) rfl rfl rfl (Nat.le_of_lt l1) (fun l hl' pre hp=>by
      have:=T6 (sto:=sto) (l:=l) ok
      match pre,hp with
      | [p0],_=>exact ⟨[some (ilT l,false)],rfl,by first | exact rfl | simp [iy,jd,sIf,jk,sNew,jl,jt,sNx,fu,sGo,cj,mz,dg,dj,j9,fj,oh,kj,mOr,iz,mIf,mOp,mUn,bw,gn,ak,dw,aq,jc,dz,cg,hName,m8,gk,jw,ltT,leT,m9,ju,qb,jy,j8,ni,pq,j6,j5,bh,n6],rfl,by first | exact rfl | simp [iy,jd,sIf,jk,sNew,jl,jt,sNx,fu,sGo,cj,mz,dg,dj,j9,fj,oh,kj,mOr,iz,mIf,mOp,mUn,bw,gn,ak,dw,aq,jc,dz,cg,hName,m8,gk,jw,ltT,leT,m9,ju,qb,jy,j8,ni,pq,j6,j5,bh,n6,this]⟩)
  have ha:=all_map (fun l=>(look A l).isSome) rows
  unfold Bm iy
  rw [show ([T.lst (A.map atT),T.lst (rows.map ilT)].map (fun t=>some (t,false))++List.replicate (3 - [T.lst (A.map atT),T.lst (rows.map ilT)].length) none:List Slot)=[some (.lst (A.map atT),false),some (.lst (rows.map ilT),false),none] from rfl]
  by_cases h:(rows.all fun l=>(look A l).isSome)=true
  · rw [h] at ha
    have hr:a02 A rows:=fun l hl'=>by
      have:=List.all_eq_true.mp h l hl'
      obtain ⟨g,hg⟩:=Option.isSome_iff_exists.mp this
      obtain ⟨n,t,a,rfl,h0,h1,h2,h3,rfl⟩:=Gp hg
      exact ⟨_,hg,hb _ hl' t (by simp)⟩
    have ad:=Yo (sto:=sto) u ok hr hl
    rw [j4 (s':=⟨[some (.lst (A.map atT),false),some (.lst (rows.map ilT),false),none],sto⟩) (by first | exact rfl | simp [iy,jd,sIf,jk,sNew,jl,jt,sNx,fu,sGo,cj,mz,dg,dj,j9,fj,oh,kj,mOr,iz,mIf,mOp,mUn,bw,gn,ak,dw,aq,jc,dz,cg,hName,m8,gk,jw,ltT,leT,m9,ju,qb,jy,j8,ni,pq,j6,j5,bh,n6,co,ha])]
    rw [j4 (s':=⟨[some (.lst (A.map atT),false),some (.lst (rows.map ilT),false),some (smT (cN (rows.filterMap (look A)),canon U (cF (rows.filterMap (look A)))),false)],sto⟩) (by first | exact rfl | simp [iy,jd,sIf,jk,sNew,jl,jt,sNx,fu,sGo,cj,mz,dg,dj,j9,fj,oh,kj,mOr,iz,mIf,mOp,mUn,bw,gn,ak,dw,aq,jc,dz,cg,hName,m8,gk,jw,ltT,leT,m9,ju,qb,jy,j8,ni,pq,j6,j5,bh,n6,ad])]
    simp only [jl]
    rw [a1m (T1:=True) (T2:=True) (s:=(cN (rows.filterMap (look A)),canon U (cF (rows.filterMap (look A))))) u (Z5 hU) rfl]
    simp [Az,h]
  · have hf:(rows.all fun l=>(look A l).isSome)=false:=by simpa using h
    rw [hf] at ha
    simp [iy,jd,sIf,jk,sNew,jl,jt,sNx,fu,sGo,cj,mz,dg,dj,j9,fj,oh,kj,mOr,iz,mIf,mOp,mUn,bw,gn,ak,dw,aq,jc,dz,cg,hName,m8,gk,jw,ltT,leT,m9,ju,qb,jy,j8,ni,pq,j6,j5,bh,n6,co,ha,Az,hf]
end
end K
end
noncomputable section
set_option linter.all false
set_option maxRecDepth 100000
set_option autoImplicit false
namespace K
open C PySem
noncomputable abbrev Bd:=Str × Int × Int
noncomputable def bdT (r:Bd):T:=.tup [.str r.1,.int r.2.1,.int r.2.2]
noncomputable def aL (b:Str) (n:Int):At:=⟨"most",(n,[(b,-1)]),[]⟩
noncomputable def aM (b:Str) (n:Int):At:=⟨"most",(-n,[(b,1)]),[]⟩
noncomputable def bounds (bs:List Bd):List At:=bs.flatMap fun r=>[aL r.1 r.2.1,aM r.1 r.2.2]
noncomputable section
variable {U:List Str} {sto:List SO} {A:List At}
theorem a4y {i j k:Nat} {x y z:T} {s:Sta}:m8 [i,j,k] (.tup [x,y,z]) s=some (cg k z false (cg j y false (cg i x false s))):=by simp [m8]
theorem Pq {b:Str} {n:Int}:vd [.str b,.int n] sto=some (atT (aL b n),sto):=by first | exact rfl | simp [iy,jd,sIf,jk,sNew,jl,jt,sNx,fu,sGo,cj,mz,dg,dj,j9,fj,oh,kj,mOr,iz,mIf,mOp,mUn,bw,gn,ak,dw,aq,jc,dz,cg,hName,m8,gk,jw,ltT,leT,m9,ju,qb,jy,j8,ni,pq,j6,j5,bh,n6,vd,atT,aL,smT,pT]
theorem Wo {b:Str} {n:Int}:yc [.str b,.int n] sto=some (atT (aM b n),sto):=by first | exact rfl | simp [iy,jd,sIf,jk,sNew,jl,jt,sNx,fu,sGo,cj,mz,dg,dj,j9,fj,oh,kj,mOr,iz,mIf,mOp,mUn,bw,gn,ak,dw,aq,jc,dz,cg,hName,m8,gk,jw,ltT,leT,m9,ju,qb,jy,j8,ni,pq,j6,j5,bh,n6,yc,atT,aM,smT,pT]
theorem Ae (bs:List Bd):(bounds bs).length=2 * bs.length:=by
  unfold bounds
  induction bs with
  | nil=>rfl
  | cons a l ih=>rw [List.flatMap_cons,List.length_append,ih]; simp; omega
theorem Wi {bs:List Bd} (h:∀ r∈bs,r.1∈U):∀ a∈bounds bs,Mi U a:=fun a ha=>by
  obtain ⟨r,hr,e⟩:=List.mem_flatMap.mp ha
  simp only [List.mem_cons,List.not_mem_nil,or_false] at e
  rcases e with rfl | rfl
  · exact ⟨Gn,⟨by simp [aL,ks],fun b hb=>by simp [aL,ks] at hb; rw [hb]; exact h r hr⟩⟩
  · exact ⟨Gn,⟨by simp [aM,ks],fun b hb=>by simp [aM,ks] at hb; rw [hb]; exact h r hr⟩⟩
theorem Rk (l:List Bd) (r:Bd):bounds (l++[r])=bounds l++[aL r.1 r.2.1,aM r.1 r.2.2]:=by
  unfold bounds; rw [List.flatMap_append]; simp
theorem Ni {bs:List Bd} (hl:bs.length≤100):uz [.lst (bs.map bdT)] sto=some (.tup [.lst ((bounds bs).map atT),.lst []],sto):=by
  have l1:bs.length<lim:=by show _<1000000; omega
  unfold uz
  simp [iy,jd,sIf,jk,sNew,jl,jt,sNx,fu,sGo,cj,mz,dg,dj,j9,fj,oh,kj,mOr,iz,mIf,mOp,mUn,bw,gn,ak,dw,aq,jc,dz,cg,hName,m8,gk,jw,ltT,leT,m9,ju,qb,jy,j8,ni,pq,j6,j5,bh,n6,l1]
  generalize hF:forL _ _ _ _=r
  obtain ⟨s',rfl,P⟩:=Wb hF (fun ts s=>∃ (l done:List Bd) (o2 o3 o4:Slot),ts=l.map bdT∧bs=done++l∧s=⟨[some (.lst (bs.map bdT),false),some (.lst ((bounds done).map atT),true),o2,o3,o4],sto⟩)
    ⟨bs,[],none,none,none,rfl,rfl,rfl⟩ (by
      rintro t r s ⟨l,done,o2,o3,o4,e1,e2,rfl⟩
      cases l with
      | nil=>cases e1
      | cons x l =>
        cases e1
        have ld:done.length+l.length+1=bs.length:=by rw [e2]; simp; omega
        have hd:=Ae done
        have lt:(bounds done).length<lim:=by show _<1000000; omega
        have lt1:(bounds done).length+1<lim:=by show _<1000000; omega
        refine ⟨⟨[some (.lst (bs.map bdT),false),some (.lst ((bounds done).map atT),true),some (.str x.1,false),some (.int x.2.1,false),some (.int x.2.2,false)],sto⟩,⟨[some (.lst (bs.map bdT),false),some (.lst ((bounds (done++[x])).map atT),true),some (.str x.1,false),some (.int x.2.1,false),some (.int x.2.2,false)],sto⟩,by rw [bdT,a4y]; rfl,?_,l,done++[x],_,_,_,rfl,by rw [e2]; simp,rfl⟩
        rw [Rk]
        simp [iy,jd,sIf,jk,sNew,jl,jt,sNx,fu,sGo,cj,mz,dg,dj,j9,fj,oh,kj,mOr,iz,mIf,mOp,mUn,bw,gn,ak,dw,aq,jc,dz,cg,hName,m8,gk,jw,ltT,leT,m9,ju,qb,jy,j8,ni,pq,j6,j5,bh,n6,Pq,Wo,lt,lt1])
  obtain ⟨l,done,o2,o3,o4,e1,e2,rfl⟩:=P
  cases l with
  | cons _ _=>cases e1
  | nil =>
    rw [List.append_nil] at e2
    subst e2
    simp [iy,jd,sIf,jk,sNew,jl,jt,sNx,fu,sGo,cj,mz,dg,dj,j9,fj,oh,kj,mOr,iz,mIf,mOp,mUn,bw,gn,ak,dw,aq,jc,dz,cg,hName,m8,gk,jw,ltT,leT,m9,ju,qb,jy,j8,ni,pq,j6,j5,bh,n6]
noncomputable def PR (x:T × List Int):Prop:=∀ sto:List SO,uw [x.1] sto=some (ilT x.2,sto)
theorem a6m {r:Rw} (h:r.length≤100):PR (rwT r,pr r):=fun sto=>Lp (by omega)
theorem Hw {xs:List (T × List Int)} (hl:xs.length≤100) (h:∀ x∈xs,PR x):qd [.tup (xs.map (·.1))] sto=some (.lst ((xs.map (·.2)).map ilT),sto):=by
  have l1:xs.length<lim:=by show _<1000000; omega
  unfold qd
  simp [iy,jd,sIf,jk,sNew,jl,jt,sNx,fu,sGo,cj,mz,dg,dj,j9,fj,oh,kj,mOr,iz,mIf,mOp,mUn,bw,gn,ak,dw,aq,jc,dz,cg,hName,m8,gk,jw,ltT,leT,m9,ju,qb,jy,j8,ni,pq,j6,j5,bh,n6]
  generalize hF:qz 1 _ _ _ _ _ _=q
  have e:=zp hF (fun x:T × List Int=>x.1) (fun x=>ilT x.2) xs ⟨[some (.tup (xs.map (·.1)),false)],sto⟩ [some (.tup (xs.map (·.1)),false)] [] (by first | exact rfl | simp [iy,jd,sIf,jk,sNew,jl,jt,sNx,fu,sGo,cj,mz,dg,dj,j9,fj,oh,kj,mOr,iz,mIf,mOp,mUn,bw,gn,ak,dw,aq,jc,dz,cg,hName,m8,gk,jw,ltT,leT,m9,ju,qb,jy,j8,ni,pq,j6,j5,bh,n6,lg,l1]) rfl rfl rfl (Nat.le_of_lt l1) (fun x hx pre hp=>by
    have:=h x hx sto
    match pre,hp with
    | [p0],_=>exact ⟨[some (x.1,false)],rfl,by first | exact rfl | simp [iy,jd,sIf,jk,sNew,jl,jt,sNx,fu,sGo,cj,mz,dg,dj,j9,fj,oh,kj,mOr,iz,mIf,mOp,mUn,bw,gn,ak,dw,aq,jc,dz,cg,hName,m8,gk,jw,ltT,leT,m9,ju,qb,jy,j8,ni,pq,j6,j5,bh,n6],rfl,by first | exact rfl | simp [iy,jd,sIf,jk,sNew,jl,jt,sNx,fu,sGo,cj,mz,dg,dj,j9,fj,oh,kj,mOr,iz,mIf,mOp,mUn,bw,gn,ak,dw,aq,jc,dz,cg,hName,m8,gk,jw,ltT,leT,m9,ju,qb,jy,j8,ni,pq,j6,j5,bh,n6,this]⟩)
  subst e
  simp
theorem Jz {t:T} (h:isTup [t]=some (.bl false)):jj [t] sto=some (.tup [],sto):=by
  unfold jj
  simp [iy,jd,sIf,jk,sNew,jl,jt,sNx,fu,sGo,cj,mz,dg,dj,j9,fj,oh,kj,mOr,iz,mIf,mOp,mUn,bw,gn,ak,dw,aq,jc,dz,cg,hName,m8,gk,jw,ltT,leT,m9,ju,qb,jy,j8,ni,pq,j6,j5,bh,n6,h]
theorem Pz {t:T} (h:isTup [t]=some (.bl false)):PR (t,[]):=fun sto=>by
  have pt:=Jz (sto:=sto) h
  unfold uw
  simp [iy,jd,sIf,jk,sNew,jl,jt,sNx,fu,sGo,cj,mz,dg,dj,j9,fj,oh,kj,mOr,iz,mIf,mOp,mUn,bw,gn,ak,dw,aq,jc,dz,cg,hName,m8,gk,jw,ltT,leT,m9,ju,qb,jy,j8,ni,pq,j6,j5,bh,n6,pt,qz,jw,Bu,lim,bh,qj,Sg,Fb,Bb,ilT]
noncomputable def leaf (xs:List (T × List Int)) (P:T):Prop:=P=.tup (xs.map (·.1))∨isTup [P]=some (.bl false)∧xs=[]
theorem Vy {xs:List (T × List Int)} {P:T} (h:leaf xs P) (hl:xs.length≤100) (h2:∀ x∈xs,PR x):qd [P] sto=some (.lst ((xs.map (·.2)).map ilT),sto):=by
  rcases h with rfl | ⟨hp,rfl⟩
  · exact Hw hl h2
  · have pt:=Jz (sto:=sto) hp
    unfold qd
    simp [iy,jd,sIf,jk,sNew,jl,jt,sNx,fu,sGo,cj,mz,dg,dj,j9,fj,oh,kj,mOr,iz,mIf,mOp,mUn,bw,gn,ak,dw,aq,jc,dz,cg,hName,m8,gk,jw,ltT,leT,m9,ju,qb,jy,j8,ni,pq,j6,j5,bh,n6]
    generalize hF:qz 1 _ _ _ _ _ _=q
    have e:=zp hF rwT (fun r=>ilT (pr r)) [] ⟨[some (P,false)],sto⟩ [some (P,false)] [] (by first | exact rfl | simp [iy,jd,sIf,jk,sNew,jl,jt,sNx,fu,sGo,cj,mz,dg,dj,j9,fj,oh,kj,mOr,iz,mIf,mOp,mUn,bw,gn,ak,dw,aq,jc,dz,cg,hName,m8,gk,jw,ltT,leT,m9,ju,qb,jy,j8,ni,pq,j6,j5,bh,n6,pt,lim]) rfl rfl rfl (by simp) (fun r hr' pre hp=>by cases hr')
    subst e
    simp
theorem eqW {a b:Str} {c:Bool} (h:(PyData.canLay0 (.str a)&&PyData.canLay0 (.str b)&&((a==b)==c))=true):eqO (.str a) (.str b)=some (.bl c):=by
  simp only [Bool.and_eq_true,beq_iff_eq] at h
  rw [Ce h.1.1 h.1.2,h.2]
theorem kind_len {l:List T} {k:Str} {n:Int} (h:((l.length:Int)==n)=false):jf [.tup l,.str k,.int n] sto=some (.bl false,sto):=by
  unfold jf
  simp [iy,jd,sIf,jk,sNew,jl,jt,sNx,fu,sGo,cj,mz,dg,dj,j9,fj,oh,kj,mOr,iz,mIf,mOp,mUn,bw,gn,ak,dw,aq,jc,dz,cg,hName,m8,gk,jw,ltT,leT,m9,ju,qb,jy,j8,ni,pq,j6,j5,bh,n6,uy,h]
theorem w6 {w k:Str} {r:List T} {n:Int} {c:Bool} (h:(((r.length:Int)+1)==n)=true) (e:eqO (.str w) (.str k)=some (.bl c)):jf [.tup (.str w::r),.str k,.int n] sto=some (.bl c,sto):=by
  unfold jf
  simp [iy,jd,sIf,jk,sNew,jl,jt,sNx,fu,sGo,cj,mz,dg,dj,j9,fj,oh,kj,mOr,iz,mIf,mOp,mUn,bw,gn,ak,dw,aq,jc,dz,cg,hName,m8,gk,jw,ltT,leT,m9,ju,qb,jy,j8,ni,pq,j6,j5,bh,n6,uy,h,isStr,xr,e]
theorem a0a {t:T} {k:Str} {r:List T} {n:Int} (h:(((r.length:Int)+1)==n)=true) (e:isStr [t]=some (.bl false)):jf [.tup (t::r),.str k,.int n] sto=some (.bl false,sto):=by
  unfold jf
  simp [iy,jd,sIf,jk,sNew,jl,jt,sNx,fu,sGo,cj,mz,dg,dj,j9,fj,oh,kj,mOr,iz,mIf,mOp,mUn,bw,gn,ak,dw,aq,jc,dz,cg,hName,m8,gk,jw,ltT,leT,m9,ju,qb,jy,j8,ni,pq,j6,j5,bh,n6,uy,h,xr,e]
end
end K
end
noncomputable section
set_option linter.all false
set_option maxRecDepth 100000
set_option autoImplicit false
namespace K
open C PySem
noncomputable section
variable {U:List Str} {sto:List SO} {A:List At} {N L:T}
theorem Hq {n:Int}:nu [.int n] sto=some (.bl true,sto):=Fw (c:=.i n)
theorem Jp {b:Bool}:nu [.bl b] sto=some (.bl false,sto):=Fw (c:=.b b)
theorem Uz {x:Str}:nu [.str x] sto=some (.bl false,sto):=Fw (c:=.s x)
theorem Uq:eqO (.str "or") (.str "or")=some (.bl true):=eqW (by decide +kernel)
theorem Va:eqO (.str "or") (.str "rest")=some (.bl false):=eqW (by decide +kernel)
theorem Y6:eqO (.str "sum") (.str "or")=some (.bl false):=eqW (by decide +kernel)
theorem Sx:eqO (.str "sum") (.str "rest")=some (.bl false):=eqW (by decide +kernel)
theorem U5:eqO (.str "sum") (.str "sum")=some (.bl true):=eqW (by decide +kernel)
theorem Ra:eqO (.str "sums") (.str "sum")=some (.bl false):=eqW (by decide +kernel)
theorem Sh:eqO (.str "rest") (.str "sum")=some (.bl false):=eqW (by decide +kernel)
theorem U0:eqO (.str "rest") (.str "or")=some (.bl false):=eqW (by decide +kernel)
theorem Oa:eqO (.str "rest") (.str "rest")=some (.bl true):=eqW (by decide +kernel)
theorem Ks:eqO (.str "cut") (.str "cut")=some (.bl true):=eqW (by decide +kernel)
theorem Rm:eqO (.str "cuts") (.str "cut")=some (.bl false):=eqW (by decide +kernel)
theorem pw_skip {p:T} {l:List T} (pt:jj [p] sto=some (.tup l,sto)) (k1:jf [.tup l,.str "or",.int 3] sto=some (.bl false,sto)) (k2:jf [.tup l,.str "cut",.int 5] sto=some (.bl false,sto))
    (k3:jf [.tup l,.str "sum",.int 2] sto=some (.bl false,sto)) (k4:jf [.tup l,.str "rest",.int 3] sto=some (.bl false,sto)):gj [N,L,p] sto=some (.non,sto):=by
  unfold gj
  simp [iy,jd,sIf,jk,sNew,jl,jt,sNx,fu,sGo,cj,mz,dg,dj,j9,fj,oh,kj,mOr,iz,mIf,mOp,mUn,bw,gn,ak,dw,aq,jc,dz,cg,hName,m8,gk,jw,ltT,leT,m9,ju,qb,jy,j8,ni,pq,j6,j5,bh,n6,pt,k1,k2,k3,k4]
theorem pw_other {p:T} (h:isTup [p]=some (.bl false)):gj [N,L,p] sto=some (.non,sto) :=
  pw_skip (Jz h) (kind_len (by decide)) (kind_len (by decide)) (kind_len (by decide)) (kind_len (by decide))
theorem pw_len {l:List T} (h3:((l.length:Int)==3)=false) (h5:((l.length:Int)==5)=false) (h2:((l.length:Int)==2)=false):gj [N,L,.tup l] sto=some (.non,sto) :=
  pw_skip lg (kind_len h3) (kind_len h5) (kind_len h2) (kind_len h3)
theorem pw_sum {xs:List (T × List Int)} {P O:T} (u:Uni U) (hU:U.Nodup) (ok:∀ a∈A,Mi U a) (h:leaf xs P) (hb:∀ x∈xs,∀ n∈x.2,Av n=true) (hl:xs.length≤100) (h2:∀ x∈xs,PR x) :
    gj [N,.tup [.lst (A.map atT),O],.tup [.str "sum",P]] sto=some (if Az U A (xs.map (·.2)) then .lst [] else .non,sto):=by
  have k1:jf [.tup [.str "sum",P],.str "or",.int 3] sto=some (.bl false,sto):=kind_len (by simp)
  have k2:jf [.tup [.str "sum",P],.str "cut",.int 5] sto=some (.bl false,sto):=kind_len (by simp)
  have k3:jf [.tup [.str "sum",P],.str "sum",.int 2] sto=some (.bl true,sto):=w6 (by simp) U5
  have k4:jf [.tup [.str "sum",P],.str "rest",.int 3] sto=some (.bl false,sto):=kind_len (by simp)
  have lr:=Vy (sto:=sto) h hl h2
  have is:=a4i (sto:=sto) (rows:=xs.map (·.2)) u hU ok (fun l hl' n hn=>by
    obtain ⟨x,hx,rfl⟩:=List.mem_map.mp hl'
    exact hb x hx n hn) (by simpa using hl)
  rw [List.map_map] at lr is
  cases hs:Az U A (xs.map (·.2)) with
  | true =>
    rw [hs] at is
    simp [iy,jd,sIf,jk,sNew,jl,jt,sNx,fu,sGo,cj,mz,dg,dj,j9,fj,oh,kj,mOr,iz,mIf,mOp,mUn,bw,gn,ak,dw,aq,jc,dz,cg,hName,m8,gk,jw,ltT,leT,m9,ju,qb,jy,j8,ni,pq,j6,j5,bh,n6,gj,lg,k1,k2,k3,xr,v9,lr,is,hs]
  | false =>
    rw [hs] at is
    simp [iy,jd,sIf,jk,sNew,jl,jt,sNx,fu,sGo,cj,mz,dg,dj,j9,fj,oh,kj,mOr,iz,mIf,mOp,mUn,bw,gn,ak,dw,aq,jc,dz,cg,hName,m8,gk,jw,ltT,leT,m9,ju,qb,jy,j8,ni,pq,j6,j5,bh,n6,gj,lg,k1,k2,k3,k4,xr,v9,lr,is,hs]
theorem pw_orW {a b:T} (h:nu [a] sto=some (.bl false,sto)):gj [N,L,.tup [.str "or",a,b]] sto=some (.non,sto):=by
  have k1:jf [.tup [.str "or",a,b],.str "or",.int 3] sto=some (.bl true,sto):=w6 (by simp) Uq
  have k2:jf [.tup [.str "or",a,b],.str "cut",.int 5] sto=some (.bl false,sto):=kind_len (by simp)
  have k3:jf [.tup [.str "or",a,b],.str "sum",.int 2] sto=some (.bl false,sto):=kind_len (by simp)
  have k4:jf [.tup [.str "or",a,b],.str "rest",.int 3] sto=some (.bl false,sto):=w6 (by simp) Va
  unfold gj
  simp [iy,jd,sIf,jk,sNew,jl,jt,sNx,fu,sGo,cj,mz,dg,dj,j9,fj,oh,kj,mOr,iz,mIf,mOp,mUn,bw,gn,ak,dw,aq,jc,dz,cg,hName,m8,gk,jw,ltT,leT,m9,ju,qb,jy,j8,ni,pq,j6,j5,bh,n6,lg,k1,k2,k3,k4,v9,h]
theorem pw_or {n:Int} {b r:T} (h:jq [L,.int n,b] sto=some (r,sto)):gj [N,L,.tup [.str "or",.int n,b]] sto=some (r,sto):=by
  have k1:jf [.tup [.str "or",.int n,b],.str "or",.int 3] sto=some (.bl true,sto):=w6 (by simp) Uq
  unfold gj
  simp [iy,jd,sIf,jk,sNew,jl,jt,sNx,fu,sGo,cj,mz,dg,dj,j9,fj,oh,kj,mOr,iz,mIf,mOp,mUn,bw,gn,ak,dw,aq,jc,dz,cg,hName,m8,gk,jw,ltT,leT,m9,ju,qb,jy,j8,ni,pq,j6,j5,bh,n6,lg,k1,v9,Qu,Hq,Tq,h]
theorem Xm {n:Int} {b X:T} {O:List (List T)} (h:(decide (0≤n)&&decide (n<O.length))=false):jq [.tup [X,.lst (O.map T.tup)],.int n,b] sto=some (.non,sto):=by
  have ip:=Dt (sto:=sto) (f:=T.tup) (n:=n) (l:=O)
  rw [h] at ip
  unfold jq
  simp [iy,jd,sIf,jk,sNew,jl,jt,sNx,fu,sGo,cj,mz,dg,dj,j9,fj,oh,kj,mOr,iz,mIf,mOp,mUn,bw,gn,ak,dw,aq,jc,dz,cg,hName,m8,gk,jw,ltT,leT,m9,ju,qb,jy,j8,ni,pq,j6,j5,bh,n6,v9,ip]
theorem a0m {l:List T} {X ms:T}:jq [.tup [X,.lst [ms]],.int 0,.lst l] sto=some (.non,sto):=by
  have ip:qg [.int 0,.lst [ms]] sto=some (.bl true,sto):=by first | exact rfl | simp [iy,jd,sIf,jk,sNew,jl,jt,sNx,fu,sGo,cj,mz,dg,dj,j9,fj,oh,kj,mOr,iz,mIf,mOp,mUn,bw,gn,ak,dw,aq,jc,dz,cg,hName,m8,gk,jw,ltT,leT,m9,ju,qb,jy,j8,ni,pq,j6,j5,bh,n6,qg]
  unfold jq
  simp [iy,jd,sIf,jk,sNew,jl,jt,sNx,fu,sGo,cj,mz,dg,dj,j9,fj,oh,kj,mOr,iz,mIf,mOp,mUn,bw,gn,ak,dw,aq,jc,dz,cg,hName,m8,gk,jw,ltT,leT,m9,ju,qb,jy,j8,ni,pq,j6,j5,bh,n6,v9,ip,isTup]
theorem Wm {l:List T} {X m1 m2:T} (h:((l.length:Int)==2)=false):jq [.tup [X,.lst [.tup [m1,m2]]],.int 0,.tup l] sto=some (.non,sto):=by
  have ip:qg [.int 0,.lst [.tup [m1,m2]]] sto=some (.bl true,sto):=by first | exact rfl | simp [iy,jd,sIf,jk,sNew,jl,jt,sNx,fu,sGo,cj,mz,dg,dj,j9,fj,oh,kj,mOr,iz,mIf,mOp,mUn,bw,gn,ak,dw,aq,jc,dz,cg,hName,m8,gk,jw,ltT,leT,m9,ju,qb,jy,j8,ni,pq,j6,j5,bh,n6,qg]
  have i0:iw (.lst [.tup [m1,m2]]) (.int 0)=some (.tup [m1,m2]):=rfl
  unfold jq
  simp [iy,jd,sIf,jk,sNew,jl,jt,sNx,fu,sGo,cj,mz,dg,dj,j9,fj,oh,kj,mOr,iz,mIf,mOp,mUn,bw,gn,ak,dw,aq,jc,dz,cg,hName,m8,gk,jw,ltT,leT,m9,ju,qb,jy,j8,ni,pq,j6,j5,bh,n6,v9,ip,isTup,i0,lg,Hu,h]
theorem Zo {A O:List T} {f1 f2:Fm} {p q:T} (hA:A.length<1000) (hO:O=[.tup [fmT f1,fmT f2]]) (o1:okF f1) (o2:okF f2) (z1:fsz f1<900) (z2:fsz f2<900) :
    jq [.tup [.lst A,.lst O],.int 0,.tup [p,q]] sto=some (.lst [.tup [.tup [.lst (A++flA f1),.lst (O++flO f1)],p],.tup [.tup [.lst (A++flA f2),.lst (O++flO f2)],q]],sto):=by
  have l1:=Hi (sto:=sto) (A:=A) (O:=O) (l:=[f1]) (by simp only [Fl]; omega) ⟨o1,trivial⟩ (by omega) (by rw [hO]; simp)
  have l2:=Hi (sto:=sto) (A:=A) (O:=O) (l:=[f2]) (by simp only [Fl]; omega) ⟨o2,trivial⟩ (by omega) (by rw [hO]; simp)
  simp only [List.map_cons,List.map_nil,Ib,Ie,List.append_nil] at l1 l2
  subst hO
  have ip:qg [.int 0,.lst [.tup [fmT f1,fmT f2]]] sto=some (.bl true,sto):=by first | exact rfl | simp [iy,jd,sIf,jk,sNew,jl,jt,sNx,fu,sGo,cj,mz,dg,dj,j9,fj,oh,kj,mOr,iz,mIf,mOp,mUn,bw,gn,ak,dw,aq,jc,dz,cg,hName,m8,gk,jw,ltT,leT,m9,ju,qb,jy,j8,ni,pq,j6,j5,bh,n6,qg]
  have i0:iw (.lst [.tup [fmT f1,fmT f2]]) (.int 0)=some (.tup [fmT f1,fmT f2]):=rfl
  unfold jq
  simp [iy,jd,sIf,jk,sNew,jl,jt,sNx,fu,sGo,cj,mz,dg,dj,j9,fj,oh,kj,mOr,iz,mIf,mOp,mUn,bw,gn,ak,dw,aq,jc,dz,cg,hName,m8,gk,jw,ltT,leT,m9,ju,qb,jy,j8,ni,pq,j6,j5,bh,n6,v9,ip,isTup,i0,lg,Hu,qz,a2q,a1l,Bu,bh,qj,n6,lim,m8,l1,l2]
theorem pw_cutW {a b c d:T} (h:nu [b] sto=some (.bl false,sto)):gj [N,L,.tup [.str "cut",a,b,c,d]] sto=some (.non,sto):=by
  have k1:jf [.tup [.str "cut",a,b,c,d],.str "or",.int 3] sto=some (.bl false,sto):=kind_len (by simp)
  have k2:jf [.tup [.str "cut",a,b,c,d],.str "cut",.int 5] sto=some (.bl true,sto):=w6 (by simp) Ks
  have k3:jf [.tup [.str "cut",a,b,c,d],.str "sum",.int 2] sto=some (.bl false,sto):=kind_len (by simp)
  have k4:jf [.tup [.str "cut",a,b,c,d],.str "rest",.int 3] sto=some (.bl false,sto):=kind_len (by simp)
  unfold gj
  simp [iy,jd,sIf,jk,sNew,jl,jt,sNx,fu,sGo,cj,mz,dg,dj,j9,fj,oh,kj,mOr,iz,mIf,mOp,mUn,bw,gn,ak,dw,aq,jc,dz,cg,hName,m8,gk,jw,ltT,leT,m9,ju,qb,jy,j8,ni,pq,j6,j5,bh,n6,lg,k1,k2,k3,k4,Qu,h]
theorem sl3 {a b c d e:T} {s:Sta} {i:Nat} (h:bw i s=some (.tup [a,b,c,d,e],s)):Dh (bw i) (Fv (aq (.int 3))) a08 s=some (.tup [d,e],s):=by
  unfold Dh
  rw [h]
  rfl
theorem pw_cut {a c d r:T} {k:Int} (h:jx [N,L,a,.int k,.tup [c,d]] sto=some (r,sto)):gj [N,L,.tup [.str "cut",a,.int k,c,d]] sto=some (r,sto):=by
  have k1:jf [.tup [.str "cut",a,.int k,c,d],.str "or",.int 3] sto=some (.bl false,sto):=kind_len (by simp)
  have k2:jf [.tup [.str "cut",a,.int k,c,d],.str "cut",.int 5] sto=some (.bl true,sto):=w6 (by simp) Ks
  have s3:=sl3 (a:=.str "cut") (b:=a) (c:=.int k) (d:=c) (e:=d) (i:=3) (s:=⟨[some (N,false),some (L,false),some (.tup [.str "cut",a,.int k,c,d],false),some (.tup [.str "cut",a,.int k,c,d],false)],sto⟩) rfl
  unfold gj
  simp [iy,jd,sIf,jk,sNew,jl,jt,sNx,fu,sGo,cj,mz,dg,dj,j9,fj,oh,kj,mOr,iz,mIf,mOp,mUn,bw,gn,ak,dw,aq,jc,dz,cg,hName,m8,gk,jw,ltT,leT,m9,ju,qb,jy,j8,ni,pq,j6,j5,bh,n6,lg,k1,k2,v9,Qu,Hq,Tq,s3,h]
end
end K
end
noncomputable section
set_option linter.all false
set_option maxRecDepth 100000
set_option autoImplicit false
namespace K
open C PySem
noncomputable section
variable {U:List Str} {sto:List SO} {A:List At} {N L:T}
theorem Kq {ns:List Str} {a:T} {q:Str→Bool} {k:Int} {P:T} {o5 o6 o7:Slot} (hl:ns.length≤100)
    (hq:∀ x∈ns,(kj (fj (gn isStr (ak (bw 1) dw))) (fj (mOp eqO (bw 0) (bw 1)))) ⟨[some (.str x,false),some (a,false)],sto⟩=some (q x,⟨[some (.str x,false),some (a,false)],sto⟩)) :
    qz 1 [2] (hName 0) (jw (bw 0)) (kj (fj (gn isStr (ak (bw 1) dw))) (fj (mOp eqO (bw 0) (bw 1)))) (bw 0) ⟨[some (.lst (ns.map T.str),false),some (L,false),some (a,false),some (.int k,false),some (P,false),o5,o6,o7],sto⟩
      = some (.lst ((ns.filter q).map T.str),⟨[some (.lst (ns.map T.str),false),some (L,false),some (a,false),some (.int k,false),some (P,false),o5,o6,o7],sto⟩):=by
  have lm:ns.length<lim:=by show _<1000000; omega
  generalize hF:qz 1 _ _ _ _ _ _=res
  exact Kw hF T.str T.str q ns ⟨[some (.lst (ns.map T.str),false),some (L,false),some (a,false),some (.int k,false),some (P,false),o5,o6,o7],sto⟩ _ [some (a,false)] (by simp [iy,jd,sIf,jk,sNew,jl,jt,sNx,fu,sGo,cj,mz,dg,dj,j9,fj,oh,kj,mOr,iz,mIf,mOp,mUn,bw,gn,ak,dw,aq,jc,dz,cg,hName,m8,gk,jw,ltT,leT,m9,ju,qb,jy,j8,ni,pq,j6,j5,bh,n6,lm]) rfl rfl rfl (Nat.le_of_lt lm) (fun x hx pre hp=>by
    match pre,hp with
    | [p0],_=>exact ⟨[some (.str x,false)],rfl,rfl,hq x hx,fun _=>rfl⟩)
theorem Qa {ns:List Str} {a P:T} {k:Int} (hl:ns.length≤100) (q:Str→Bool) (h0:ns.filter q=[])
    (hq:∀ x∈ns,(kj (fj (gn isStr (ak (bw 1) dw))) (fj (mOp eqO (bw 0) (bw 1)))) ⟨[some (.str x,false),some (a,false)],sto⟩=some (q x,⟨[some (.str x,false),some (a,false)],sto⟩)) :
    jx [.lst (ns.map T.str),L,a,.int k,P] sto=some (.non,sto):=by
  have cb:=Kq (L:=L) (k:=k) (P:=P) (o5:=none) (o6:=none) (o7:=none) hl hq
  rw [h0] at cb
  unfold jx
  generalize hm:qz 1 [2] _ _ _ _=M1 at cb ⊢
  simp [iy,jd,sIf,jk,sNew,jl,jt,sNx,fu,sGo,cj,mz,dg,dj,j9,fj,oh,kj,mOr,iz,mIf,mOp,mUn,bw,gn,ak,dw,aq,jc,dz,cg,hName,m8,gk,jw,ltT,leT,m9,ju,qb,jy,j8,ni,pq,j6,j5,bh,n6,cb,Hu]
theorem cut_str {x a:Str} (hx:okS x) (ha:okS a):(kj (fj (gn isStr (ak (bw 1) dw))) (fj (mOp eqO (bw 0) (bw 1)))) ⟨[some (.str x,false),some (.str a,false)],sto⟩=some (x==a,⟨[some (.str x,false),some (.str a,false)],sto⟩):=by
  simp [iy,jd,sIf,jk,sNew,jl,jt,sNx,fu,sGo,cj,mz,dg,dj,j9,fj,oh,kj,mOr,iz,mIf,mOp,mUn,bw,gn,ak,dw,aq,jc,dz,cg,hName,m8,gk,jw,ltT,leT,m9,ju,qb,jy,j8,ni,pq,j6,j5,bh,n6,isStr,Ce hx ha]
theorem Ua {x:Str} {a:T} (h:isStr [a]=some (.bl false)):(kj (fj (gn isStr (ak (bw 1) dw))) (fj (mOp eqO (bw 0) (bw 1)))) ⟨[some (.str x,false),some (a,false)],sto⟩=some (false,⟨[some (.str x,false),some (a,false)],sto⟩):=by
  simp [iy,jd,sIf,jk,sNew,jl,jt,sNx,fu,sGo,cj,mz,dg,dj,j9,fj,oh,kj,mOr,iz,mIf,mOp,mUn,bw,gn,ak,dw,aq,jc,dz,cg,hName,m8,gk,jw,ltT,leT,m9,ju,qb,jy,j8,ni,pq,j6,j5,bh,n6,h]
theorem a81:okS "x" := by unfold okS; decide +kernel
theorem a8i:okS "q" := by unfold okS; decide +kernel
noncomputable def fA (a:At):Fm:=.atom a.k (smT a.s::a.more)
theorem a8k {a:At}:fmT (fA a)=atT a:=by simp [fA,fmT,atT]
theorem Cw:okA "most" := ⟨Gn,by decide +kernel,by decide +kernel⟩
theorem a3l {ns:List Str} {A O:List T} {k:Int} {p q:T} (hl:ns.length≤100) (ok:∀ x∈ns,okS x) (h1:ns.filter (fun x=>x==("x" : Str))=(["x"]:List Str)) (hA:A.length<1000) (hO:O.length<1000) :
    jx [.lst (ns.map T.str),.tup [.lst A,.lst O],.str "x",.int k,.tup [p,q]] sto
      = some (.lst [.tup [.tup [.lst (A++[atT (aM "x" k)]),.lst O],p],.tup [.tup [.lst (A++[atT (aL "x" (k+1))]),.lst O],q]],sto):=by
  have cb:=Kq (L:=.tup [.lst A,.lst O]) (k:=k) (P:=.tup [p,q]) (o5:=none) (o6:=none) (o7:=none) hl (fun x hx=>cut_str (sto:=sto) (ok x hx) a81)
  rw [h1] at cb
  have la:=Hi (sto:=sto) (A:=A) (O:=O) (l:=[fA (aM "x" k)]) (by simp [Fl,fA,fsz]) ⟨Cw,trivial⟩ (by omega) (by omega)
  have lb:=Hi (sto:=sto) (A:=A) (O:=O) (l:=[fA (aL "x" (k+1))]) (by simp [Fl,fA,fsz]) ⟨Cw,trivial⟩ (by omega) (by omega)
  have e1:∀ a:At,Ib [fA a]=[atT a]:=fun a=>by simp [Ib,flA,fA,atT]
  have e2:∀ a:At,Ie [fA a]=[]:=fun a=>by simp [Ie,flO,fA]
  simp only [List.map_cons,List.map_nil,e1,e2,a8k,List.append_nil] at la lb
  have i0:iw (.lst [.str "x"]) (.int 0)=some (.str "x"):=rfl
  unfold jx
  generalize hm:qz 1 [2] _ _ _ _=M1 at cb ⊢
  simp [iy,jd,sIf,jk,sNew,jl,jt,sNx,fu,sGo,cj,mz,dg,dj,j9,fj,oh,kj,mOr,iz,mIf,mOp,mUn,bw,gn,ak,dw,aq,jc,dz,cg,hName,m8,gk,jw,ltT,leT,m9,ju,qb,jy,j8,ni,pq,j6,j5,bh,n6,cb,Hu,i0,Wo,Pq,la,lb,xr,v9]
inductive J (sto:List SO) (N:T):T→T→Nat→Bool→Nat→Prop where
  | deep {L p:T} {d:Nat}:90<d→J sto N L p d false 1
  | none {L p:T} {d:Nat}:gj [N,L,p] sto=some (.non,sto)→J sto N L p d false 1
  | leaf {L p:T} {d:Nat}:d≤90→gj [N,L,p] sto=some (.lst [],sto)→J sto N L p d true 1
  | two {L p L1 p1 L2 p2:T} {d:Nat} {b1 b2:Bool} {n1 n2:Nat}:d≤90→gj [N,L,p] sto=some (.lst [.tup [L1,p1],.tup [L2,p2]],sto)→J sto N L1 p1 (d+1) b1 n1→J sto N L2 p2 (d+1) b2 n2→J sto N L p d (b1&&b2) (n1+n2+1)
noncomputable def wT (x:T × T × Nat):T:=.tup [x.1,x.2.1,.int (x.2.2:Int)]
inductive WJ (sto:List SO) (N:T):List (T × T × Nat)→Bool→Nat→Prop where
  | nil:WJ sto N [] true 0
  | cons {L p:T} {d:Nat} {W:List (T × T × Nat)} {b b':Bool} {n n':Nat}:J sto N L p d b n→WJ sto N W b' n'→WJ sto N ((L,p,d)::W) (b&&b') (n+n')
noncomputable abbrev lC:M Bool:=(fj (mOp gtT (Aj 4) (aq (.int 0))))
noncomputable abbrev lB:S:=(jd (Vd 4 5)
  (jd (jk 6 (aq .non))
  (jd (sIf (fj (mOp leT (mOp iw (bw 5) (aq (.int 2))) (aq (.int 90))))
  (jk 6 (dz gj (ak (bw 3) (ak (mOp iw (bw 5) (aq (.int 0))) (ak (mOp iw (bw 5) (aq (.int 1))) dw)))))
  jt)
  (jd (sIf (fj (mOp a2x (bw 6) (aq .non)))
  (jl (aq (.bl false)))
  jt)
  (dj 4 (qz 2 [5] (m8 [0,1]) (jw (bw 6)) j5 (gn (fun l=>some (.tup l)) (ak (bw 0) (ak (bw 1) (ak (mOp ju (mOp iw (bw 2) (aq (.int 2))) (aq (.int 1))) dw))))))))))
noncomputable abbrev sE (o0 o1 o2:Slot) (N:T) (W:List (T × T × Nat)) (o5 o6:Slot):List Slot:=[o0,o1,o2,some (N,false),some (.lst (W.reverse.map wT),true),o5,o6]
theorem a7k {W:List (T × T × Nat)} {b:Bool} {n:Nat} (h:WJ sto N W b n):W.length≤n:=by
  induction h with
  | nil=>simp
  | cons hj _ ih =>
    simp only [List.length_cons]
    cases hj <;> omega
theorem pop_at {o0 o1 o2 o5 o6:Slot} {x:T × T × Nat} {W:List (T × T × Nat)}:Vd 4 5 ⟨sE o0 o1 o2 N (x::W) o5 o6,sto⟩=some (.next,⟨sE o0 o1 o2 N W (some (wT x,false)) o6,sto⟩):=by
  simp [Vd,cg]
theorem a5k {o0 o1 o2:Slot} {L1 p1 L2 p2 X:T} {d:Nat} {W:List (T × T × Nat)} {L p:T} (hW:W.length<90000) :
    dj 4 (qz 2 [5] (m8 [0,1]) (jw (bw 6)) j5 (gn (fun l=>some (.tup l)) (ak (bw 0) (ak (bw 1) (ak (mOp ju (mOp iw (bw 2) (aq (.int 2))) (aq (.int 1))) dw))))) ⟨sE o0 o1 o2 N W (some (wT (L,p,d),false)) (some (.lst [.tup [L1,p1],.tup [L2,p2]],false)),sto⟩
      = some (.next,⟨sE o0 o1 o2 N ((L2,p2,d+1)::(L1,p1,d+1)::W) (some (wT (L,p,d),false)) (some (.lst [.tup [L1,p1],.tup [L2,p2]],false)),sto⟩):=by
  have lm:W.length+2<lim:=by show _<1000000; omega
  have co:qz 2 [5] (m8 [0,1]) (jw (bw 6)) j5 (gn (fun l=>some (.tup l)) (ak (bw 0) (ak (bw 1) (ak (mOp ju (mOp iw (bw 2) (aq (.int 2))) (aq (.int 1))) dw)))) ⟨sE o0 o1 o2 N W (some (wT (L,p,d),false)) (some (.lst [.tup [L1,p1],.tup [L2,p2]],false)),sto⟩=some (.lst ([(L1,p1,d+1),(L2,p2,d+1)].map wT),⟨sE o0 o1 o2 N W (some (wT (L,p,d),false)) (some (.lst [.tup [L1,p1],.tup [L2,p2]],false)),sto⟩):=by
    generalize hF:qz 2 _ _ _ _ _ _=q
    have:=zp hF (fun x:T × T=>.tup [x.1,x.2]) (fun x=>wT (x.1,x.2,d+1)) [(L1,p1),(L2,p2)] ⟨sE o0 o1 o2 N W (some (wT (L,p,d),false)) (some (.lst [.tup [L1,p1],.tup [L2,p2]],false)),sto⟩ _ [some (wT (L,p,d),false)] (by simp [iy,jd,sIf,jk,sNew,jl,jt,sNx,fu,sGo,cj,mz,dg,dj,j9,fj,oh,kj,mOr,iz,mIf,mOp,mUn,bw,gn,ak,dw,aq,jc,dz,cg,hName,m8,gk,jw,ltT,leT,m9,ju,qb,jy,j8,ni,pq,j6,j5,bh,n6,lim]) rfl rfl rfl (by show 2≤1000000; decide) (fun x hx pre hp=>by
      match pre,hp with
      | [a,b],_=>exact ⟨[some (x.1,false),some (x.2,false)],rfl,rfl,rfl,rfl⟩)
    rw [this]
    rfl
  simp only [dj,co]
  simp [j6,j9,lm,cg]
theorem ext_nil {o0 o1 o2:Slot} {X:T} {W:List (T × T × Nat)} (hW:W.length<90000) :
    dj 4 (qz 2 [5] (m8 [0,1]) (jw (bw 6)) j5 (gn (fun l=>some (.tup l)) (ak (bw 0) (ak (bw 1) (ak (mOp ju (mOp iw (bw 2) (aq (.int 2))) (aq (.int 1))) dw))))) ⟨sE o0 o1 o2 N W (some (X,false)) (some (.lst [],false)),sto⟩
      = some (.next,⟨sE o0 o1 o2 N W (some (X,false)) (some (.lst [],false)),sto⟩):=by
  have lm:W.length<lim:=by show _<1000000; omega
  have co:qz 2 [5] (m8 [0,1]) (jw (bw 6)) j5 (gn (fun l=>some (.tup l)) (ak (bw 0) (ak (bw 1) (ak (mOp ju (mOp iw (bw 2) (aq (.int 2))) (aq (.int 1))) dw)))) ⟨sE o0 o1 o2 N W (some (X,false)) (some (.lst [],false)),sto⟩=some (.lst [],⟨sE o0 o1 o2 N W (some (X,false)) (some (.lst [],false)),sto⟩):=by
    generalize hF:qz 2 _ _ _ _ _ _=q
    exact zp hF bdT bdT [] ⟨sE o0 o1 o2 N W (some (X,false)) (some (.lst [],false)),sto⟩ _ [some (X,false)] (by simp [iy,jd,sIf,jk,sNew,jl,jt,sNx,fu,sGo,cj,mz,dg,dj,j9,fj,oh,kj,mOr,iz,mIf,mOp,mUn,bw,gn,ak,dw,aq,jc,dz,cg,hName,m8,gk,jw,ltT,leT,m9,ju,qb,jy,j8,ni,pq,j6,j5,bh,n6,lim]) rfl rfl rfl (by simp) (fun r hr=>by cases hr)
  simp only [dj,co]
  simp [j6,j9,lm,cg]
theorem O1 {o0 o1 o2:Slot} {L p r:T} {d:Nat} {W:List (T × T × Nat)} (hd:d≤90) (h:gj [N,L,p] sto=some (r,sto)) :
    (sIf (fj (mOp leT (mOp iw (bw 5) (aq (.int 2))) (aq (.int 90)))) (jk 6 (dz gj (ak (bw 3) (ak (mOp iw (bw 5) (aq (.int 0))) (ak (mOp iw (bw 5) (aq (.int 1))) dw))))) jt) ⟨sE o0 o1 o2 N W (some (wT (L,p,d),false)) (some (.non,false)),sto⟩=some (.next,⟨sE o0 o1 o2 N W (some (wT (L,p,d),false)) (some (r,false)),sto⟩):=by
  have h90:(d:Int)≤90:=by omega
  have i2:iw (wT (L,p,d)) (.int 2)=some (.int (d:Int)):=rfl
  have i0:iw (wT (L,p,d)) (.int 0)=some L:=rfl
  have i1:iw (wT (L,p,d)) (.int 1)=some p:=rfl
  simp [iy,jd,sIf,jk,sNew,jl,jt,sNx,fu,sGo,cj,mz,dg,dj,j9,fj,oh,kj,mOr,iz,mIf,mOp,mUn,bw,gn,ak,dw,aq,jc,dz,cg,hName,m8,gk,jw,ltT,leT,m9,ju,qb,jy,j8,ni,pq,j6,j5,bh,n6,i2,h90,i0,i1,h]
theorem Uc {o0 o1 o2:Slot} {L p:T} {d:Nat} {W:List (T × T × Nat)} (hd:90<d) :
    (sIf (fj (mOp leT (mOp iw (bw 5) (aq (.int 2))) (aq (.int 90)))) (jk 6 (dz gj (ak (bw 3) (ak (mOp iw (bw 5) (aq (.int 0))) (ak (mOp iw (bw 5) (aq (.int 1))) dw))))) jt) ⟨sE o0 o1 o2 N W (some (wT (L,p,d),false)) (some (.non,false)),sto⟩=some (.next,⟨sE o0 o1 o2 N W (some (wT (L,p,d),false)) (some (.non,false)),sto⟩):=by
  have h90:¬ (d:Int)≤90:=by omega
  have i2:iw (wT (L,p,d)) (.int 2)=some (.int (d:Int)):=rfl
  simp [iy,jd,sIf,jk,sNew,jl,jt,sNx,fu,sGo,cj,mz,dg,dj,j9,fj,oh,kj,mOr,iz,mIf,mOp,mUn,bw,gn,ak,dw,aq,jc,dz,cg,hName,m8,gk,jw,ltT,leT,m9,ju,qb,jy,j8,ni,pq,j6,j5,bh,n6,i2,h90]
theorem Vi {l:List T}:a2x (.lst l) .non=some (.bl false):=rfl
theorem a0x:a2x .non .non=some (.bl true):=rfl
theorem loop {o0 o1 o2:Slot}:∀ (fuel:Nat) (W:List (T × T × Nat)) (b:Bool) (n:Nat) (o5 o6:Slot),WJ sto N W b n→n<fuel→n<50000 →
    ∃ fl s',wg fuel lC lB ⟨sE o0 o1 o2 N W o5 o6,sto⟩=some (fl,s')∧s'.sto=sto∧(b=true→fl=.next)∧(b=false→fl=.ret (.bl false))
  | 0,W,b,n,o5,o6,_,h,_=>by omega
  | fuel+1,W,b,n,o5,o6,hW,hf,hn=>by
    have lw:=a7k hW
    cases hW with
    | nil =>
      refine ⟨.next,_,Sw (s1:=⟨sE o0 o1 o2 N [] o5 o6,sto⟩) (by simp [iy,jd,sIf,jk,sNew,jl,jt,sNx,fu,sGo,cj,mz,dg,dj,j9,fj,oh,kj,mOr,iz,mIf,mOp,mUn,bw,gn,ak,dw,aq,jc,dz,cg,hName,m8,gk,jw,ltT,leT,m9,ju,qb,jy,j8,ni,pq,j6,j5,bh,n6,Aj,gtT]),rfl,fun _=>rfl,fun h=>by cases h⟩
    | @cons L p d W b1 b2 n1 n2 hj hr =>
      have c1:lC ⟨sE o0 o1 o2 N ((L,p,d)::W) o5 o6,sto⟩=some (true,⟨sE o0 o1 o2 N ((L,p,d)::W) o5 o6,sto⟩):=by
        simp [iy,jd,sIf,jk,sNew,jl,jt,sNx,fu,sGo,cj,mz,dg,dj,j9,fj,oh,kj,mOr,iz,mIf,mOp,mUn,bw,gn,ak,dw,aq,jc,dz,cg,hName,m8,gk,jw,ltT,leT,m9,ju,qb,jy,j8,ni,pq,j6,j5,bh,n6,Aj,gtT]
        try omega
      have s0:(jk 6 (aq .non)) ⟨sE o0 o1 o2 N W (some (wT (L,p,d),false)) o6,sto⟩=some (.next,⟨sE o0 o1 o2 N W (some (wT (L,p,d),false)) (some (.non,false)),sto⟩):=rfl
      have bad:∀ {x:Slot},(sIf (fj (mOp leT (mOp iw (bw 5) (aq (.int 2))) (aq (.int 90)))) (jk 6 (dz gj (ak (bw 3) (ak (mOp iw (bw 5) (aq (.int 0))) (ak (mOp iw (bw 5) (aq (.int 1))) dw))))) jt) ⟨sE o0 o1 o2 N W (some (wT (L,p,d),false)) (some (.non,false)),sto⟩=some (.next,⟨sE o0 o1 o2 N W (some (wT (L,p,d),false)) (some (.non,false)),sto⟩)→lB ⟨sE o0 o1 o2 N ((L,p,d)::W) o5 o6,sto⟩=some (.ret (.bl false),⟨sE o0 o1 o2 N W (some (wT (L,p,d),false)) (some (.non,false)),sto⟩):=fun {x} h=>by
        unfold lB
        rw [j4 pop_at,j4 s0,j4 h]
        rw [Wz (s':=⟨sE o0 o1 o2 N W (some (wT (L,p,d),false)) (some (.non,false)),sto⟩) (v:=.bl false) (by simp [iy,jd,sIf,jk,sNew,jl,jt,sNx,fu,sGo,cj,mz,dg,dj,j9,fj,oh,kj,mOr,iz,mIf,mOp,mUn,bw,gn,ak,dw,aq,jc,dz,cg,hName,m8,gk,jw,ltT,leT,m9,ju,qb,jy,j8,ni,pq,j6,j5,bh,n6,a0x])]
      cases hj with
      | deep hd =>
        exact ⟨_,_,Gz c1 (bad (x:=none) (Uc hd)),rfl,(fun h=>by cases h),fun _=>rfl⟩
      | none hp =>
        by_cases hd:d≤90
        · exact ⟨_,_,Gz c1 (bad (x:=none) (O1 hd hp)),rfl,(fun h=>by cases h),fun _=>rfl⟩
        · exact ⟨_,_,Gz c1 (bad (x:=none) (Uc (by omega))),rfl,(fun h=>by cases h),fun _=>rfl⟩
      | leaf hd hp =>
        obtain ⟨fl,s',e,h1,h2,h3⟩:=loop (o0:=o0) (o1:=o1) (o2:=o2) fuel W b2 n2 (some (wT (L,p,d),false)) (some (.lst [],false)) hr (by omega) (by omega)
        refine ⟨fl,s',?_,h1,h2,h3⟩
        rw [Bf c1 (s2:=⟨sE o0 o1 o2 N W (some (wT (L,p,d),false)) (some (.lst [],false)),sto⟩) ?_,e]
        unfold lB
        simp only [List.length_cons] at lw
        rw [j4 pop_at,j4 s0,j4 (O1 hd hp)]
        rw [j4 (s':=⟨sE o0 o1 o2 N W (some (wT (L,p,d),false)) (some (.lst [],false)),sto⟩) (by simp [iy,jd,sIf,jk,sNew,jl,jt,sNx,fu,sGo,cj,mz,dg,dj,j9,fj,oh,kj,mOr,iz,mIf,mOp,mUn,bw,gn,ak,dw,aq,jc,dz,cg,hName,m8,gk,jw,ltT,leT,m9,ju,qb,jy,j8,ni,pq,j6,j5,bh,n6,Vi]),ext_nil (by omega)]
      | @two _ _ L1 p1 L2 p2 _ c1' c2' m1 m2 hd hp j1 j2 =>
        obtain ⟨fl,s',e,h1,h2,h3⟩:=loop (o0:=o0) (o1:=o1) (o2:=o2) fuel ((L2,p2,d+1)::(L1,p1,d+1)::W) (c2'&&(c1'&&b2)) (m2+(m1+n2)) (some (wT (L,p,d),false)) (some (.lst [.tup [L1,p1],.tup [L2,p2]],false)) (.cons j2 (.cons j1 hr)) (by omega) (by omega)
        have eb:(c2'&&(c1'&&b2))=(c1'&&c2'&&b2):=by cases c1' <;> cases c2' <;> rfl
        rw [eb] at h2 h3
        refine ⟨fl,s',?_,h1,h2,h3⟩
        rw [Bf c1 (s2:=⟨sE o0 o1 o2 N ((L2,p2,d+1)::(L1,p1,d+1)::W) (some (wT (L,p,d),false)) (some (.lst [.tup [L1,p1],.tup [L2,p2]],false)),sto⟩) ?_,e]
        unfold lB
        simp only [List.length_cons] at lw
        rw [j4 pop_at,j4 s0,j4 (O1 hd hp)]
        rw [j4 (s':=⟨sE o0 o1 o2 N W (some (wT (L,p,d),false)) (some (.lst [.tup [L1,p1],.tup [L2,p2]],false)),sto⟩) (by simp [iy,jd,sIf,jk,sNew,jl,jt,sNx,fu,sGo,cj,mz,dg,dj,j9,fj,oh,kj,mOr,iz,mIf,mOp,mUn,bw,gn,ak,dw,aq,jc,dz,cg,hName,m8,gk,jw,ltT,leT,m9,ju,qb,jy,j8,ni,pq,j6,j5,bh,n6,Vi]),a5k (X:=.non) (by omega)]
end
end K
end
noncomputable section
set_option linter.all false
set_option maxRecDepth 100000
set_option autoImplicit false
namespace K
open C PySem
noncomputable section
variable {sto:List SO} {bs:List Bd}
theorem V1 {f:List Fm} {Q:T} {b:Bool} {n:Nat} (hf:Xi f) (hz:Fl f<1000) (h3:bs.length≤100)
    (j:J sto (.lst ((bs.map (·.1)).map T.str)) (.tup [.lst ((bounds bs).map atT++Ib f),.lst ([]++Ie f)]) Q 1 b n) (hn:n<1000) :
    jh [.lst (bs.map bdT),.lst (f.map fmT),Q] sto=some (.bl b,sto):=by
  have l1:bs.length<lim:=by show _<1000000; omega
  have fl:=Ni (sto:=sto) h3
  have bl:=Ae bs
  have li:=Hi (sto:=sto) (A:=(bounds bs).map atT) (O:=[]) hz hf (by rw [List.length_map]; omega) (by simp)
  have co:qz 3 [] (m8 [0,1,2]) (jw (bw 0)) j5 (bw 0) ⟨[some (.lst (bs.map bdT),false),some (.lst (f.map fmT),false),some (Q,false),none,none,none,none],sto⟩=some (.lst ((bs.map (·.1)).map T.str),⟨[some (.lst (bs.map bdT),false),some (.lst (f.map fmT),false),some (Q,false),none,none,none,none],sto⟩):=by
    rw [List.map_map]
    generalize hF:qz 3 _ _ _ _ _ _=q
    exact zp hF bdT (fun r=>T.str r.1) bs ⟨[some (.lst (bs.map bdT),false),some (.lst (f.map fmT),false),some (Q,false),none,none,none,none],sto⟩ [some (.lst (bs.map bdT),false),some (.lst (f.map fmT),false),some (Q,false),none,none,none,none] [] (by first | exact rfl | simp [iy,jd,sIf,jk,sNew,jl,jt,sNx,fu,sGo,cj,mz,dg,dj,j9,fj,oh,kj,mOr,iz,mIf,mOp,mUn,bw,gn,ak,dw,aq,jc,dz,cg,hName,m8,gk,jw,ltT,leT,m9,ju,qb,jy,j8,ni,pq,j6,j5,bh,n6,l1]) rfl rfl rfl (Nat.le_of_lt l1) (fun r hr pre hp=>by
      match pre,hp with
      | [p0,p1,p2],_=>exact ⟨[some (.str r.1,false),some (.int r.2.1,false),some (.int r.2.2,false)],rfl,by rw [bdT,a4y]; rfl,rfl,by first | exact rfl | simp [iy,jd,sIf,jk,sNew,jl,jt,sNx,fu,sGo,cj,mz,dg,dj,j9,fj,oh,kj,mOr,iz,mIf,mOp,mUn,bw,gn,ak,dw,aq,jc,dz,cg,hName,m8,gk,jw,ltT,leT,m9,ju,qb,jy,j8,ni,pq,j6,j5,bh,n6]⟩)
  obtain ⟨fl',s',e,h1,h2,h3'⟩:=loop (sto:=sto) (N:=.lst ((bs.map (·.1)).map T.str)) (o0:=some (.lst (bs.map bdT),false)) (o1:=some (.lst (f.map fmT),false)) (o2:=some (Q,false)) 1000 [(.tup [.lst ((bounds bs).map atT++Ib f),.lst ([]++Ie f)],Q,1)] (b&&true) (n+0) none none (.cons j .nil) (by omega) (by omega)
  unfold jh iy
  rw [show ([T.lst (bs.map bdT),.lst (f.map fmT),Q].map (fun t=>some (t,false))++List.replicate (7 - [T.lst (bs.map bdT),.lst (f.map fmT),Q].length) none:List Slot)=[some (.lst (bs.map bdT),false),some (.lst (f.map fmT),false),some (Q,false),none,none,none,none] from rfl]
  rw [j4 (s':=⟨[some (.lst (bs.map bdT),false),some (.lst (f.map fmT),false),some (Q,false),some (.lst ((bs.map (·.1)).map T.str),false),none,none,none],sto⟩) (by unfold jk; rw [co]; rfl)]
  rw [j4 (s':=⟨sE (some (.lst (bs.map bdT),false)) (some (.lst (f.map fmT),false)) (some (Q,false)) (.lst ((bs.map (·.1)).map T.str)) [(.tup [.lst ((bounds bs).map atT++Ib f),.lst ([]++Ie f)],Q,1)] none none,sto⟩) (by
    generalize T.lst ((bs.map (·.1)).map T.str)=NN'
    simp [iy,jd,sIf,jk,sNew,jl,jt,sNx,fu,sGo,cj,mz,dg,dj,j9,fj,oh,kj,mOr,iz,mIf,mOp,mUn,bw,gn,ak,dw,aq,jc,dz,cg,hName,m8,gk,jw,ltT,leT,m9,ju,qb,jy,j8,ni,pq,j6,j5,bh,n6,fl,li,wT])]
  cases b with
  | true =>
    have z:=h2 rfl
    subst z
    rw [j4 e]
    show some (T.bl true,s'.sto)=_
    rw [h1]
  | false =>
    have z:=h3' rfl
    subst z
    rw [Wz e]
    show some (T.bl false,s'.sto)=_
    rw [h1]
structure OkB (bs:List Bd) (lo hi:Int):Prop where
  hd:∃ bs':List Bd,bs=((("x" : Str),lo,hi):Bd)::bs'
  in':∀ r∈bs,r.1∈U4
  len:bs.length≤3
  one:(bs.map (·.1)).filter (fun x=>x==("x" : Str))=(["x"]:List Str)
theorem nd4:U4.Nodup:=by decide +kernel
variable {lo hi:Int}
theorem OkB.okS (h:OkB bs lo hi):∀ x∈bs.map (·.1),okS x:=fun x hx=>by
  obtain ⟨r,hr,rfl⟩:=List.mem_map.mp hx
  exact a7d.ok _ (h.in' r hr)
noncomputable def As (bs:List Bd) (f:At) (E:List At):List At:=bounds bs++(f::E)
theorem okM {s:Sm} (h:X7 U4 s):Mi U4 ⟨"most",s,[]⟩:=⟨Gn,h⟩
theorem Zx {b:Str} {n m:Int} (h:b∈U4):X7 U4 (n,[(b,m)]):=⟨by simp [ks],fun x hx=>by simp [ks] at hx; rw [hx]; exact h⟩
theorem a3s {n:Int}:X7 U4 (n,[]):=⟨by simp [ks],fun x hx=>by simp [ks] at hx⟩
theorem xU:("x" : Str)∈U4:=by decide
theorem Ig {n:Int}:Mi U4 (aL "x" n):=okM (Zx xU)
theorem Km {n:Int}:Mi U4 (aM "x" n):=okM (Zx xU)
theorem Ut {f:At} {E:List At} (h:OkB bs lo hi) (hf:Mi U4 f) (hE:∀ a∈E,Mi U4 a):∀ a∈As bs f E,Mi U4 a:=fun a ha=>by
  unfold As at ha
  rcases List.mem_append.mp ha with z | z
  · exact Wi h.in' a z
  · rcases List.mem_cons.mp z with rfl | z
    · exact hf
    · exact hE a z
theorem at0 {f:At} {E:List At} (h:OkB bs lo hi):(As bs f E)[0]? = some (aL "x" lo)∧(As bs f E)[1]? = some (aM "x" hi)∧(As bs f E)[2 * bs.length]? = some f:=by
  have hb:=Ae bs
  obtain ⟨bs',e⟩:=h.hd
  refine ⟨by rw [e]; rfl,by rw [e]; rfl,?_⟩
  unfold As
  rw [← hb,List.getElem?_append_right (Nat.le_refl _),Nat.sub_self]
  rfl
theorem Gj {A:List At} {n t:Int} {k:Nat} {s:Sm} {r:List T} (hn:n=(k:Int)) (ht:0<t) (h:A[k]? = some ⟨"most",s,r⟩):look A [n,t]=some (s,t):=by
  subst hn
  have c:(0:Int)≤(k:Int)∧0<t:=⟨by omega,ht⟩
  have e:(("most" : Str)==("most" : Str))=true:=by decide +kernel
  simp only [look,if_pos c,Int.toNat_natCast,h,e,if_true]
theorem Hj {A:List At} {rows:List (List Int)} {l:List Int} (hl:l∈rows) (h:look A l=none):Az U4 A rows=false:=by
  have:rows.all (fun l=>(look A l).isSome)=false:=by
    rw [List.all_eq_false]
    exact ⟨l,hl,by rw [h]; decide⟩
  unfold Az
  rw [this]; rfl
theorem sum_nil {A:List At}:Az U4 A []=false:=by
  unfold Az fin cN
  simp
theorem Um {A:List At} {rows:List (List Int)} (h:cF (rows.filterMap (look A)) "x" ≠ 0):Az U4 A rows=false:=by
  unfold Az fin
  have:(canon U4 (cF (rows.filterMap (look A)))).isEmpty=false:=by
    unfold canon
    rw [List.isEmpty_eq_false_iff]
    intro e
    have hx:(((("x" : Str),cF (rows.filterMap (look A)) "x"):Pr))∈(U4.filter fun b=>cF (rows.filterMap (look A)) b != 0).map fun b=>(b,cF (rows.filterMap (look A)) b):=List.mem_map.mpr ⟨("x" : Str),List.mem_filter.mpr ⟨xU,by simpa using h⟩,rfl⟩
    rw [e] at hx
    cases hx
  dsimp only
  rw [this]; simp
end
end K
end
noncomputable section
set_option linter.all false
set_option maxRecDepth 100000
set_option autoImplicit false
namespace K
open C PySem
noncomputable def aZ:At:=⟨"most",(0,[]),[]⟩
noncomputable def fO:Fm:=.any [fmT (.all []),fmT (fA aZ)]
noncomputable def or0:T:=.tup [fmT (.all []),fmT (fA aZ)]
noncomputable abbrev nT (bs:List Bd):T:=.lst ((bs.map (·.1)).map T.str)
noncomputable def Lx (bs:List Bd) (hi:Int) (E:List At):T:=.tup [.lst ((As bs (aL "x" (hi+1)) E).map atT),.lst [or0]]
noncomputable def rws (n:Int):T:=.tup [rwT [.i 1,.i 1],rwT [.i n,.i 1]]
noncomputable def gd (n:Int):T:=.tup [.str "sum",rws n]
noncomputable def Td (k:Int) (p q:T):T:=.tup [.str "cut",.str "x",.int k,p,q]
noncomputable def orP (p q:T):T:=.tup [.str "or",.int 0,.tup [p,q]]
noncomputable section
variable {sto:List SO} {bs:List Bd} {lo hi:Int} {E:List At}
noncomputable abbrev okE (E:List At):Prop:=(∀ a∈E,Mi U4 a)∧E.length<500
theorem okE.add {a:At} (h:okE E) (ha:Mi U4 a) (hl:E.length<400):okE (E++[a]):=⟨fun x hx=>by
  rcases List.mem_append.mp hx with z | z
  · exact h.1 x z
  · rw [List.mem_singleton] at z; rw [z]; exact ha,by rw [List.length_append,List.length_singleton]; omega⟩
theorem Zu (h:OkB bs lo hi) (f:At):(As bs f E).length≤E.length+7:=by
  have:=Ae bs
  have:=h.len
  unfold As
  rw [List.length_append,List.length_cons]
  omega
theorem Vw {f a:At}:(As bs f (E++[a])).map atT=(As bs f E).map atT++[atT a]:=by
  unfold As
  simp
theorem Ln {p q:T} {k:Int} {d:Nat} {b1 b2:Bool} {n1 n2:Nat} (h:OkB bs lo hi) (hl:E.length<400) (hd:d≤90) (j1:J sto (nT bs) (Lx bs hi (E++[aM "x" k])) p (d+1) b1 n1) (j2:J sto (nT bs) (Lx bs hi (E++[aL "x" (k+1)])) q (d+1) b2 n2) :
    J sto (nT bs) (Lx bs hi E) (Td k p q) d (b1&&b2) (n1+n2+1):=by
  have c:=a3l (sto:=sto) (ns:=bs.map (·.1)) (A:=(As bs (aL "x" (hi+1)) E).map atT) (O:=[or0]) (k:=k) (p:=p) (q:=q) (by rw [List.length_map]; have:=h.len; omega) h.okS h.one (by rw [List.length_map]; have:=Zu (E:=E) h (aL "x" (hi+1)); omega) (by simp)
  rw [← Vw,← Vw] at c
  exact .two hd (pw_cut c) j1 j2
theorem Yj:Mi U4 aZ:=okM a3s
theorem a7h {p q:T} {d:Nat} {b1 b2:Bool} {n1 n2:Nat} (h:OkB bs lo hi) (hl:E.length<400) (hd:d≤90) (j1:J sto (nT bs) (Lx bs hi E) p (d+1) b1 n1) (j2:J sto (nT bs) (Lx bs hi (E++[aZ])) q (d+1) b2 n2) :
    J sto (nT bs) (Lx bs hi E) (orP p q) d (b1&&b2) (n1+n2+1):=by
  have c:=Zo (sto:=sto) (A:=(As bs (aL "x" (hi+1)) E).map atT) (O:=[or0]) (f1:=.all []) (f2:=fA aZ) (p:=p) (q:=q) (by rw [List.length_map]; have:=Zu (E:=E) h (aL "x" (hi+1)); omega) rfl trivial Cw (by simp [fsz,Fl]) (by simp [fA,fsz])
  have e1:flA (.all [])=[]:=rfl
  have e2:flO (.all [])=[]:=rfl
  have e3:flA (fA aZ)=[atT aZ]:=rfl
  have e4:flO (fA aZ)=[]:=rfl
  rw [e1,e2,e3,e4,List.append_nil,List.append_nil,← Vw] at c
  exact .two hd (pw_or c) j1 j2
noncomputable def tag (r:Rw):T × List Int:=(rwT r,pr r)
theorem Qc {r:Rw} (h:r.length≤100):PR (tag r):=a6m h
noncomputable abbrev N2 (bs:List Bd):Int:=2 * (bs.length:Int)
theorem a7q (h:OkB bs lo hi):Av (N2 bs)=true:=by
  have:=h.len
  unfold Av
  rw [decide_eq_true_eq]
  have:(2:Int) ^ 64=18446744073709551616:=by decide
  unfold N2
  omega
theorem b1:Av 1=true:=by decide
theorem b2:Av 2=true:=by decide
theorem a69 {xs:List (T × List Int)} {P:T} {d:Nat} {b:Bool} (h:OkB bs lo hi) (hE:okE E) (hP:leaf xs P) (hb:∀ x∈xs,∀ n∈x.2,Av n=true) (hl:xs.length≤100) (h2:∀ x∈xs,PR x) (hs:Az U4 (As bs (aL "x" (hi+1)) E) (xs.map (·.2))=b) :
    J sto (nT bs) (Lx bs hi E) (.tup [.str "sum",P]) d (b&&decide (d≤90)) 1:=by
  have pw:=pw_sum (sto:=sto) (N:=nT bs) (O:=.lst [or0]) (A:=As bs (aL "x" (hi+1)) E) a7d nd4 (Ut h Ig hE.1) hP hb hl h2
  rw [hs] at pw
  cases b with
  | false=>exact .none pw
  | true =>
    by_cases hd:d≤90
    · rw [decide_eq_true hd]; exact .leaf hd pw
    · rw [decide_eq_false hd]; exact .deep (by omega)
theorem lk1 {t:Int} (h:OkB bs lo hi) (ht:0<t):look (As bs (aL "x" (hi+1)) E) [1,t]=some (((-hi,[(("x" : Str),1)]):Sm),t):=Gj (k:=1) rfl ht (at0 h).2.1
theorem lkN {t:Int} (h:OkB bs lo hi) (ht:0<t):look (As bs (aL "x" (hi+1)) E) [N2 bs,t]=some (((hi+1,[(("x" : Str),-1)]):Sm),t):=Gj (k:=2 * bs.length) (by unfold N2; omega) ht (at0 h).2.2
theorem gx {v:Int}:gt [(("x" : Str),v)] "x" = v:=by simp [gt]
theorem Qg (h:OkB bs lo hi):Az U4 (As bs (aL "x" (hi+1)) E) [[1,1],[N2 bs,1]]=true:=by
  have e:([[1,1],[N2 bs,1]]:List (List Int)).filterMap (look (As bs (aL "x" (hi+1)) E))=([((-hi,[("x",1)]),1),((hi+1,[("x",-1)]),1)]:List (Sm × Int)):=by
    simp only [List.filterMap_cons,lk1 h (by decide:(0:Int)<1),lkN h (by decide:(0:Int)<1),List.filterMap_nil]
  unfold Az
  rw [e]
  have a:([[1,1],[N2 bs,1]]:List (List Int)).all (fun l=>(look (As bs (aL "x" (hi+1)) E) l).isSome)=true:=by
    simp only [List.all_cons,List.all_nil,lk1 h (by decide:(0:Int)<1),lkN h (by decide:(0:Int)<1)]
    rfl
  rw [a]
  have c:canon U4 (cF ([((-hi,[("x",1)]),1),((hi+1,[("x",-1)]),1)]:List (Sm × Int)))=[]:=by
    rw [Ho (g:=fun _=>0) fun b _=>by
      simp only [cF,List.map_cons,List.map_nil,List.sum_cons,List.sum_nil,gt]
      by_cases hb:Str.ofString "x" = b <;> simp [hb]]
    simp [canon]
  rw [c]
  simp only [fin,cN,List.map_cons,List.map_nil,List.sum_cons,List.sum_nil,List.isEmpty_nil,Bool.true_and,decide_eq_true_eq]
  omega
theorem Fe {d:Nat} (h:OkB bs lo hi) (hE:okE E):J sto (nT bs) (Lx bs hi E) (gd (N2 bs)) d (decide (d≤90)) 1:=by
  have:=a69 (sto:=sto) (d:=d) (xs:=[tag [.i 1,.i 1],tag [.i (N2 bs),.i 1]]) (P:=rws (N2 bs)) h hE (.inl rfl) (fun x hx n hn=>by
    simp only [List.mem_cons,List.not_mem_nil,or_false] at hx -- here
    rcases hx with rfl | rfl
    · have:n∈([1,1]:List Int):=hn
      simp only [List.mem_cons,List.not_mem_nil,or_false] at this
      rcases this with rfl | rfl <;> exact b1
    · have:n∈([N2 bs,1]:List Int):=hn
      simp only [List.mem_cons,List.not_mem_nil,or_false] at this
      rcases this with rfl | rfl
      · exact a7q h
      · exact b1) (by simp) (fun x hx=>by
    simp only [List.mem_cons,List.not_mem_nil,or_false] at hx -- here
    rcases hx with rfl | rfl <;> exact Qc (by simp)) (Qg h)
  rw [Bool.true_and] at this
  exact this
noncomputable def dp (n:Int):Nat→T
  | 0=>gd n
  | k+1=>if k%3=0 then Td (k:Int) (dp n k) (gd n) else if k%3=1 then Td (-(k:Int)) (gd n) (dp n k) else orP (gd n) (dp n k)
theorem Qp (h:OkB bs lo hi):∀ (c:Nat) (E:List At) (d:Nat),okE E→E.length+c<390→∃ n,n≤2 * c+1∧J sto (nT bs) (Lx bs hi E) (dp (N2 bs) c) d (decide (d+c≤90)) n
  | 0,E,d,hE,_=>⟨1,by omega,Fe h hE⟩
  | c+1,E,d,hE,hl=>by
    by_cases hd:d≤90
    · have e:∀ x y:Bool,x=decide (d+1≤90)→y=decide (d+1+c≤90)→(x&&y)=decide (d+(c+1)≤90)∧(y&&x)=decide (d+(c+1)≤90):=fun x y hx hy=>by
        subst hx hy
        by_cases h1:d+(c+1)≤90
        · rw [decide_eq_true h1,decide_eq_true (show d+1≤90 by omega),decide_eq_true (show d+1+c≤90 by omega)]; decide
        · rw [decide_eq_false h1,decide_eq_false (show ¬ d+1+c≤90 by omega)]; simp
      obtain ⟨e1,e2⟩:=e _ _ rfl rfl
      unfold dp
      split
      · obtain ⟨n,hn,j⟩:=Qp h c (E++[aM "x" (c:Int)]) (d+1) (hE.add Km (by omega)) (by rw [List.length_append,List.length_singleton]; omega)
        refine ⟨n+1+1,by omega,?_⟩
        rw [← e2]
        exact Ln h (by omega) hd j (Fe h (hE.add Ig (by omega)))
      · split
        · obtain ⟨n,hn,j⟩:=Qp h c (E++[aL "x" (-(c:Int)+1)]) (d+1) (hE.add Ig (by omega)) (by rw [List.length_append,List.length_singleton]; omega)
          refine ⟨1+n+1,by omega,?_⟩
          rw [← e1]
          exact Ln h (by omega) hd (Fe h (hE.add Km (by omega))) j
        · obtain ⟨n,hn,j⟩:=Qp h c (E++[aZ]) (d+1) (hE.add Yj (by omega)) (by rw [List.length_append,List.length_singleton]; omega)
          refine ⟨1+n+1,by omega,?_⟩
          rw [← e1]
          exact a7h h (by omega) hd (Fe h hE) j
    · refine ⟨1,by omega,?_⟩
      rw [decide_eq_false (by omega)] -- here
      exact .deep (by omega)
end
end K
end
noncomputable section
set_option linter.all false
set_option maxRecDepth 100000
set_option autoImplicit false
namespace K
open C PySem
noncomputable def Sv (n:Int):List T:=[.non,.bl true,.int 0,.str "sum",.lst [],.tup [],.tup [.str "sum"],.lst [.str "sum",rws n],.tup [.str "sum",.lst [rwT [.i 1,.i 1],rwT [.i n,.i 1]]],.tup [.str "sum",rws n,.tup []]]
noncomputable def Tn (n:Int):List T:=[.tup [.str "sums",rws n],.tup [.str "rest",rws n],.tup [.str "rest",.int 2,rws n],.tup [rws n,.str "sum"],.tup [.str "sum",.tup []],.tup [.str "sum",.tup [rws n]]]
noncomputable def Uh (n:Int):List T:=[.tup [.str "sum",.tup [rwT [.i 1,.i 1]]],.tup [.str "sum",.tup [rwT [.i n,.i 1]]],.tup [.str "sum",.tup [rwT [.i 1,.i 1],rwT [.i n,.i 2]]]]
noncomputable def X5 (n:Int):List T:=[.tup [.str "sum",.tup [rwT [.i n,.i 1],rwT [.i 1,.i 1],.int 0]],.tup [.str "sum",.tup [rwT [.i 1,.i 1],rwT [.i n,.b true]]],.tup [.str "sum",.tup [rwT [.i 1,.i 1],rwT [.i n,.s "1"]]]]
noncomputable def Xu (n:Int):List T:=[.tup [.str "sum",.tup [rwT [.i 1,.i 1],.lst [.int n,.int 1]]],.tup [.str "sum",.dic [(.inl 0,.int 1)]],.tup [.str "or",.int 0,.tup []],.tup [.str "or",.int 0,.tup [gd n]],.tup [.str "or",.int n,.tup [gd n]]]
noncomputable def Ze (n:Int):List T:=[.tup [.str "or",.int (-1),.tup [gd n,gd n]],.tup [.str "or",.bl true,.tup [gd n,gd n]],.tup [.str "cut",.str "x",.int 0,gd n]]
noncomputable def a2g (n:Int):List T:=[Td 0 (gd n) .non,.tup [.str "cut",.str "q",.int 0,gd n,gd n],.tup [.str "cut",.int 0,.int 0,gd n,gd n]]
noncomputable def a2u (n:Int):List T:=[.tup [.str "cut",.str "x",.bl true,gd n,gd n],.tup [.str "cut",.str "x",.str "0",gd n,gd n],.tup [.str "cut",.tup [.str "x"],.int 0,gd n,gd n]]
noncomputable def a4a (n:Int):List T:=[Td 0 (.lst [gd n]) (gd n),.tup [.str "cuts",.str "x",.int 0,gd n,gd n],.tup [.str "or",.int 9,.tup [gd n,gd n]]]
noncomputable def a6e (n:Int):List T:=[.tup [.str "cut",.non,.int 0,gd n,gd n],.tup [.str "or",.bl false,.tup [gd n,gd n]],.tup [.str "or",.int 0,.tup [gd n,gd n,gd n]]]
noncomputable def a6k (n:Int):List T:=[.tup [.str "or",.int 0,.lst [gd n,gd n]],.tup [.str "or",.int 0,.tup [gd n,gd n],.tup []],.tup [.str "cut",.str "x",.int 0,gd n,gd n,gd n]]
noncomputable def bad (n:Int):List T:=Sv n++Tn n++Uh n++X5 n++Xu n++Ze n++a2g n++a2u n++a4a n++a6e n++a6k n
noncomputable section
variable {sto:List SO} {bs:List Bd} {lo hi:Int} {E:List At}
theorem Ht {i:Nat} {m:M T} {s s1 s2:Sta} {t:T} (h:m s=some (t,s1)) (e:cg i t false s1=s2):jk i m s=some (.next,s2):=by unfold jk; rw [h,← e]
theorem yj {f:T→T→Option T} {a b:M T} {s s1 s2:Sta} {x y z:T} (h1:a s=some (x,s1)) (h2:b s1=some (y,s2)) (h3:f x y=some z):mOp f a b s=some (z,s2):=by
  unfold mOp; rw [h1]; dsimp only; rw [h2]; dsimp only; rw [h3]
theorem Zr {n c:Int}:∃ p∈bad n,sy [gd n,.int n,.int c] sto=some (p,sto):=by
  have h0:=Int.emod_nonneg c (b:=45) (by decide)
  have h1:=Int.emod_lt_of_pos c (b:=45) (by decide)
  have hl:(bad n).length=45:=rfl
  have hk:(c%45).toNat<(bad n).length:=by omega
  have e:=Ju (xs:=bad n) (k:=(c%45).toNat) (t:=(bad n)[(c%45).toNat]) (List.getElem?_eq_getElem hk)
  rw [Int.toNat_of_nonneg h0] at e -- here
  refine ⟨_,List.getElem_mem hk,?_⟩
  let S (l:List T):Sta:=⟨[some (gd n,false),some (.int n,false),some (.int c,false),some (rws n,false),some (.lst l,false)],sto⟩
  unfold sy iy
  rw [show ([gd n,.int n,.int c].map (fun t=>some (t,false))++List.replicate (5 - [gd n,.int n,.int c].length) none:List Slot)=[some (gd n,false),some (.int n,false),some (.int c,false),none,none] from rfl]
  rw [j4 (s':=⟨[some (gd n,false),some (.int n,false),some (.int c,false),some (rws n,false),none],sto⟩) rfl]
  rw [j4 (s':=S (Sv n)) rfl]
  rw [j4 (s':=S (Sv n++Tn n)) rfl]
  rw [j4 (s':=S (Sv n++Tn n++Uh n)) rfl]
  rw [j4 (s':=S (Sv n++Tn n++Uh n++X5 n)) rfl]
  rw [j4 (s':=S (Sv n++Tn n++Uh n++X5 n++Xu n)) rfl]
  rw [j4 (s':=S (Sv n++Tn n++Uh n++X5 n++Xu n++Ze n)) rfl]
  rw [j4 (s':=S (Sv n++Tn n++Uh n++X5 n++Xu n++Ze n++a2g n)) rfl]
  rw [j4 (s':=S (Sv n++Tn n++Uh n++X5 n++Xu n++Ze n++a2g n++a2u n)) rfl]
  rw [j4 (s':=S (Sv n++Tn n++Uh n++X5 n++Xu n++Ze n++a2g n++a2u n++a4a n)) rfl]
  rw [j4 (s':=S (Sv n++Tn n++Uh n++X5 n++Xu n++Ze n++a2g n++a2u n++a4a n++a6e n)) rfl]
  rw [j4 (s':=S (bad n)) rfl]
  unfold jl
  rw [yj (s1:=S (bad n)) rfl (yj (z:=.int (c%45)) rfl rfl rfl) e]
noncomputable abbrev Bad (sto:List SO) (bs:List Bd) (hi:Int) (E:List At) (d:Nat) (p:T):Prop:=∃ k,k≤3∧J sto (nT bs) (Lx bs hi E) p d false k
theorem Bad.of {d:Nat} {p:T} (h:gj [nT bs,Lx bs hi E,p] sto=some (.non,sto)):Bad sto bs hi E d p:=⟨1,by omega,.none h⟩
theorem Mj {d:Nat} {xs:List (T × List Int)} {P:T} (h:OkB bs lo hi) (hE:okE E) (hP:leaf xs P) (hb:∀ x∈xs,∀ n∈x.2,Av n=true) (hl:xs.length≤100) (h2:∀ x∈xs,PR x) (hs:Az U4 (As bs (aL "x" (hi+1)) E) (xs.map (·.2))=false):Bad sto bs hi E d (.tup [.str "sum",P]):=by
  have j:=a69 (sto:=sto) (d:=d) h hE hP hb hl h2 hs
  rw [Bool.false_and] at j
  exact ⟨1,by omega,j⟩
theorem Z8 {r:Rw} (h:∀ c∈r,okC c):∀ n∈(tag r).2,Av n=true:=fun n hn=>by
  have hn:n∈pr r:=hn
  unfold pr at hn
  split at hn
  · obtain ⟨d,hd,rfl⟩:=List.mem_map.mp hn
    have:=h d hd
    cases d with
    | i n=>exact this
    | _=>show Av 0=true; decide
  · cases hn
theorem r11:∀ c∈([.i 1,.i 1]:Rw),okC c:=fun c hc=>by
  simp only [List.mem_cons,List.not_mem_nil,or_false] at hc
  rcases hc with rfl | rfl <;> exact b1
theorem rn {t:Cl} (h:OkB bs lo hi) (ht:okC t):∀ c∈([.i (N2 bs),t]:Rw),okC c:=fun c hc=>by
  simp only [List.mem_cons,List.not_mem_nil,or_false] at hc
  rcases hc with rfl | rfl
  · exact a7q h
  · exact ht
theorem Ac {d:Nat} {xs:List (T × List Int)} (h:OkB bs lo hi) (hE:okE E) (hx:∀ x∈xs,PR x∧∀ n∈x.2,Av n=true) (hl:xs.length≤100) (hs:Az U4 (As bs (aL "x" (hi+1)) E) (xs.map (·.2))=false):Bad sto bs hi E d (.tup [.str "sum",.tup (xs.map (·.1))]) :=
  Mj h hE (.inl rfl) (fun x hx'=>(hx x hx').2) hl (fun x hx'=>(hx x hx').1) hs
theorem El {r:Rw} (h:∀ c∈r,okC c) (hl:r.length≤100):PR (tag r)∧∀ n∈(tag r).2,Av n=true:=⟨Qc hl,Z8 h⟩
theorem two {α:Type} {P:α→Prop} {a b:α} (ha:P a) (hb:P b):∀ x∈[a,b],P x:=fun x hx=>by
  simp only [List.mem_cons,List.not_mem_nil,or_false] at hx -- here
  rcases hx with rfl | rfl
  · exact ha
  · exact hb
theorem one' {α:Type} {P:α→Prop} {a:α} (ha:P a):∀ x∈[a],P x:=fun x hx=>by
  rw [List.mem_singleton] at hx; subst hx; exact ha
theorem three {α:Type} {P:α→Prop} {a b c:α} (ha:P a) (hb:P b) (hc:P c):∀ x∈[a,b,c],P x:=fun x hx=>by
  simp only [List.mem_cons,List.not_mem_nil,or_false] at hx -- here
  rcases hx with rfl | rfl | rfl
  · exact ha
  · exact hb
  · exact hc
theorem Zt {x:T} (h:PR (x,[])):PR (x,[])∧∀ n∈((x,[]):T × List Int).2,Av n=true:=⟨h,fun n hn=>by cases hn⟩
theorem Xq {n:Nat} (h:OkB bs lo hi) (hE:okE E):Aq [.lst ((As bs (aL "x" (hi+1)) E).map atT),.int 2,.lst [ilT [1,1],ilT [N2 bs,1]]] sto=some (.bl false,sto):=by
  have ia:∀ {k:Nat} {v:Int} {s:Sm},v=(k:Int)→(As bs (aL "x" (hi+1)) E)[k]? = some ⟨"most",s,[]⟩→ql [.lst ((As bs (aL "x" (hi+1)) E).map atT),.int v,.str "rest"] sto=some (.bl false,sto):=fun {k v s} hv ha=>by
    subst hv
    have hk:=(List.getElem?_eq_some_iff.mp ha).1
    have hk':(k:Int)<((As bs (aL "x" (hi+1)) E).length:Int):=by omega
    have k0:(0:Int)≤(k:Int):=by omega
    have ip:=Dt (sto:=sto) (f:=atT) (n:=(k:Int)) (l:=As bs (aL "x" (hi+1)) E)
    rw [decide_eq_true k0,decide_eq_true hk'] at ip
    have ii:=item_at (A:=As bs (aL "x" (hi+1)) E) k0 (by rw [Int.toNat_natCast]; exact ha)
    have i0:iw (atT ⟨"most",s,[]⟩) (.int 0)=some (.str "most"):=xr
    have e:eqO (.str "most") (.str "rest")=some (.bl false):=eqW (by decide +kernel)
    generalize As bs (aL "x" (hi+1)) E=AA at *
    unfold ql
    simp [iy,jd,sIf,jk,sNew,jl,jt,sNx,fu,sGo,cj,mz,dg,dj,j9,fj,oh,kj,mOr,iz,mIf,mOp,mUn,bw,gn,ak,dw,aq,jc,dz,cg,hName,m8,gk,jw,ltT,leT,m9,ju,qb,jy,j8,ni,pq,j6,j5,bh,n6,ip,ii,i0,e]
  have r1:qu [.lst ((As bs (aL "x" (hi+1)) E).map atT),.int 2,ilT [1,1]] sto=some (.bl false,sto):=by
    have:=ia (k:=1) (v:=1) rfl (at0 (E:=E) h).2.1
    unfold qu
    simp [iy,jd,sIf,jk,sNew,jl,jt,sNx,fu,sGo,cj,mz,dg,dj,j9,fj,oh,kj,mOr,iz,mIf,mOp,mUn,bw,gn,ak,dw,aq,jc,dz,cg,hName,m8,gk,jw,ltT,leT,m9,ju,qb,jy,j8,ni,pq,j6,j5,bh,n6,ilT,uy,xr,v9,this]
  have r2:qu [.lst ((As bs (aL "x" (hi+1)) E).map atT),.int 2,ilT [N2 bs,1]] sto=some (.bl false,sto):=by
    have:=ia (k:=2 * bs.length) (v:=N2 bs) (by unfold N2; omega) (at0 (E:=E) h).2.2
    generalize N2 bs=v at *
    unfold qu
    simp [iy,jd,sIf,jk,sNew,jl,jt,sNx,fu,sGo,cj,mz,dg,dj,j9,fj,oh,kj,mOr,iz,mIf,mOp,mUn,bw,gn,ak,dw,aq,jc,dz,cg,hName,m8,gk,jw,ltT,leT,m9,ju,qb,jy,j8,ni,pq,j6,j5,bh,n6,ilT,uy,xr,v9,this]
  unfold Aq
  generalize T.lst ((As bs (aL "x" (hi+1)) E).map atT)=X at *
  generalize ilT [1,1]=Y at *
  generalize ilT [N2 bs,1]=Z at *
  simp [iy,jd,sIf,jk,sNew,jl,jt,sNx,fu,sGo,cj,mz,dg,dj,j9,fj,oh,kj,mOr,iz,mIf,mOp,mUn,bw,gn,ak,dw,aq,jc,dz,cg,hName,m8,gk,jw,ltT,leT,m9,ju,qb,jy,j8,ni,pq,j6,j5,bh,n6,qz,jw,Bu,lim,bh,qj,n6,r1,r2,Sg,Fb]
end
end K
end
noncomputable section
set_option linter.all false
set_option maxRecDepth 100000
set_option autoImplicit false
namespace K
open C PySem
noncomputable section
variable {sto:List SO} {bs:List Bd} {lo hi:Int} {E:List At} {d:Nat}
theorem pw_rest (h:OkB bs lo hi) (hE:okE E):gj [nT bs,Lx bs hi E,.tup [.str "rest",.int 2,rws (N2 bs)]] sto=some (.non,sto):=by
  have k1:jf [.tup [.str "rest",.int 2,rws (N2 bs)],.str "or",.int 3] sto=some (.bl false,sto):=w6 (by simp) U0
  have k2:jf [.tup [.str "rest",.int 2,rws (N2 bs)],.str "cut",.int 5] sto=some (.bl false,sto):=kind_len (by simp)
  have k3:jf [.tup [.str "rest",.int 2,rws (N2 bs)],.str "sum",.int 2] sto=some (.bl false,sto):=kind_len (by simp)
  have k4:jf [.tup [.str "rest",.int 2,rws (N2 bs)],.str "rest",.int 3] sto=some (.bl true,sto):=w6 (by simp) Oa
  have pr':=Hw (sto:=sto) (xs:=[tag [.i 1,.i 1],tag [.i (N2 bs),.i 1]]) (by simp) (two (Qc (by simp)) (Qc (by simp)))
  have pr2:qd [rws (N2 bs)] sto=some (.lst [ilT [1,1],ilT [N2 bs,1]],sto):=pr'
  have is:=Xq (sto:=sto) (n:=0) h hE
  unfold Lx
  generalize T.lst ((As bs (aL "x" (hi+1)) E).map atT)=X at *
  generalize rws (N2 bs)=Y at *
  unfold gj
  simp [iy,jd,sIf,jk,sNew,jl,jt,sNx,fu,sGo,cj,mz,dg,dj,j9,fj,oh,kj,mOr,iz,mIf,mOp,mUn,bw,gn,ak,dw,aq,jc,dz,cg,hName,m8,gk,jw,ltT,leT,m9,ju,qb,jy,j8,ni,pq,j6,j5,bh,n6,lg,k1,k2,k3,k4,xr,v9,Qu,Hq,Tq,pr2,is]
theorem a4b (h:OkB bs lo hi) (hE:okE E):∀ p∈Sv (N2 bs),Bad sto bs hi E d p:=fun p hp=>by
  simp only [Sv,List.mem_cons,List.not_mem_nil,or_false] at hp
  rcases hp with rfl | rfl | rfl | rfl | rfl | rfl | rfl | rfl | rfl | rfl
  · exact .of (pw_other rfl)
  · exact .of (pw_other rfl)
  · exact .of (pw_other rfl)
  · exact .of (pw_other rfl)
  · exact .of (pw_other rfl)
  · exact .of (pw_len (by simp) (by simp) (by simp))
  · exact .of (pw_len (by simp) (by simp) (by simp))
  · exact .of (pw_other rfl)
  · exact Mj (xs:=[]) h hE (.inr ⟨rfl,rfl⟩) (fun _ z=>by cases z) (by simp) (fun _ z=>by cases z) sum_nil
  · exact .of (pw_skip lg (w6 (by simp) Y6) (kind_len (by simp)) (kind_len (by simp)) (w6 (by simp) Sx))
theorem a2z (h:OkB bs lo hi) (hE:okE E):∀ p∈Tn (N2 bs),Bad sto bs hi E d p:=fun p hp=>by
  simp only [Tn,List.mem_cons,List.not_mem_nil,or_false] at hp
  rcases hp with rfl | rfl | rfl | rfl | rfl | rfl
  · exact .of (pw_skip lg (kind_len (by simp)) (kind_len (by simp)) (w6 (by simp) Ra) (kind_len (by simp)))
  · exact .of (pw_skip lg (kind_len (by simp)) (kind_len (by simp)) (w6 (by simp) Sh) (kind_len (by simp)))
  · exact .of (pw_rest h hE)
  · exact .of (pw_skip lg (kind_len (by simp)) (kind_len (by simp)) (a0a (by simp) rfl) (kind_len (by simp)))
  · exact Ac (xs:=[]) h hE (fun _ z=>by cases z) (by simp) sum_nil
  · exact Ac (xs:=[tag [.t [.int 1,.int 1],.t [.int (N2 bs),.int 1]]]) h hE (one' (El (two trivial trivial) (by simp))) (by simp) (Hj (l:=[]) (by simp [tag,pr,isI]) rfl)
theorem a66 (h:OkB bs lo hi) (hE:okE E):∀ p∈Uh (N2 bs),Bad sto bs hi E d p:=fun p hp=>by
  simp only [Uh,List.mem_cons,List.not_mem_nil,or_false] at hp
  rcases hp with rfl | rfl | rfl
  · exact Ac (xs:=[tag [.i 1,.i 1]]) h hE (one' (El r11 (by simp))) (by simp) (Um (by
      show cF (([[1,1]]:List (List Int)).filterMap _) _≠0
      simp only [List.filterMap_cons,lk1 h (by decide:(0:Int)<1),List.filterMap_nil,cF,List.map_cons,List.map_nil,List.sum_cons,List.sum_nil,gx]
      decide))
  · exact Ac (xs:=[tag [.i (N2 bs),.i 1]]) h hE (one' (El (rn h b1) (by simp))) (by simp) (Um (by
      show cF (([[N2 bs,1]]:List (List Int)).filterMap _) _≠0
      simp only [List.filterMap_cons,lkN h (by decide:(0:Int)<1),List.filterMap_nil,cF,List.map_cons,List.map_nil,List.sum_cons,List.sum_nil,gx]
      decide))
  · exact Ac (xs:=[tag [.i 1,.i 1],tag [.i (N2 bs),.i 2]]) h hE (two (El r11 (by simp)) (El (rn h b2) (by simp))) (by simp) (Um (by
      show cF (([[1,1],[N2 bs,2]]:List (List Int)).filterMap _) _≠0
      simp only [List.filterMap_cons,lk1 h (by decide:(0:Int)<1),lkN h (by decide:(0:Int)<2),List.filterMap_nil,cF,List.map_cons,List.map_nil,List.sum_cons,List.sum_nil,gx]
      decide))
theorem a3p (h:OkB bs lo hi) (hE:okE E):∀ p∈X5 (N2 bs),Bad sto bs hi E d p:=fun p hp=>by
  simp only [X5,List.mem_cons,List.not_mem_nil,or_false] at hp
  rcases hp with rfl | rfl | rfl
  · exact Ac (xs:=[tag [.i (N2 bs),.i 1],tag [.i 1,.i 1],(.int 0,[])]) h hE (three (El (rn h b1) (by simp)) (El r11 (by simp)) (Zt (Pz rfl))) (by simp) (Hj (l:=[]) (by simp) rfl)
  · exact Ac (xs:=[tag [.i 1,.i 1],tag [.i (N2 bs),.b true]]) h hE (two (El r11 (by simp)) (El (rn h trivial) (by simp))) (by simp) (Hj (l:=[]) (by simp [tag,pr,isI]) rfl)
  · exact Ac (xs:=[tag [.i 1,.i 1],tag [.i (N2 bs),.s "1"]]) h hE (two (El r11 (by simp)) (El (rn h trivial) (by simp))) (by simp) (Hj (l:=[]) (by simp [tag,pr,isI]) rfl)
theorem a2m {n:Int} {b:T} (hn:n<0∨1≤n):gj [nT bs,Lx bs hi E,.tup [.str "or",.int n,b]] sto=some (.non,sto) :=
  pw_or (Xm (O:=[[fmT (.all []),fmT (fA aZ)]]) (by
    rcases hn with z | z
    · rw [decide_eq_false (by omega)]; rfl
    · rw [decide_eq_false (show ¬ n<(([[fmT (.all []),fmT (fA aZ)]]:List (List T)).length:Int) by simp; omega)]; simp))
theorem a3v (h:OkB bs lo hi):1≤N2 bs:=by
  obtain ⟨bs',e⟩:=h.hd
  unfold N2
  rw [e,List.length_cons]
  omega
theorem a4p (h:OkB bs lo hi) (hE:okE E):∀ p∈Xu (N2 bs),Bad sto bs hi E d p:=fun p hp=>by
  simp only [Xu,List.mem_cons,List.not_mem_nil,or_false] at hp
  rcases hp with rfl | rfl | rfl | rfl | rfl
  · exact Ac (xs:=[tag [.i 1,.i 1],(.lst [.int (N2 bs),.int 1],[])]) h hE (two (El r11 (by simp)) (Zt (Pz rfl))) (by simp) (Hj (l:=[]) (by simp) rfl)
  · exact Mj (xs:=[]) h hE (.inr ⟨rfl,rfl⟩) (fun _ z=>by cases z) (by simp) (fun _ z=>by cases z) sum_nil
  · exact .of (pw_or (Wm (by simp)))
  · exact .of (pw_or (Wm (by simp)))
  · exact .of (a2m (.inr (a3v h)))
theorem a3f (h:OkB bs lo hi) (hE:okE E):∀ p∈Ze (N2 bs),Bad sto bs hi E d p:=fun p hp=>by
  simp only [Ze,List.mem_cons,List.not_mem_nil,or_false] at hp
  rcases hp with rfl | rfl | rfl
  · exact .of (a2m (.inl (by decide)))
  · exact .of (pw_orW Jp)
  · exact .of (pw_len (by simp) (by simp) (by simp))
theorem a7g (h:OkB bs lo hi):(bs.map (·.1)).length≤100:=by rw [List.length_map]; have:=h.len; omega
theorem U6 {a P:T} {k:Int} (h:OkB bs lo hi) (ha:isStr [a]=some (.bl false)) {L:T}:jx [nT bs,L,a,.int k,P] sto=some (.non,sto) :=
  Qa (a7g h) (fun _=>false) (by simp) (fun x _=>Ua ha)
theorem a83 {P:T} {k:Int} (h:OkB bs lo hi) {L:T}:jx [nT bs,L,.str "q",.int k,P] sto=some (.non,sto) :=
  Qa (a7g h) (fun x=>x==("q" : Str)) (by
    rw [List.filter_eq_nil_iff]
    intro x hx
    obtain ⟨r,hr,rfl⟩:=List.mem_map.mp hx
    have:=h.in' r hr
    simp only [U4,List.mem_cons,List.not_mem_nil,or_false] at this
    rcases this with e | e | e <;> rw [e] <;> decide +kernel) (fun x hx=>cut_str (h.okS x hx) a8i)
theorem a3x (h:OkB bs lo hi) (hE:okE E) (hd:d≤90) (hl:E.length<390):∀ p∈a2g (N2 bs),Bad sto bs hi E d p:=fun p hp=>by
  simp only [a2g,List.mem_cons,List.not_mem_nil,or_false] at hp
  rcases hp with rfl | rfl | rfl
  · have j:=Ln (sto:=sto) (k:=0) h (by omega) hd (Fe (d:=d+1) h (hE.add (a:=aM "x" 0) Km (by omega))) (.none (pw_other (p:=.non) rfl))
    rw [Bool.and_false] at j
    exact ⟨_,by omega,j⟩
  · exact .of (pw_cut (a83 h))
  · exact .of (pw_cut (U6 h rfl))
theorem a3i (h:OkB bs lo hi) (hE:okE E):∀ p∈a2u (N2 bs),Bad sto bs hi E d p:=fun p hp=>by
  simp only [a2u,List.mem_cons,List.not_mem_nil,or_false] at hp
  rcases hp with rfl | rfl | rfl
  · exact .of (pw_cutW Jp)
  · exact .of (pw_cutW Uz)
  · exact .of (pw_cut (U6 h rfl))
theorem a4g (h:OkB bs lo hi) (hE:okE E) (hd:d≤90) (hl:E.length<390):∀ p∈a4a (N2 bs),Bad sto bs hi E d p:=fun p hp=>by
  simp only [a4a,List.mem_cons,List.not_mem_nil,or_false] at hp
  rcases hp with rfl | rfl | rfl
  · have j:=Ln (sto:=sto) (k:=0) h (by omega) hd (.none (pw_other (p:=.lst [gd (N2 bs)]) rfl)) (Fe (d:=d+1) h (hE.add (a:=aL "x" (0+1)) Ig (by omega)))
    rw [Bool.false_and] at j
    exact ⟨_,by omega,j⟩
  · exact .of (pw_skip lg (kind_len (by simp)) (w6 (by simp) Rm) (kind_len (by simp)) (kind_len (by simp)))
  · exact .of (a2m (.inr (by decide)))
theorem a3u (h:OkB bs lo hi) (hE:okE E):∀ p∈a6e (N2 bs),Bad sto bs hi E d p:=fun p hp=>by
  simp only [a6e,List.mem_cons,List.not_mem_nil,or_false] at hp
  rcases hp with rfl | rfl | rfl
  · exact .of (pw_cut (U6 h rfl))
  · exact .of (pw_orW Jp)
  · exact .of (pw_or (Wm (by simp)))
theorem a5v (h:OkB bs lo hi) (hE:okE E):∀ p∈a6k (N2 bs),Bad sto bs hi E d p:=fun p hp=>by
  simp only [a6k,List.mem_cons,List.not_mem_nil,or_false] at hp
  rcases hp with rfl | rfl | rfl
  · exact .of (pw_or a0m)
  · exact .of (pw_len (by simp) (by simp) (by simp))
  · exact .of (pw_len (by simp) (by simp) (by simp))
theorem a3a (h:OkB bs lo hi) (hE:okE E) (hd:d≤90) (hl:E.length<390):∀ p∈bad (N2 bs),Bad sto bs hi E d p:=fun p hp=>by
  simp only [bad,List.append_assoc,List.mem_append] at hp
  rcases hp with z | z | z | z | z | z | z | z | z | z | z
  · exact a4b h hE p z
  · exact a2z h hE p z
  · exact a66 h hE p z
  · exact a3p h hE p z
  · exact a4p h hE p z
  · exact a3f h hE p z
  · exact a3x h hE hd hl p z
  · exact a3i h hE p z
  · exact a4g h hE hd hl p z
  · exact a3u h hE p z
  · exact a5v h hE p z
end
end K
end
noncomputable section
set_option linter.all false
set_option maxRecDepth 100000
set_option autoImplicit false
namespace K
open C PySem
theorem Ve {g:G} {b:S} {n:Nat} (P:Nat→Sta→Prop) (H:∀ k s,k<n→P k s→∃ s1 s2,g (.int (k:Int)) s=some s1∧b s1=some (.next,s2)∧P (k+1) s2) :
    ∀ (m k:Nat) (s:Sta),k+m=n→P k s→∃ s',forL g b ((List.range' k m).map fun (k:Nat)=>T.int (k:Int)) s=some (.next,s')∧P n s'
  | 0,k,s,e,p=>⟨s,rfl,by rw [← e]; exact p⟩
  | m+1,k,s,e,p=>by
    obtain ⟨s1,s2,e1,e2,p2⟩:=H k s (by omega) p
    obtain ⟨s',e3,p3⟩:=Ve P H m (k+1) s2 (by omega) p2
    refine ⟨s',?_,p3⟩
    rw [List.range'_succ,List.map_cons,forL]
    simp only [e1,e2]
    exact e3
theorem forR {g:G} {b:S} {n:Nat} {s:Sta} {r:Option (C.Flow × Sta)} (hF:forL g b (rangeT n) s=r) (P:Nat→Sta→Prop) (p:P 0 s) (H:∀ k s,k<n→P k s→∃ s1 s2,g (.int (k:Int)) s=some s1∧b s1=some (.next,s2)∧P (k+1) s2):∃ s',r=some (.next,s')∧P n s':=by
  obtain ⟨s',e,p'⟩:=Ve P H n 0 s (by omega) p
  refine ⟨s',?_,p'⟩
  rw [← hF,← e]
  unfold rangeT
  rw [List.range_eq_range']
noncomputable section
variable {cs:List Int} {sto:List SO}
theorem K5 {g:G} {it:M (List T)} {b rest:S} {s s1 s2:Sta} {ts:List T} (h:it s=some (ts,s1)) (hf:forL g b ts s1=some (.next,s2)):jd (mz g it b) rest s=rest s2:=by
  unfold jd mz; rw [h]; dsimp only; rw [hf]
theorem Gk {m:M T} {s s1:Sta} {b:Bool} (h:m s=some (.bl b,s1)):fj m s=some (b,s1):=by unfold fj; rw [h]
theorem lu {a:M T} {b:M (List T)} {s s1 s2:Sta} {x:T} {l:List T} (h1:a s=some (x,s1)) (h2:b s1=some (l,s2)):ak a b s=some (x::l,s2):=by
  unfold ak; rw [h1]; dsimp only; rw [h2]
theorem Hf {f:List T→Option T} {as:M (List T)} {ts:List T} {s s1:Sta} {u:T} (h:as s=some (ts,s1)) (hf:f ts=some u):gn f as s=some (u,s1):=by
  unfold gn; rw [h]; dsimp only; rw [hf]
theorem wk {as:M (List T)} {ts:List T} {s s1:Sta} {F:Fn} {t:T} (h:as s=some (ts,s1)) (h2:F ts s1.sto=some (t,s1.sto)):dz F as s=some (t,s1):=by
  unfold dz; rw [h]; dsimp only; rw [h2]
theorem a7t {c:M Bool} {a b:S} {s s1:Sta} (h:c s=some (true,s1)):sIf c a b s=a s1:=by unfold sIf; rw [h]
theorem a6f {c:M Bool} {a b:S} {s s1:Sta} (h:c s=some (false,s1)):sIf c a b s=b s1:=by unfold sIf; rw [h]
noncomputable abbrev scr (cs:List Int):T:=.lst (cs.map .int)
noncomputable def cell (cs:List Int) (k:Nat):Int:=cs.getD k 0
theorem a1a {k:Nat}:jm [scr cs,.int (k:Int)] sto=some (.int (cell cs k),sto):=by
  by_cases h:k<cs.length
  · have h1:((k:Int)<(cs.length:Int)):=by omega
    have h2:cs[k]? = some cs[k]:=List.getElem?_eq_getElem h
    simp [iy,jd,sIf,jk,sNew,jl,jt,sNx,fu,sGo,cj,mz,dg,dj,j9,fj,oh,kj,mOr,iz,mIf,mOp,mUn,bw,gn,ak,dw,aq,jc,dz,cg,hName,m8,gk,jw,ltT,leT,m9,ju,qb,jy,j8,ni,pq,j6,j5,bh,n6,jm,iw,ixI,h1,h2,cell,List.getD]
  · have h1:¬ ((k:Int)<(cs.length:Int)):=by omega
    have h2:cs[k]? = none:=List.getElem?_eq_none_iff.mpr (by omega)
    simp [iy,jd,sIf,jk,sNew,jl,jt,sNx,fu,sGo,cj,mz,dg,dj,j9,fj,oh,kj,mOr,iz,mIf,mOp,mUn,bw,gn,ak,dw,aq,jc,dz,cg,hName,m8,gk,jw,ltT,leT,m9,ju,qb,jy,j8,ni,pq,j6,j5,bh,n6,jm,iw,ixI,h1,h2,cell,List.getD]
theorem W3 {k:Nat} {i:Int} (h:i=(k:Int)):jm [scr cs,.int i] sto=some (.int (cell cs k),sto):=by
  rw [h]; exact a1a
theorem signed {c m:Int} (hm:0<m):∃ r:Int,r.natAbs<m.natAbs∧∀ sto:List SO,u6 [.int c,.int m] sto=some (.int r,sto):=by
  by_cases h:c<0
  · have h1:=Int.emod_nonneg (-c) (b:=m) (by omega)
    have h2:=Int.emod_lt_of_pos (-c) hm
    exact ⟨-(-c%m),by omega,fun sto=>by first | exact rfl | simp [iy,jd,sIf,jk,sNew,jl,jt,sNx,fu,sGo,cj,mz,dg,dj,j9,fj,oh,kj,mOr,iz,mIf,mOp,mUn,bw,gn,ak,dw,aq,jc,dz,cg,hName,m8,gk,jw,ltT,leT,m9,ju,qb,jy,j8,ni,pq,j6,j5,bh,n6,u6,h,hm]⟩
  · have h1:=Int.emod_nonneg c (b:=m) (by omega)
    have h2:=Int.emod_lt_of_pos c hm
    exact ⟨c%m,by omega,fun sto=>by first | exact rfl | simp [iy,jd,sIf,jk,sNew,jl,jt,sNx,fu,sGo,cj,mz,dg,dj,j9,fj,oh,kj,mOr,iz,mIf,mOp,mUn,bw,gn,ak,dw,aq,jc,dz,cg,hName,m8,gk,jw,ltT,leT,m9,ju,qb,jy,j8,ni,pq,j6,j5,bh,n6,u6,h,hm]⟩
theorem a68 {i:Nat} {e:M T} {s s1:Sta} {t:T} {xs:List T} (h:j9 i s=true) (he:e s=some (t,s1)) (hx:s1.env[i]? = some (some (.lst xs,true))) (hl:xs.length<lim):dg i e s=some (.next,cg i (.lst (xs++[t])) true s1):=by
  unfold dg
  rw [if_pos h,he]
  dsimp only
  rw [hx]
  dsimp only
  rw [if_pos hl]
theorem a6r {v a b:Int}:∃ o:Int,(o=a∨o=b)∧iw (.lst [.int a,.int b]) (.int (v%2))=some (.int o):=by
  rcases Int.emod_two_eq v with h | h <;> rw [h]
  · exact ⟨a,.inl rfl,rfl⟩
  · exact ⟨b,.inr rfl,rfl⟩
noncomputable abbrev rB:S:=(jd (jk 3 (dz jm (ak (bw 0) (ak (mOp ju (aq (.int 1)) (bw 2)) dw))))
  (jd (jk 4 (dz u6 (ak (bw 3) (ak (mOp iw (gn (fun l=>some (.lst l)) (ak (aq (.int 9)) (ak (mOp Ms (aq (.int 9)) (mOp Tp (aq (.int 10)) (aq (.int 29)))) dw))) (mOp jy (mOp j8 (bw 3) (aq (.int 3))) (aq (.int 2)))) dw))))
  (dg 1 (gn (fun l=>some (.tup l)) (ak (mOp iw (gn (fun l=>some (.lst l)) (ak (aq (.str "x")) (ak (aq (.str "@p")) (ak (aq (.str "yy")) dw)))) (bw 2)) (ak (bw 4) (ak (mOp ju (bw 4) (mOp jy (mOp j8 (gn pq (ak (bw 3) dw)) (aq (.int 7))) (mOp Tp (aq (.int 10)) (aq (.int 29))))) dw)))))))
noncomputable abbrev dB:S:=(sIf (fj (mOp eqO (mOp jy (bw 3) (aq (.int 3))) (aq (.int 0))))
  (jk 2 (gn (fun l=>some (.tup l)) (ak (aq (.str "cut")) (ak (aq (.str "x")) (ak (bw 3) (ak (bw 2) (ak (bw 0) dw)))))))
  (sIf (fj (mOp eqO (mOp jy (bw 3) (aq (.int 3))) (aq (.int 1))))
  (jk 2 (gn (fun l=>some (.tup l)) (ak (aq (.str "cut")) (ak (aq (.str "x")) (ak (mUn ni (bw 3)) (ak (bw 0) (ak (bw 2) dw)))))))
  (jk 2 (gn (fun l=>some (.tup l)) (ak (aq (.str "or")) (ak (aq (.int 0)) (ak (gn (fun l=>some (.tup l)) (ak (bw 0) (ak (bw 2) dw))) dw)))))))
noncomputable abbrev lB1:S:=(jd (jk 7 (mOp j8 (bw 6) (aq (.int 45))))
  (jd (sIf (fj (mOp xg (dz jh (ak (bw 1) (ak (bw 4) (ak (dz jz (ak (bw 5) (ak (bw 5) (ak (bw 7) dw)))) dw)))) (aq (.bl true))))
  (jl (aq (.bl false)))
  jt)
  (sIf (fj (mOp xg (dz jh (ak (bw 1) (ak (bw 4) (ak (dz jz (ak (dz sy (ak (bw 5) (ak (bw 2) (ak (bw 6) dw)))) (ak (bw 5) (ak (bw 7) dw)))) dw)))) (aq (.bl false))))
  (jl (aq (.bl false)))
  jt)))
noncomputable abbrev lB2:S:=(sIf (fj (mOp xg (dz jh (ak (bw 1) (ak (bw 4) (ak (dz sy (ak (bw 5) (ak (bw 2) (ak (bw 6) dw)))) dw)))) (aq (.bl false))))
  (jl (aq (.bl false)))
  jt)
theorem a4t:Tg=iy 13 (jd (jk 1 (dz yw (ak (bw 0) dw)))
  (jd (jk 2 (mOp Ms (aq (.int 2)) (gn m9 (ak (bw 1) dw))))
  (jd (jk 3 (mOp iw (mOp iw (bw 1) (aq (.int 0))) (aq (.int 2))))
  (jd (jk 4 (gn (fun l=>some (.lst l)) (ak (gn (fun l=>some (.tup l)) (ak (aq (.str "most")) (ak (gn (fun l=>some (.tup l)) (ak (mOp ju (bw 3) (aq (.int 1))) (ak (gn (fun l=>some (.tup l)) (ak (gn (fun l=>some (.tup l)) (ak (aq (.str "x")) (ak (mUn ni (aq (.int 1))) dw))) dw)) dw))) dw))) (ak (gn (fun l=>some (.tup l)) (ak (aq (.str "or")) (ak (gn (fun l=>some (.tup l)) (ak (gn (fun l=>some (.tup l)) (ak (aq (.str "and")) (ak (gn (fun l=>some (.tup l)) dw) dw))) (ak (gn (fun l=>some (.tup l)) (ak (aq (.str "most")) (ak (gn (fun l=>some (.tup l)) (ak (aq (.int 0)) (ak (gn (fun l=>some (.tup l)) dw) dw))) dw))) dw))) dw))) (ak (gn (fun l=>some (.tup l)) (ak (aq (.str "and")) (ak (gn (fun l=>some (.tup l)) dw) dw))) dw)))))
  (jd (jk 5 (gn (fun l=>some (.tup l)) (ak (aq (.str "sum")) (ak (gn (fun l=>some (.tup l)) (ak (gn (fun l=>some (.tup l)) (ak (aq (.int 1)) (ak (aq (.int 1)) dw))) (ak (gn (fun l=>some (.tup l)) (ak (bw 2) (ak (aq (.int 1)) dw))) dw))) dw))))
  (jd (mz (hName 6) (jw (Dh (bw 0) (Fv (aq (.int 4))) (Fv (aq (.int 63)))))
  lB1)
  (jd (mz (hName 6) (gk (aq (.int 45)))
  lB2)
  (jd (jk 8 (gn (fun l=>some (.tup l)) (ak (aq (.str "sum")) (ak (gn (fun l=>some (.tup l)) (ak (gn (fun l=>some (.tup l)) (ak (aq (.int 1)) (ak (aq (.int 1)) dw))) (ak (gn (fun l=>some (.tup l)) (ak (bw 2) (ak (aq (.int 1)) dw))) dw))) dw))))
  (jd (jk 9 (gn (fun l=>some (.lst l)) (ak (gn (fun l=>some (.tup l)) (ak (aq (.str "or")) (ak (gn (fun l=>some (.tup l)) (ak (mOp iw (bw 4) (aq (.int 0))) (ak (gn (fun l=>some (.tup l)) (ak (aq (.str "most")) (ak (gn (fun l=>some (.tup l)) (ak (aq (.int 0)) (ak (gn (fun l=>some (.tup l)) dw) dw))) dw))) dw))) dw))) dw)))
  (jd (sIf (fj (mOp xg (dz jh (ak (bw 1) (ak (bw 9) (ak (gn (fun l=>some (.tup l)) (ak (aq (.str "or")) (ak (aq (.int 0)) (ak (gn (fun l=>some (.tup l)) (ak (bw 8) (ak (bw 8) dw))) dw)))) dw)))) (aq (.bl false))))
  (jl (aq (.bl false)))
  jt)
  (jd (jk 10 (gn (fun l=>some (.tup l)) (ak (aq (.str "sum")) (ak (gn (fun l=>some (.tup l)) (ak (gn (fun l=>some (.tup l)) (ak (aq (.int 0)) (ak (aq (.int 1)) dw))) (ak (gn (fun l=>some (.tup l)) (ak (bw 2) (ak (aq (.int 1)) dw))) dw))) dw))))
  (jd (sIf (fj (mOp xg (dz jh (ak (bw 1) (ak (gn (fun l=>some (.lst l)) dw) (ak (gn (fun l=>some (.tup l)) (ak (aq (.str "cut")) (ak (aq (.str "x")) (ak (mOp qb (mOp iw (mOp iw (bw 1) (aq (.int 0))) (aq (.int 1))) (aq (.int 1))) (ak (bw 10) (ak (bw 10) dw)))))) dw)))) (aq (.bl false))))
  (jl (aq (.bl false)))
  jt)
  (jd (jk 11 (mOp jy (dz jm (ak (bw 0) (ak (aq (.int 4)) dw))) (aq (.int 90))))
  (jd (jk 12 (mOp ju (aq (.int 90)) (mOp jy (mOp j8 (dz jm (ak (bw 0) (ak (aq (.int 4)) dw))) (aq (.int 90))) (aq (.int 9)))))
  (jd (sIf (mOr (fj (mOp xg (dz jh (ak (bw 1) (ak (bw 4) (ak (dz m5 (ak (bw 5) (ak (bw 11) dw))) dw)))) (aq (.bl true)))) (fj (mOp xg (dz jh (ak (bw 1) (ak (bw 4) (ak (dz m5 (ak (bw 5) (ak (aq (.int 89)) dw))) dw)))) (aq (.bl true)))))
  (jl (aq (.bl false)))
  jt)
  (jl (iz (kj (fj (mOp isC (dz jh (ak (bw 1) (ak (bw 4) (ak (dz m5 (ak (bw 5) (ak (aq (.int 90)) dw))) dw)))) (aq (.bl false)))) (fj (mOp isC (dz jh (ak (bw 1) (ak (bw 4) (ak (dz m5 (ak (bw 5) (ak (bw 12) dw))) dw)))) (aq (.bl false)))))))))))))))))))))):=rfl
noncomputable def nm3:List Str:=["x","@p","yy"]
theorem a71 {k:Nat} (h:k<3):iw (.lst [.str "x",.str "@p",.str "yy"]) (.int (k:Int))=some (.str (nm3.getD k "x"))∧nm3.take (k+1)=nm3.take k++[nm3.getD k "x"]:=by
  match k,h with
  | 0,_=>exact ⟨rfl,rfl⟩
  | 1,_=>exact ⟨rfl,rfl⟩
  | 2,_=>exact ⟨rfl,rfl⟩
theorem p29:Tp (.int 10) (.int 29)=some (.int 100000000000000000000000000000):=by simp [Tp]
theorem p60:Tp (.int 10) (.int 60)=some (.int 1000000000000000000000000000000000000000000000000000000000000):=by simp [Tp]
theorem Xe:∃ bs lo hi,OkB bs lo hi∧yw [scr cs] sto=some (.lst (bs.map bdT),sto):=by
  have c0:=W3 (cs:=cs) (sto:=sto) (k:=0) (i:=0) rfl
  have m1:=Int.emod_nonneg (cell cs 0) (b:=3) (by decide)
  have m2:=Int.emod_lt_of_pos (cell cs 0) (b:=3) (by decide)
  have l1:(1+cell cs 0%3).natAbs<lim:=by show _<1000000; omega
  unfold yw iy
  rw [show ([scr cs].map (fun t=>some (t,false))++List.replicate (5 - [scr cs].length) none:List Slot)=[some (scr cs,false),none,none,none,none] from rfl]
  rw [j4 (s':=⟨[some (scr cs,false),some (.lst [],true),none,none,none],sto⟩) rfl]
  have it:(gk (mOp ju (aq (.int 1)) (mOp jy (dz jm (ak (bw 0) (ak (aq (.int 0)) dw))) (aq (.int 3))))) ⟨[some (scr cs,false),some (.lst [],true),none,none,none],sto⟩=some (rangeT (1+cell cs 0%3).toNat,⟨[some (scr cs,false),some (.lst [],true),none,none,none],sto⟩):=by simp [iy,jd,sIf,jk,sNew,jl,jt,sNx,fu,sGo,cj,mz,dg,dj,j9,fj,oh,kj,mOr,iz,mIf,mOp,mUn,bw,gn,ak,dw,aq,jc,dz,cg,hName,m8,gk,jw,ltT,leT,m9,ju,qb,jy,j8,ni,pq,j6,j5,bh,n6,c0,l1]
  generalize hF:forL (hName 2) rB (rangeT (1+cell cs 0%3).toNat) ⟨[some (scr cs,false),some (.lst [],true),none,none,none],sto⟩=r
  obtain ⟨s',rfl,bs,o2,o3,o4,hb,rfl⟩:=forR hF (fun k s=>∃ (bs:List Bd) (o2 o3 o4:Slot),bs.map (·.1)=nm3.take k∧s=⟨[some (scr cs,false),some (.lst (bs.map bdT),true),o2,o3,o4],sto⟩)
    ⟨[],none,none,none,rfl,rfl⟩ (by
      rintro k s hk ⟨bs,o2,o3,o4,hb,rfl⟩
      have ck:=W3 (cs:=cs) (sto:=sto) (k:=1+k) (i:=1+(k:Int)) (by omega)
      generalize cell cs (1+k)=c at ck
      obtain ⟨o,ho,eo⟩:=a6r (v:=c / 3) (a:=9) (b:=900000000000000000000000000000)
      have o0:0<o:=by rcases ho with rfl | rfl <;> decide
      obtain ⟨sg,_,es⟩:=signed (c:=c) o0
      obtain ⟨n1,n2⟩:=a71 (k:=k) (by omega)
      have lb:bs.length≤3:=by
        have:=congrArg List.length hb
        rw [List.length_map,List.length_take] at this
        have:nm3.length=3:=rfl
        omega
      have b9:Av 9=true:=by decide
      have lt:(bs.map bdT).length<lim:=by rw [List.length_map]; show _<1000000; omega
      refine ⟨_,⟨[some (scr cs,false),some (.lst ((bs++[(nm3.getD k "x",sg,sg+(if c<0 then -c else c) / 7%100000000000000000000000000000)]).map bdT),true),some (.int (k:Int),false),some (.int c,false),some (.int sg,false)],sto⟩,rfl,?_,bs++[(nm3.getD k "x",sg,sg+(if c<0 then -c else c) / 7%100000000000000000000000000000)],_,_,_,?_,rfl⟩
      · unfold rB
        rw [j4 (s':=⟨[some (scr cs,false),some (.lst (bs.map bdT),true),some (.int (k:Int),false),some (.int c,false),o4],sto⟩) (Ht (wk (lu rfl (lu (yj (z:=.int (1+(k:Int))) rfl rfl rfl) rfl)) ck) rfl)]
        rw [j4 (s':=⟨[some (scr cs,false),some (.lst (bs.map bdT),true),some (.int (k:Int),false),some (.int c,false),some (.int sg,false)],sto⟩) (Ht (wk (lu rfl (lu (yj (x:=.lst [.int 9,.int 900000000000000000000000000000]) (y:=.int (c / 3%2)) (Hf (lu rfl (lu (yj (f:=Ms) rfl (yj rfl rfl p29) (by simp [Ms,b9])) rfl)) rfl) (yj (x:=.int (c / 3)) (yj rfl rfl rfl) rfl rfl) eo) rfl)) (es sto)) rfl)]
        rw [a68 (t:=bdT (nm3.getD k "x",sg,sg+(if c<0 then -c else c) / 7%100000000000000000000000000000)) (s1:=⟨[some (scr cs,false),some (.lst (bs.map bdT),true),some (.int (k:Int),false),some (.int c,false),some (.int sg,false)],sto⟩) rfl (Hf (lu (yj rfl rfl n1) (lu rfl (lu (yj (f:=ju) (y:=.int ((if c<0 then -c else c) / 7%100000000000000000000000000000)) rfl (yj (f:=jy) (x:=.int ((if c<0 then -c else c) / 7)) (yj (f:=j8) (x:=.int (if c<0 then -c else c)) (Hf (lu rfl rfl) (by simp [pq])) rfl rfl) (yj rfl rfl p29) rfl) rfl) rfl))) rfl) rfl lt]
        simp [cg]
      · rw [List.map_append,hb,n2]
        rfl)
  have eK:∃ K:Nat,K<3∧(1+cell cs 0%3).toNat=K+1:=⟨(cell cs 0%3).toNat,by omega,by omega⟩
  obtain ⟨K,hK,eK⟩:=eK
  rw [eK] at hb
  rw [K5 it hF]
  have hlen:bs.length=K+1:=by
    have:=congrArg List.length hb
    rw [List.length_map,List.length_take] at this
    have:nm3.length=3:=rfl
    omega
  match bs,hlen,hb with
  | (b,lo,hi)::bs',hlen,hb =>
    have hbx:b=("x" : Str):=by
      have:=congrArg List.head? hb
      simpa [nm3] using this
    subst hbx
    refine ⟨_,lo,hi,⟨⟨bs',rfl⟩,fun r hr=>?_,by omega,?_⟩,rfl⟩
    · have:r.1∈nm3.take (K+1):=by rw [← hb]; exact List.mem_map_of_mem hr
      have:=List.mem_of_mem_take this
      simp only [nm3,List.mem_cons,List.not_mem_nil,or_false] at this
      rcases this with e | e | e <;> rw [e] <;> decide
    · rw [hb]
      match K,hK with
      | 0,_=>decide
      | 1,_=>decide
      | 2,_=>decide
noncomputable def wi (c:Int) (p g:T):T:=if c%4=1 then Td (c / 4%7 - 3) p g else if c%4=2 then Td (c%1000000000000000000000000000000000000000000000000000000000000) g p else if c%4=3 then orP p g else p
theorem Le {c:Int} {p g:T}:jz [p,g,.int c] sto=some (wi c p g,sto):=by
  unfold wi
  have hc:=Int.emod_nonneg c (b:=4) (by decide)
  by_cases h1:c%4=1
  · have e1:(c%4==1)=true:=by simpa using h1
    rw [if_pos h1]
    unfold jz Td
    simp [iy,jd,sIf,jk,sNew,jl,jt,sNx,fu,sGo,cj,mz,dg,dj,j9,fj,oh,kj,mOr,iz,mIf,mOp,mUn,bw,gn,ak,dw,aq,jc,dz,cg,hName,m8,gk,jw,ltT,leT,m9,ju,qb,jy,j8,ni,pq,j6,j5,bh,n6,uy,e1,h1]
  · have e1:(c%4==1)=false:=by simpa using h1
    rw [if_neg h1]
    by_cases h2:c%4=2
    · have e2:(c%4==2)=true:=by simpa using h2
      rw [if_pos h2]
      unfold jz Td
      simp [iy,jd,sIf,jk,sNew,jl,jt,sNx,fu,sGo,cj,mz,dg,dj,j9,fj,oh,kj,mOr,iz,mIf,mOp,mUn,bw,gn,ak,dw,aq,jc,dz,cg,hName,m8,gk,jw,ltT,leT,m9,ju,qb,jy,j8,ni,pq,j6,j5,bh,n6,uy,e1,h1,e2,h2,p60]
    · have e2:(c%4==2)=false:=by simpa using h2
      rw [if_neg h2]
      by_cases h3:c%4=3
      · have e3:(c%4==3)=true:=by simpa using h3
        rw [if_pos h3]
        unfold jz orP
        simp [iy,jd,sIf,jk,sNew,jl,jt,sNx,fu,sGo,cj,mz,dg,dj,j9,fj,oh,kj,mOr,iz,mIf,mOp,mUn,bw,gn,ak,dw,aq,jc,dz,cg,hName,m8,gk,jw,ltT,leT,m9,ju,qb,jy,j8,ni,pq,j6,j5,bh,n6,uy,e1,h1,e2,h2,e3,h3]
      · have e3:(c%4==3)=false:=by simpa using h3
        rw [if_neg h3]
        unfold jz
        simp [iy,jd,sIf,jk,sNew,jl,jt,sNx,fu,sGo,cj,mz,dg,dj,j9,fj,oh,kj,mOr,iz,mIf,mOp,mUn,bw,gn,ak,dw,aq,jc,dz,cg,hName,m8,gk,jw,ltT,leT,m9,ju,qb,jy,j8,ni,pq,j6,j5,bh,n6,uy,e1,h1,e2,h2,e3,h3]
theorem a1j {n:Int} {c:Nat} (hc:c<100):m5 [gd n,.int (c:Int)] sto=some (dp n c,sto):=by
  have l1:((c:Int)).natAbs<lim:=by show _<1000000; omega
  unfold m5 iy
  rw [show ([gd n,.int (c:Int)].map (fun t=>some (t,false))++List.replicate (4 - [gd n,.int (c:Int)].length) none:List Slot)=[some (gd n,false),some (.int (c:Int),false),none,none] from rfl]
  rw [j4 (s':=⟨[some (gd n,false),some (.int (c:Int),false),some (gd n,false),none],sto⟩) rfl]
  have it:gk (bw 1) ⟨[some (gd n,false),some (.int (c:Int),false),some (gd n,false),none],sto⟩=some (rangeT c,⟨[some (gd n,false),some (.int (c:Int),false),some (gd n,false),none],sto⟩):=by
    have l2:c<lim:=by show _<1000000; omega
    simp [iy,jd,sIf,jk,sNew,jl,jt,sNx,fu,sGo,cj,mz,dg,dj,j9,fj,oh,kj,mOr,iz,mIf,mOp,mUn,bw,gn,ak,dw,aq,jc,dz,cg,hName,m8,gk,jw,ltT,leT,m9,ju,qb,jy,j8,ni,pq,j6,j5,bh,n6,l1,l2]
  generalize hF:forL (hName 3) dB (rangeT c) ⟨[some (gd n,false),some (.int (c:Int),false),some (gd n,false),none],sto⟩=r
  obtain ⟨s',rfl,o3,rfl⟩:=forR hF (fun k s=>∃ o3:Slot,s=⟨[some (gd n,false),some (.int (c:Int),false),some (dp n k,false),o3],sto⟩)
    ⟨none,rfl⟩ (by
      rintro k s hk ⟨o3,rfl⟩
      refine ⟨⟨[some (gd n,false),some (.int (c:Int),false),some (dp n k,false),some (.int (k:Int),false)],sto⟩,⟨[some (gd n,false),some (.int (c:Int),false),some (dp n (k+1),false),some (.int (k:Int),false)],sto⟩,rfl,?_,_,rfl⟩
      have t0:=Gk (yj (f:=eqO) (b:=aq (.int 0)) (yj (f:=jy) (a:=bw 3) (b:=aq (.int 3)) (s:=⟨[some (gd n,false),some (.int (c:Int),false),some (dp n k,false),some (.int (k:Int),false)],sto⟩) (s1:=⟨[some (gd n,false),some (.int (c:Int),false),some (dp n k,false),some (.int (k:Int),false)],sto⟩) (s2:=⟨[some (gd n,false),some (.int (c:Int),false),some (dp n k,false),some (.int (k:Int),false)],sto⟩) (z:=.int ((k:Int)%3)) rfl rfl rfl) rfl (uy (a:=(k:Int)%3) (b:=0)))
      have t1:=Gk (yj (f:=eqO) (b:=aq (.int 1)) (yj (f:=jy) (a:=bw 3) (b:=aq (.int 3)) (s:=⟨[some (gd n,false),some (.int (c:Int),false),some (dp n k,false),some (.int (k:Int),false)],sto⟩) (s1:=⟨[some (gd n,false),some (.int (c:Int),false),some (dp n k,false),some (.int (k:Int),false)],sto⟩) (s2:=⟨[some (gd n,false),some (.int (c:Int),false),some (dp n k,false),some (.int (k:Int),false)],sto⟩) (z:=.int ((k:Int)%3)) rfl rfl rfl) rfl (uy (a:=(k:Int)%3) (b:=1)))
      unfold dB
      rw [show dp n (k+1)=if k%3=0 then Td (k:Int) (dp n k) (gd n) else if k%3=1 then Td (-(k:Int)) (gd n) (dp n k) else orP (gd n) (dp n k) by rw [dp]]
      by_cases h0:k%3=0
      · have e0:((k:Int)%3==0)=true:=by simp; omega
        rw [e0] at t0
        rw [a7t t0,if_pos h0]
        rfl
      · have e0:((k:Int)%3==0)=false:=by simp; omega
        rw [e0] at t0
        rw [a6f t0,if_neg h0]
        by_cases h1:k%3=1
        · have e1:((k:Int)%3==1)=true:=by simp; omega
          rw [e1] at t1
          rw [a7t t1,if_pos h1]
          rfl
        · have e1:((k:Int)%3==1)=false:=by simp; omega
          rw [e1] at t1
          rw [a6f t1,if_neg h1]
          rfl)
  rw [K5 it hF]
  rfl
end
end K
end
noncomputable section
set_option linter.all false
set_option maxRecDepth 100000
set_option autoImplicit false
namespace K
open C PySem
noncomputable section
variable {cs:List Int} {sto:List SO} {bs:List Bd} {lo hi:Int}
noncomputable def fs (hi:Int):List Fm:=[fA (aL "x" (hi+1)),fO,.all []]
noncomputable def fsT (hi:Int):T:=.lst [.tup [.str "most",.tup [.int (hi+1),.tup [.tup [.str "x",.int (-1)]]]],.tup [.str "or",.tup [.tup [.str "and",.tup []],.tup [.str "most",.tup [.int 0,.tup []]]]],.tup [.str "and",.tup []]]
theorem a87:T.lst ((fs hi).map fmT)=fsT hi:=by simp [fs,fsT,fO,fA,fmT,a2w,aL,aZ,smT,pT]
theorem a8o:(bounds bs).map atT++Ib (fs hi)=(As bs (aL "x" (hi+1)) []).map atT:=by
  simp [fs,Ib,flA,fO,fA,As,atT]
theorem a89:[]++Ie (fs hi)=[or0]:=by simp [fs,Ie,flO,fO,fA,or0]
theorem Iw:okE []:=⟨(fun _ h=>by cases h),by simp⟩
theorem a2k:N2 bs=((2 * bs.length:Nat):Int):=by unfold N2; omega
theorem lets {Q:T} {b:Bool} {n:Nat} (h:OkB bs lo hi) (j:J sto (nT bs) (Lx bs hi []) Q 1 b n) (hn:n<1000):jh [.lst (bs.map bdT),fsT hi,Q] sto=some (.bl b,sto):=by
  rw [← a87]
  refine V1 (n:=n) ⟨Cw,trivial,trivial,trivial⟩ (by simp [fs,Fl,fsz,fA,fO]) (by have:=h.len; omega) ?_ hn
  rw [a8o,a89]
  exact j
theorem Nb {c:Int} (h:OkB bs lo hi):jh [.lst (bs.map bdT),fsT hi,wi c (gd (N2 bs)) (gd (N2 bs))] sto=some (.bl true,sto):=by
  have g:∀ {E:List At} {d:Nat},okE E→d≤90→J sto (nT bs) (Lx bs hi E) (gd (N2 bs)) d true 1:=fun {E d} hE hd=>by
    have:=Fe (sto:=sto) (d:=d) h hE
    rw [decide_eq_true hd] at this
    exact this
  unfold wi
  split
  · exact lets h (Ln h (by simp) (by decide) (g (Iw.add Km (by simp)) (by decide)) (g (Iw.add Ig (by simp)) (by decide))) (by decide)
  · split
    · exact lets h (Ln h (by simp) (by decide) (g (Iw.add Km (by simp)) (by decide)) (g (Iw.add Ig (by simp)) (by decide))) (by decide)
    · split
      · exact lets h (a7h h (by simp) (by decide) (g Iw (by decide)) (g (Iw.add Yj (by simp)) (by decide))) (by decide)
      · exact lets h (g Iw (by decide)) (by decide)
theorem Sy {c:Int} {p:T} (h:OkB bs lo hi) (hp:p∈bad (N2 bs)):jh [.lst (bs.map bdT),fsT hi,wi c p (gd (N2 bs))] sto=some (.bl false,sto):=by
  have g:∀ {E:List At} {d:Nat},okE E→J sto (nT bs) (Lx bs hi E) (gd (N2 bs)) d (decide (d≤90)) 1:=fun {E d} hE=>Fe (sto:=sto) (d:=d) h hE
  have b:∀ {E:List At} {d:Nat},okE E→d≤90→E.length<390→∃ k,k≤3∧J sto (nT bs) (Lx bs hi E) p d false k:=fun {E d} hE hd hl=>a3a h hE hd hl p hp
  unfold wi
  split
  · obtain ⟨k,hk,j⟩:=b (d:=2) (Iw.add (a:=aM "x" (c / 4%7 - 3)) Km (by simp)) (by decide) (by simp)
    have:=Ln h (by simp) (by decide:1≤90) j (g (Iw.add Ig (by simp)))
    rw [Bool.false_and] at this
    exact lets h this (by omega)
  · split
    · obtain ⟨k,hk,j⟩:=b (d:=2) (Iw.add (a:=aL "x" (c%1000000000000000000000000000000000000000000000000000000000000+1)) Ig (by simp)) (by decide) (by simp)
      have:=Ln h (by simp) (by decide:1≤90) (g (Iw.add Km (by simp))) j
      rw [Bool.and_false] at this
      exact lets h this (by omega)
    · split
      · obtain ⟨k,hk,j⟩:=b (d:=2) Iw (by decide) (by simp)
        have:=a7h h (by simp) (by decide:1≤90) j (g (Iw.add Yj (by simp)))
        rw [Bool.false_and] at this
        exact lets h this (by omega)
      · obtain ⟨k,hk,j⟩:=b (d:=1) Iw (by decide) (by simp)
        exact lets h j (by omega)
theorem Xp {p:T} (h:OkB bs lo hi) (hp:p∈bad (N2 bs)):jh [.lst (bs.map bdT),fsT hi,p] sto=some (.bl false,sto):=by
  obtain ⟨k,hk,j⟩:=a3a (sto:=sto) (d:=1) h Iw (by decide) (by simp) p hp
  exact lets h j (by omega)
theorem Yk {c:Nat} (h:OkB bs lo hi) (hc:c<100):jh [.lst (bs.map bdT),fsT hi,dp (N2 bs) c] sto=some (.bl (decide (1+c≤90)),sto):=by
  obtain ⟨n,hn,j⟩:=Qp (sto:=sto) h c [] 1 Iw (by simp; omega)
  exact lets h j (by omega)
theorem lkF {f:At} {k:Nat} {v t:Int} {s:Sm} {r:List T} {E:List At} (hv:v=(k:Int)) (ht:0<t) (h:(As bs f E)[k]? = some ⟨"most",s,r⟩):look (As bs f E) [v,t]=some (s,t):=Gj hv ht h
theorem Y5 {A:List At} {O:T} {xs:List (T × List Int)} {d:Nat} {b:Bool} (ok:∀ a∈A,Mi U4 a) (hb:∀ x∈xs,PR x∧∀ n∈x.2,Av n=true) (hl:xs.length≤100) (hd:d≤90) (hs:Az U4 A (xs.map (·.2))=b) :
    J sto (nT bs) (.tup [.lst (A.map atT),O]) (.tup [.str "sum",.tup (xs.map (·.1))]) d b 1:=by
  have pw:=pw_sum (sto:=sto) (N:=nT bs) (O:=O) a7d nd4 ok (.inl rfl) (fun x hx=>(hb x hx).2) hl (fun x hx=>(hb x hx).1)
  rw [hs] at pw
  cases b with
  | false=>exact .none pw
  | true=>exact .leaf hd pw
theorem Xk {v:Int} (h:OkB bs lo hi) (hv:Av v=true):∀ x∈[tag [.i v,.i 1],tag [.i (N2 bs),.i 1]],PR x∧∀ n∈x.2,Av n=true :=
  two (El (two hv b1) (by simp)) (El (rn h b1) (by simp))
theorem X3 {A:List At} {v w n1 n2 x1 x2:Int} (h1:look A [v,1]=some ((n1,[(("x" : Str),x1)]),1)) (h2:look A [w,1]=some ((n2,[(("x" : Str),x2)]),1)):Az U4 A [[v,1],[w,1]]=(decide (x1+x2=0)&&decide (0<n1+n2)):=by
  have e:([[v,1],[w,1]]:List (List Int)).filterMap (look A)=([((n1,[("x",x1)]),1),((n2,[("x",x2)]),1)]:List (Sm × Int)):=by
    simp only [List.filterMap_cons,h1,h2,List.filterMap_nil]
  by_cases hx:x1+x2=0
  · unfold Az
    rw [e]
    have a:([[v,1],[w,1]]:List (List Int)).all (fun l=>(look A l).isSome)=true:=by
      simp only [List.all_cons,List.all_nil,h1,h2]
      rfl
    rw [a]
    have c:canon U4 (cF ([((n1,[("x",x1)]),1),((n2,[("x",x2)]),1)]:List (Sm × Int)))=[]:=by
      rw [Ho (g:=fun _=>0) fun b _=>by
        simp only [cF,List.map_cons,List.map_nil,List.sum_cons,List.sum_nil,gt]
        by_cases hb:Str.ofString "x" = b <;> simp [hb] <;> omega]
      simp [canon]
    rw [c,decide_eq_true hx]
    simp only [fin,cN,List.map_cons,List.map_nil,List.sum_cons,List.sum_nil,List.isEmpty_nil,Bool.true_and]
    congr 1
    simp
  · rw [decide_eq_false hx,Bool.false_and]
    refine Um ?_
    rw [e]
    simp only [cF,List.map_cons,List.map_nil,List.sum_cons,List.sum_nil,gx]
    omega
theorem Zc {A:List At} {v w n1 n2 x1:Int} (h1:look A [v,1]=some ((n1,[(("x" : Str),x1)]),1)) (h2:look A [w,1]=some ((n2,[]),1)) (hx:x1≠0):Az U4 A [[v,1],[w,1]]=false:=by
  have e:([[v,1],[w,1]]:List (List Int)).filterMap (look A)=([((n1,[("x",x1)]),1),((n2,[]),1)]:List (Sm × Int)):=by
    simp only [List.filterMap_cons,h1,h2,List.filterMap_nil]
  refine Um ?_
  rw [e]
  simpa [cF,gx,gt] using hx
noncomputable def eiT (hi:Int):T:=.lst [.tup [.str "or",.tup [.tup [.str "most",.tup [.int (hi+1),.tup [.tup [.str "x",.int (-1)]]]],.tup [.str "most",.tup [.int 0,.tup []]]]]]
theorem a84:T.lst (([.any [fmT (fA (aL "x" (hi+1))),fmT (fA aZ)]]:List Fm).map fmT)=eiT hi:=by simp [eiT,fA,fmT,a2w,aL,aZ,smT,pT]
theorem U8 (h:OkB bs lo hi):jh [.lst (bs.map bdT),eiT hi,orP (gd (N2 bs)) (gd (N2 bs))] sto=some (.bl false,sto):=by
  rw [← a84]
  have hb:=Ae bs
  have hl:=h.len
  have c:=Zo (sto:=sto) (A:=(bounds bs).map atT++[]) (O:=[.tup [fmT (fA (aL "x" (hi+1))),fmT (fA aZ)]]) (f1:=fA (aL "x" (hi+1))) (f2:=fA aZ) (p:=gd (N2 bs)) (q:=gd (N2 bs)) (by rw [List.append_nil,List.length_map]; omega) rfl Cw Cw (by simp [fA,fsz]) (by simp [fA,fsz])
  have e1:∀ a:At,(bounds bs).map atT++[]++flA (fA a)=(As bs a []).map atT:=fun a=>by simp [flA,fA,As,atT]
  rw [e1,e1] at c
  have j1:J sto (nT bs) (.tup [.lst ((As bs (aL "x" (hi+1)) []).map atT),.lst ([.tup [fmT (fA (aL "x" (hi+1))),fmT (fA aZ)]]++flO (fA (aL "x" (hi+1))))]) (gd (N2 bs)) 2 true 1:=Y5 (xs:=[tag [.i 1,.i 1],tag [.i (N2 bs),.i 1]]) (Ut h Ig Iw.1) (Xk h b1) (by simp) (by decide) (Qg h)
  have j2:J sto (nT bs) (.tup [.lst ((As bs aZ []).map atT),.lst ([.tup [fmT (fA (aL "x" (hi+1))),fmT (fA aZ)]]++flO (fA aZ))]) (gd (N2 bs)) 2 false 1:=Y5 (xs:=[tag [.i 1,.i 1],tag [.i (N2 bs),.i 1]]) (Ut h Yj Iw.1) (Xk h b1) (by simp) (by decide) (Zc (lkF (k:=1) rfl (by decide) (at0 h).2.1) (lkF (k:=2 * bs.length) a2k (by decide) (at0 h).2.2) (by decide))
  exact V1 (n:=1+1+1) ⟨trivial,trivial⟩ (by simp [Fl,fsz]) (by omega) (.two (by decide) (pw_or c) j1 j2) (by decide)
noncomputable def sd (n:Int):T:=.tup [.str "sum",.tup [rwT [.i 0,.i 1],rwT [.i n,.i 1]]]
theorem a2i (h:OkB bs lo hi):jh [.lst (bs.map bdT),.lst [],Td (lo - 1) (sd (N2 bs)) (sd (N2 bs))] sto=some (.bl false,sto):=by
  have hb:=Ae bs
  have hl:=h.len
  have c:=a3l (sto:=sto) (ns:=bs.map (·.1)) (A:=(bounds bs).map atT++[]) (O:=[]) (k:=lo - 1) (p:=sd (N2 bs)) (q:=sd (N2 bs)) (a7g h) h.okS h.one (by rw [List.append_nil,List.length_map]; omega) (by simp)
  have e1:∀ a:At,(bounds bs).map atT++[]++[atT a]=(As bs a []).map atT:=fun a=>by simp [As]
  rw [e1,e1] at c
  have j1:J sto (nT bs) (.tup [.lst ((As bs (aM "x" (lo - 1)) []).map atT),.lst []]) (sd (N2 bs)) 2 true 1:=Y5 (xs:=[tag [.i 0,.i 1],tag [.i (N2 bs),.i 1]]) (Ut h Km Iw.1) (Xk h (by decide)) (by simp) (by decide) (by
    refine (X3 (lkF (k:=0) rfl (by decide) (at0 h).1) (lkF (k:=2 * bs.length) a2k (by decide) (at0 h).2.2)).trans ?_
    rw [decide_eq_true (by decide),decide_eq_true (by omega)]; rfl)
  have j2:J sto (nT bs) (.tup [.lst ((As bs (aL "x" (lo - 1+1)) []).map atT),.lst []]) (sd (N2 bs)) 2 false 1:=Y5 (xs:=[tag [.i 0,.i 1],tag [.i (N2 bs),.i 1]]) (Ut h Ig Iw.1) (Xk h (by decide)) (by simp) (by decide) (by
    refine (X3 (lkF (k:=0) rfl (by decide) (at0 h).1) (lkF (k:=2 * bs.length) a2k (by decide) (at0 h).2.2)).trans ?_
    rw [decide_eq_false (by decide)]; rfl)
  exact V1 (f:=[]) (n:=1+1+1) trivial (by simp [Fl]) (by omega) (.two (by decide) (pw_cut c) j1 j2) (by decide)
end
end K
end
noncomputable section
set_option linter.all false
set_option maxRecDepth 100000
set_option autoImplicit false
namespace K
open C PySem
noncomputable section
variable {cs:List Int} {sto:List SO} {bs:List Bd} {lo hi:Int}
noncomputable abbrev le (cs:List Int) (bs:List Bd) (hi:Int) (o6 o7 o8 o9 o10 o11 o12:Slot):List Slot:=[some (scr cs,false),some (.lst (bs.map bdT),false),some (.int (N2 bs),false),some (.int hi,false),some (fsT hi,false),some (gd (N2 bs),false),o6,o7,o8,o9,o10,o11,o12]
theorem a2d {e:M T} {s s1:Sta} {w:Bool} (h:e s=some (.bl w,s1)):fj (mOp xg e (aq (.bl w))) s=some (false,s1):=by
  cases w <;> exact Gk (yj h rfl rfl)
theorem Ku {c:M Bool} {a:S} {s s1:Sta} (h:c s=some (false,s1)):sIf c a jt s=some (.next,s1):=by
  rw [a6f h]; rfl
theorem Oz {o8 o9 o10 o11 o12:Slot} (h:OkB bs lo hi):∀ (l:List Int) (o6 o7:Slot),∃ p6 p7,forL (hName 6) lB1 (l.map T.int) ⟨le cs bs hi o6 o7 o8 o9 o10 o11 o12,sto⟩=some (.next,⟨le cs bs hi p6 p7 o8 o9 o10 o11 o12,sto⟩)
  | [],o6,o7=>⟨o6,o7,by simp [forL]⟩
  | c::l,o6,o7=>by
    obtain ⟨p6,p7,e⟩:=Oz (o8:=o8) (o9:=o9) (o10:=o10) (o11:=o11) (o12:=o12) h l (some (.int c,false)) (some (.int (c / 45),false))
    obtain ⟨p,hp,eb⟩:=Zr (sto:=sto) (n:=N2 bs) (c:=c)
    have a1:=Nb (sto:=sto) (c:=c / 45) h
    have a2:=Sy (sto:=sto) (c:=c / 45) h hp
    refine ⟨p6,p7,?_⟩
    let Z:Sta:=⟨le cs bs hi (some (.int c,false)) (some (.int (c / 45),false)) o8 o9 o10 o11 o12,sto⟩
    have w1:dz jz (ak (bw 5) (ak (bw 5) (ak (bw 7) dw))) Z=some (wi (c / 45) (gd (N2 bs)) (gd (N2 bs)),Z):=wk (ts:=[gd (N2 bs),gd (N2 bs),.int (c / 45)]) (s1:=Z) rfl Le
    have w2:dz sy (ak (bw 5) (ak (bw 2) (ak (bw 6) dw))) Z=some (p,Z):=wk (ts:=[gd (N2 bs),.int (N2 bs),.int c]) (s1:=Z) rfl eb
    have w3:dz jz (ak (dz sy (ak (bw 5) (ak (bw 2) (ak (bw 6) dw)))) (ak (bw 5) (ak (bw 7) dw))) Z=some (wi (c / 45) p (gd (N2 bs)),Z):=wk (ts:=[p,gd (N2 bs),.int (c / 45)]) (s1:=Z) (lu (s1:=Z) w2 rfl) Le
    have l1:dz jh (ak (bw 1) (ak (bw 4) (ak (dz jz (ak (bw 5) (ak (bw 5) (ak (bw 7) dw)))) dw))) Z=some (.bl true,Z):=wk (ts:=[.lst (bs.map bdT),fsT hi,wi (c / 45) (gd (N2 bs)) (gd (N2 bs))]) (s1:=Z) (lu (s1:=Z) rfl (lu (s1:=Z) rfl (lu (s1:=Z) w1 rfl))) a1
    have l2:dz jh (ak (bw 1) (ak (bw 4) (ak (dz jz (ak (dz sy (ak (bw 5) (ak (bw 2) (ak (bw 6) dw)))) (ak (bw 5) (ak (bw 7) dw)))) dw))) Z=some (.bl false,Z):=wk (ts:=[.lst (bs.map bdT),fsT hi,wi (c / 45) p (gd (N2 bs))]) (s1:=Z) (lu (s1:=Z) rfl (lu (s1:=Z) rfl (lu (s1:=Z) w3 rfl))) a2
    have st:lB1 ⟨le cs bs hi (some (.int c,false)) o7 o8 o9 o10 o11 o12,sto⟩=some (.next,Z):=by
      unfold lB1
      rw [j4 (s':=Z) rfl]
      rw [j4 (Ku (a2d l1))]
      exact Ku (a2d l2)
    rw [List.map_cons,forL]
    dsimp only [hName,cg,List.set_cons_succ,List.set_cons_zero]
    rw [st]
    exact e
theorem Ys:Tg [scr cs] sto=some (.bl true,sto):=by
  have c4:=W3 (cs:=cs) (k:=4) (i:=4) (sto:=sto) rfl
  obtain ⟨bs,lo,hi,h,er⟩:=Xe (cs:=cs) (sto:=sto)
  have hl:=h.len
  rw [a4t]
  unfold iy
  rw [show ([scr cs].map (fun t=>some (t,false))++List.replicate (13 - [scr cs].length) none:List Slot)=[some (scr cs,false),none,none,none,none,none,none,none,none,none,none,none,none] from rfl]
  rw [j4 (s':=⟨[some (scr cs,false),some (.lst (bs.map bdT),false),none,none,none,none,none,none,none,none,none,none,none],sto⟩) (Ht (wk (lu rfl rfl) er) rfl)]
  rw [j4 (s':=⟨[some (scr cs,false),some (.lst (bs.map bdT),false),some (.int (N2 bs),false),none,none,none,none,none,none,none,none,none,none],sto⟩) (Ht (yj (f:=Ms) (y:=.int (bs.length:Int)) rfl (Hf (lu rfl rfl) (by simp [m9])) (by simp [Ms,b2])) rfl)]
  obtain ⟨bs',ebs⟩:=h.hd
  have i0:iw (.lst (bs.map bdT)) (.int 0)=some (bdT ("x",lo,hi)):=by
    rw [ebs]
    exact Ju (k:=0) rfl
  rw [j4 (s':=⟨[some (scr cs,false),some (.lst (bs.map bdT),false),some (.int (N2 bs),false),some (.int hi,false),none,none,none,none,none,none,none,none,none],sto⟩) (Ht (yj (yj rfl rfl i0) rfl rfl) rfl)]
  rw [j4 (s':=⟨[some (scr cs,false),some (.lst (bs.map bdT),false),some (.int (N2 bs),false),some (.int hi,false),some (fsT hi,false),none,none,none,none,none,none,none,none],sto⟩) rfl]
  rw [j4 (s':=⟨le cs bs hi none none none none none none none,sto⟩) rfl]
  obtain ⟨ds,ed⟩:∃ ds:List Int,a03 (cs.map T.int) (some 4) (some 63)=ds.map T.int:=⟨_,by unfold a03; rw [← List.map_drop,← List.map_take]⟩
  have dl:ds.length<lim:=by
    have e1:(a03 (cs.map T.int) (some 4) (some 63)).length≤63:=by
      unfold a03
      refine Nat.le_trans (List.length_take_le _ _) ?_
      simp only [sIx]
      rw [if_neg (by decide),if_neg (by decide)]
      omega
    rw [ed,List.length_map] at e1
    show _<1000000
    omega
  have i3:jw (Dh (bw 0) (Fv (aq (.int 4))) (Fv (aq (.int 63)))) ⟨le cs bs hi none none none none none none none,sto⟩=some (ds.map T.int,⟨le cs bs hi none none none none none none none,sto⟩):=by
    have e:Dh (bw 0) (Fv (aq (.int 4))) (Fv (aq (.int 63))) ⟨le cs bs hi none none none none none none none,sto⟩=some (.lst (ds.map T.int),⟨le cs bs hi none none none none none none none,sto⟩):=by rw [← ed]; rfl
    unfold jw
    rw [e]
    simp [dl]
  obtain ⟨p6,p7,l1⟩:=Oz (cs:=cs) (sto:=sto) (o8:=none) (o9:=none) (o10:=none) (o11:=none) (o12:=none) h ds none none
  rw [K5 i3 l1]
  generalize hF:forL (hName 6) lB2 (rangeT 45) ⟨le cs bs hi p6 p7 none none none none none,sto⟩=res
  obtain ⟨s',rfl,q6,rfl⟩:=forR hF (fun _ s=>∃ q6:Slot,s=⟨le cs bs hi q6 p7 none none none none none,sto⟩) ⟨p6,rfl⟩ (by
    rintro k s hk ⟨q6,rfl⟩
    obtain ⟨p,hp,eb⟩:=Zr (sto:=sto) (n:=N2 bs) (c:=(k:Int))
    have a:=Xp (sto:=sto) h hp
    refine ⟨⟨le cs bs hi (some (.int (k:Int),false)) p7 none none none none none,sto⟩,⟨le cs bs hi (some (.int (k:Int),false)) p7 none none none none none,sto⟩,rfl,?_,_,rfl⟩
    let Z:Sta:=⟨le cs bs hi (some (.int (k:Int),false)) p7 none none none none none,sto⟩
    have w2:dz sy (ak (bw 5) (ak (bw 2) (ak (bw 6) dw))) Z=some (p,Z):=wk (ts:=[gd (N2 bs),.int (N2 bs),.int (k:Int)]) (s1:=Z) rfl eb
    have l2:dz jh (ak (bw 1) (ak (bw 4) (ak (dz sy (ak (bw 5) (ak (bw 2) (ak (bw 6) dw)))) dw))) Z=some (.bl false,Z):=wk (ts:=[.lst (bs.map bdT),fsT hi,p]) (s1:=Z) (lu (s1:=Z) rfl (lu (s1:=Z) rfl (lu (s1:=Z) w2 rfl))) a
    exact Ku (a2d l2))
  rw [K5 (s1:=⟨le cs bs hi p6 p7 none none none none none,sto⟩) rfl hF]
  rw [j4 (s':=⟨le cs bs hi q6 p7 (some (gd (N2 bs),false)) none none none none,sto⟩) rfl]
  rw [j4 (s':=⟨le cs bs hi q6 p7 (some (gd (N2 bs),false)) (some (eiT hi,false)) none none none,sto⟩) rfl]
  have en:=U8 (sto:=sto) h
  let Z1:Sta:=⟨le cs bs hi q6 p7 (some (gd (N2 bs),false)) (some (eiT hi,false)) none none none,sto⟩
  have l5:dz jh (ak (bw 1) (ak (bw 9) (ak (gn (fun l=>some (.tup l)) (ak (aq (.str "or")) (ak (aq (.int 0)) (ak (gn (fun l=>some (.tup l)) (ak (bw 8) (ak (bw 8) dw))) dw)))) dw))) Z1=some (.bl false,Z1):=wk (ts:=[.lst (bs.map bdT),eiT hi,orP (gd (N2 bs)) (gd (N2 bs))]) (s1:=Z1) rfl en
  rw [j4 (Ku (a2d l5))]
  rw [j4 (s':=⟨le cs bs hi q6 p7 (some (gd (N2 bs),false)) (some (eiT hi,false)) (some (sd (N2 bs),false)) none none,sto⟩) rfl]
  have sn:=a2i (sto:=sto) h
  let Z2:Sta:=⟨le cs bs hi q6 p7 (some (gd (N2 bs),false)) (some (eiT hi,false)) (some (sd (N2 bs),false)) none none,sto⟩
  have lw:mOp qb (mOp iw (mOp iw (bw 1) (aq (.int 0))) (aq (.int 1))) (aq (.int 1)) Z2=some (.int (lo - 1),Z2):=yj (s1:=Z2) (yj (s1:=Z2) (yj (s1:=Z2) rfl rfl i0) (s2:=Z2) rfl (z:=.int lo) rfl) (s2:=Z2) rfl rfl
  have l6:dz jh (ak (bw 1) (ak (gn (fun l=>some (.lst l)) dw) (ak (gn (fun l=>some (.tup l)) (ak (aq (.str "cut")) (ak (aq (.str "x")) (ak (mOp qb (mOp iw (mOp iw (bw 1) (aq (.int 0))) (aq (.int 1))) (aq (.int 1))) (ak (bw 10) (ak (bw 10) dw)))))) dw))) Z2=some (.bl false,Z2):=wk (ts:=[.lst (bs.map bdT),.lst [],Td (lo - 1) (sd (N2 bs)) (sd (N2 bs))]) (s1:=Z2) (lu (s1:=Z2) rfl (lu (s1:=Z2) rfl (lu (s1:=Z2) (Hf (lu (s1:=Z2) rfl (lu (s1:=Z2) rfl (lu (s1:=Z2) lw rfl))) rfl) rfl))) sn
  rw [j4 (Ku (a2d l6))]
  have g0:=Int.emod_nonneg (cell cs 4) (b:=90) (by decide)
  have g1:=Int.emod_lt_of_pos (cell cs 4) (b:=90) (by decide)
  have f0:=Int.emod_nonneg (cell cs 4 / 90) (b:=9) (by decide)
  have f1:=Int.emod_lt_of_pos (cell cs 4 / 90) (b:=9) (by decide)
  obtain ⟨c1,e1⟩:∃ c:Nat,cell cs 4%90=(c:Int):=⟨(cell cs 4%90).toNat,by omega⟩
  obtain ⟨c2,e2⟩:∃ c:Nat,90+cell cs 4 / 90%9=(c:Int):=⟨(90+cell cs 4 / 90%9).toNat,by omega⟩
  rw [j4 (s':=⟨le cs bs hi q6 p7 (some (gd (N2 bs),false)) (some (eiT hi,false)) (some (sd (N2 bs),false)) (some (.int (c1:Int),false)) none,sto⟩) (Ht (t:=.int (c1:Int)) (yj (f:=jy) (wk (lu rfl (lu rfl rfl)) c4) rfl (by rw [← e1]; rfl)) rfl)]
  rw [j4 (s':=⟨le cs bs hi q6 p7 (some (gd (N2 bs),false)) (some (eiT hi,false)) (some (sd (N2 bs),false)) (some (.int (c1:Int),false)) (some (.int (c2:Int),false)),sto⟩) (Ht (t:=.int (c2:Int)) (yj (f:=ju) (y:=.int (cell cs 4 / 90%9)) rfl (yj (f:=jy) (x:=.int (cell cs 4 / 90)) (yj (f:=j8) (wk (lu rfl (lu rfl rfl)) c4) rfl rfl) rfl rfl) (by rw [← e2]; rfl)) rfl)]
  let Z:Sta:=⟨le cs bs hi q6 p7 (some (gd (N2 bs),false)) (some (eiT hi,false)) (some (sd (N2 bs),false)) (some (.int (c1:Int),false)) (some (.int (c2:Int),false)),sto⟩
  have dd:∀ {c:Nat} {e:M T} (b:Bool),c<100→decide (1+c≤90)=b→e Z=some (.int (c:Int),Z)→(dz jh (ak (bw 1) (ak (bw 4) (ak (dz m5 (ak (bw 5) (ak e dw))) dw)))) Z=some (.bl b,Z):=fun {c e} b hc hb he=>by
    have l:=Yk (sto:=sto) h hc
    rw [hb] at l
    exact wk (lu rfl (lu rfl (lu (wk (lu rfl (lu he rfl)) (a1j hc)) rfl))) l
  have d1:=dd (c:=c1) (e:=bw 11) true (by omega) (decide_eq_true (by omega)) rfl
  have d2:=dd (c:=89) (e:=aq (.int 89)) true (by omega) (decide_eq_true (by omega)) rfl
  have d3:=dd (c:=90) (e:=aq (.int 90)) false (by omega) (decide_eq_false (by omega)) rfl
  have d4:=dd (c:=c2) (e:=bw 12) false (by omega) (decide_eq_false (by omega)) rfl
  have i6:(sIf (mOr (fj (mOp xg (dz jh (ak (bw 1) (ak (bw 4) (ak (dz m5 (ak (bw 5) (ak (bw 11) dw))) dw)))) (aq (.bl true)))) (fj (mOp xg (dz jh (ak (bw 1) (ak (bw 4) (ak (dz m5 (ak (bw 5) (ak (aq (.int 89)) dw))) dw)))) (aq (.bl true)))))
  (jl (aq (.bl false)))
  jt) Z=some (.next,Z):=by
    have o:(mOr (fj (mOp xg (dz jh (ak (bw 1) (ak (bw 4) (ak (dz m5 (ak (bw 5) (ak (bw 11) dw))) dw)))) (aq (.bl true)))) (fj (mOp xg (dz jh (ak (bw 1) (ak (bw 4) (ak (dz m5 (ak (bw 5) (ak (aq (.int 89)) dw))) dw)))) (aq (.bl true))))) Z=some (false,Z):=by
      unfold mOr
      rw [a2d d1]
      dsimp only
      rw [a2d d2]
    rw [a6f o]
    rfl
  rw [j4 i6]
  have a1:fj (mOp isC (dz jh (ak (bw 1) (ak (bw 4) (ak (dz m5 (ak (bw 5) (ak (aq (.int 90)) dw))) dw)))) (aq (.bl false))) Z=some (true,Z):=Gk (yj d3 rfl rfl)
  have a2:fj (mOp isC (dz jh (ak (bw 1) (ak (bw 4) (ak (dz m5 (ak (bw 5) (ak (bw 12) dw))) dw)))) (aq (.bl false))) Z=some (true,Z):=Gk (yj d4 rfl rfl)
  unfold jl iz kj
  rw [a1]
  dsimp only
  rw [a2]
end
end K
end
noncomputable section
set_option linter.all false
set_option maxRecDepth 100000
set_option maxHeartbeats 8000000
namespace D
open PySem L2 C
noncomputable def top (i:Nat):Stmt:=PySem.Challenge.pw_calm_k49_what_is_no_paper.main.body.getD i (.Pass ⟨0,0,0,0⟩)
noncomputable section
variable {P:Program} {w:World} {K:PySem.W.Frag} {mg:Str→Option Value} {base:Heap} {f:Addr} {fd:FuncData}
noncomputable abbrev Bv:Stmt:=top 1
theorem Kp:mj ["number","pairs","times","box","many","parts"] ["number","pairs"] (gw Bv):=⟨rfl,rfl,rfl,by decide +kernel,rfl,by decide +kernel,by decide +kernel⟩
theorem Ud (F:Fun K "sum_of" "sum_of" Bv f fd) (b_sorted:mg "sorted" = none) (b_tuple:mg "tuple" = none):Ad P w K mg base CX0 1 f fd ["number","pairs"] (spF K (["number","pairs"]:List Str).length _root_.K.zx):=by
  refine qe (N:=["number","pairs","times","box","many","parts"]) F Kp (by decide)  fun cdv A outer s H E B hr=>?_
  have hu:=yh hr
  have hq:=hr.units
  have nd:(["number","pairs","times","box","many","parts"]:List Str).Nodup:=Kp.nd
  refine ig ?_ ?_
  · exact Fd 2 (kh nd rfl (Or.inr rfl) a0c) (fun _ _ _ h=>h)
  · refine ig ?_ ?_
    · refine Gw ?_ ?_ ?_ ?_ ?_ ?_
      · exact PassesOwn.never
      · exact rfl
      · exact Am (au 1 (pv 1))
      · exact Gi (is:=[3,4]) (Hh rfl (uh (n8 nd rfl (Or.inl rfl)) (uh (n8 nd rfl (Or.inl rfl)) Dl)))
      · exact jg (W0 2 hu (pv 2) (au 3 (pv 3)) (qm su (Vm 2 hu (pv 2) (au 3 (pv 3)) dh ⟨rfl,rfl,rfl,rfl⟩) (au 4 (pv 4))) rfl)
      · exact Ag
    · refine ig ?_ ?_
      · exact mq 5 (N7 (N:=["box","times"]) ⟨rfl,rfl,by decide +kernel,by decide +kernel⟩ rfl (Am (ou (qy (Li (by rfl)) (by rfl) b_sorted PyProof.Rows.boot_sorted (aj (au 2 (pv 2)) bf)))) (fun C s₀ H₀ ex pn=>pgE fun B=>(Ab 0 (n8 (show (["box","times"]:List Str).Nodup by decide +kernel) rfl (Or.inl rfl)))) (fun C s₀ H₀ ex pn=>(Px fun B=>(uo (Iv hq) (jo hu (au 1 (pv 1)) (au 0 (pv 0)) (fun _ _=>rfl)) dh (nj _)))) (fun C s₀ H₀ ex pn=>peE fun B=>(gq (aj (au 0 (pv 0)) (aj (jo hu (au 1 (pv 1)) (au 0 (pv 0)) (fun _ _=>rfl)) bf)) (gb (ao (ao bx)) (by decide)))) (n8 nd rfl (Or.inl rfl)) rfl) (fun σ H Q h=>Pg ⟨rfl,fun j k h=>match j,h with | 0,h=>(by cases h; exact ⟨_,rfl,rfl,⟨.inl rfl,.inr (.inl rfl),.inl rfl⟩⟩) | _+1,h=>(by cases h)⟩ Ag (Q9 h))
      · exact jg (jr (gq (aj (au 0 (pv 0)) (aj (ou (xu Dm (by rfl) b_tuple PyProof.Rows.boot_tuple (aj (au 5 (pv 5)) bf))) bf)) (gb (ao (ao bx)) (by decide))))
theorem Vf (F:Fun K "sum_of" "sum_of" Bv f fd) (hmg:mg "sum_of" = some (.ref f)) (b_sorted:mg "sorted" = none) (b_tuple:mg "tuple" = none):je P w K mg base "sum_of" 1 ["number","pairs"] _root_.K.zx :=
  ⟨f,fd,Ud F b_sorted b_tuple,F.binds (ps:=["number","pairs"]) fun _ _ _ _ _ _ us hl=>bd2 (fun _ _=>rfl) us hl,F.kp,hmg⟩
noncomputable abbrev Gg:Stmt:=top 2
theorem Wg:mj ["one","other"] ["one","other"] (gw Gg):=⟨rfl,rfl,rfl,by decide +kernel,rfl,by decide +kernel,by decide +kernel⟩
theorem a0f (F:Fun K "plus" "plus" Gg f fd) (d_sum_of:je P w K mg base "sum_of" 1 ["number","pairs"] (_root_.K.zx)):Ad P w K mg base CX0 2 f fd ["one","other"] (spF K (["one","other"]:List Str).length _root_.K.M6):=by
  have d_sum_of:=d_sum_of.mono (show 1≤1 by first | decide | omega)
  refine qe (N:=["one","other"]) F Wg (by decide)  fun cdv A outer s H E B hr=>?_
  have hu:=yh hr
  have hq:=hr.units
  have nd:(["one","other"]:List Str).Nodup:=Wg.nd
  refine jg ?_
  · refine jr ?_
    · refine iu d_sum_of ?_ ?_ ?_ ?_
      · exact hr
      · exact by rfl
      · exact aj (qm su (jo hu (au 0 (pv 0)) dh (fun _ _=>rfl)) (jo hu (au 1 (pv 1)) dh (fun _ _=>rfl))) (aj (qm su (jo hu (au 0 (pv 0)) dh (fun _ _=>rfl)) (jo hu (au 1 (pv 1)) dh (fun _ _=>rfl))) bf)
      · exact cu (cu eq_nil)
theorem a05 (F:Fun K "plus" "plus" Gg f fd) (hmg:mg "plus" = some (.ref f)) (d_sum_of:je P w K mg base "sum_of" 1 ["number","pairs"] (_root_.K.zx)):je P w K mg base "plus" 2 ["one","other"] _root_.K.M6 :=
  ⟨f,fd,a0f F d_sum_of,F.binds (ps:=["one","other"]) fun _ _ _ _ _ _ us hl=>bd2 (fun _ _=>rfl) us hl,F.kp,hmg⟩
noncomputable abbrev Ah:Stmt:=top 9
theorem J9:mj ["lists","forms","atoms","ors","waiting","form"] ["lists","forms"] (gw Ah):=⟨rfl,rfl,rfl,by decide +kernel,rfl,by decide +kernel,by decide +kernel⟩
theorem S7 (F:Fun K "laid_in" "laid_in" Ah f fd) (b_len:mg "len" = none) (b_list:mg "list" = none):Ad P w K mg base CX0 1 f fd ["lists","forms"] (spF K (["lists","forms"]:List Str).length _root_.K.tu):=by
  refine qe (N:=["lists","forms","atoms","ors","waiting","form"]) F J9 (by decide)  fun cdv A outer s H E B hr=>?_
  have hu:=yh hr
  have hq:=hr.units
  have nd:(["lists","forms","atoms","ors","waiting","form"]:List Str).Nodup:=J9.nd
  refine ig ?_ ?_
  · exact Fd 2 (kh nd rfl (Or.inl rfl) (Wy (by rfl) b_list (jo hu (au 0 (pv 0)) dh (fun _ _=>rfl)))) (fun _ _ _ h=>h)
  · refine ig ?_ ?_
    · exact Fd 3 (kh nd rfl (Or.inl rfl) (Wy (by rfl) b_list (jo hu (au 0 (pv 0)) dh (fun _ _=>rfl)))) (fun _ _ _ h=>h)
    · refine ig ?_ ?_
      · exact Fd 4 (kh nd rfl (Or.inl rfl) (a1i (ou (xu J6 (by rfl) b_list PyProof.Rows.boot_list (aj (au 1 (pv 1)) bf))))) (fun _ _ _ h=>h)
      · refine ig ?_ ?_
        · refine Qm _ ?_ ?_ ?_
          · exact PassesOwn.never
          · exact uo Qv (Lf 4 b_len rfl (pv 4)) dh (nj _)
          · refine ig ?_ ?_
            · exact Zz 4 5 (Zq (Zh PySem.F.plainAttrs_list PySem.F.slot_list_pop PySem.F.type_list_pop Zn (pv 4)) (n8 nd rfl (Or.inl rfl)))
            · refine jg ?_
              · refine yp ?_ ?_ ?_
                · exact uo (yr hq) (jo hu (au 5 (pv 5)) dh (fun _ _=>rfl)) j7 (nj _)
                · exact jg (Gx 4 (Cm (Lw PySem.F.plainAttrs_list PySem.F.slot_list_extend PySem.F.type_list_extend Er (pv 4) (wj (Vh (jo hu (au 5 (pv 5)) dh (fun _ _=>rfl))) Aw))))
                · refine jg ?_
                  · refine yp ?_ ?_ ?_
                    · exact uo (yr hq) (jo hu (au 5 (pv 5)) dh (fun _ _=>rfl)) j7 (nj _)
                    · exact jg (Cg 3 (Cm (Lw PySem.F.plainAttrs_list PySem.F.slot_list_append PySem.F.type_list_append Bc (pv 3) (wj (jo hu (au 5 (pv 5)) dh (fun _ _=>rfl)) Aw))))
                    · exact jg (Cg 2 (Cm (Lw PySem.F.plainAttrs_list PySem.F.slot_list_append PySem.F.type_list_append Bc (pv 2) (wj (au 5 (pv 5)) Aw))))
        · exact jg (jr (gq (aj (au 2 (pv 2)) (aj (au 3 (pv 3)) bf)) (gb (ao (ao bx)) (by decide))))
theorem Ry (F:Fun K "laid_in" "laid_in" Ah f fd) (hmg:mg "laid_in" = some (.ref f)) (b_len:mg "len" = none) (b_list:mg "list" = none):je P w K mg base "laid_in" 1 ["lists","forms"] _root_.K.tu :=
  ⟨f,fd,S7 F b_len b_list,F.binds (ps:=["lists","forms"]) fun _ _ _ _ _ _ us hl=>bd2 (fun _ _=>rfl) us hl,F.kp,hmg⟩
noncomputable abbrev v7:Stmt:=top 11
theorem Df:mj ["thing"] ["thing"] (gw v7):=⟨rfl,rfl,rfl,by decide +kernel,rfl,by decide +kernel,by decide +kernel⟩
theorem Ij (F:Fun K "plain_tuple" "plain_tuple" v7 f fd) (b_isinstance:mg "isinstance" = none) (b_tuple:mg "tuple" = none):Ad P w K mg base CX0 1 f fd ["thing"] (spF K (["thing"]:List Str).length _root_.K.jj):=by
  refine qe (N:=["thing"]) F Df (by decide)  fun cdv A outer s H E B hr=>?_
  have hu:=yh hr
  have hq:=hr.units
  have nd:(["thing"]:List Str).Nodup:=Df.nd
  exact jg (jr (Q7 (yt (Ey (by rfl) b_isinstance (by rfl) b_tuple (au 0 (pv 0)))) (ou (xu Dm (by rfl) b_tuple PyProof.Rows.boot_tuple (aj (au 0 (pv 0)) bf))) (gq bf (gb bx (by decide)))))
theorem Ih (F:Fun K "plain_tuple" "plain_tuple" v7 f fd) (hmg:mg "plain_tuple" = some (.ref f)) (b_isinstance:mg "isinstance" = none) (b_tuple:mg "tuple" = none):je P w K mg base "plain_tuple" 1 ["thing"] _root_.K.jj :=
  ⟨f,fd,Ij F b_isinstance b_tuple,F.binds (ps:=["thing"]) fun _ _ _ _ _ _ us hl=>bd1 (fun _=>rfl) us hl,F.kp,hmg⟩
noncomputable abbrev Al:Stmt:=top 15
theorem J2:mj ["parts","kind","length"] ["parts","kind","length"] (gw Al):=⟨rfl,rfl,rfl,by decide +kernel,rfl,by decide +kernel,by decide +kernel⟩
theorem Rn (F:Fun K "is_kind" "is_kind" Al f fd) (b_isinstance:mg "isinstance" = none) (b_len:mg "len" = none) (b_str:mg "str" = none):Ad P w K mg base CX0 1 f fd ["parts","kind","length"] (spF K (["parts","kind","length"]:List Str).length _root_.K.jf):=by
  refine qe (N:=["parts","kind","length"]) F J2 (by decide)  fun cdv A outer s H E B hr=>?_
  have hu:=yh hr
  have hq:=hr.units
  have nd:(["parts","kind","length"]:List Str).Nodup:=J2.nd
  refine jg ?_
  · refine jr ?_
    · refine Ba ?_ ?_
      · exact Aa (yr hq) (ou (qy wz (by rfl) b_len PySem.boot_len (aj (au 0 (pv 0)) bf))) (au 2 (pv 2)) (nj _)
      · exact Ba (Jf (by rfl) b_isinstance (by rfl) b_str (jo hu (au 0 (pv 0)) dh (fun _ _=>rfl))) (Dk (Aa (yr hq) (jo hu (au 0 (pv 0)) dh (fun _ _=>rfl)) (au 1 (pv 1)) (nj _)))
theorem Rh (F:Fun K "is_kind" "is_kind" Al f fd) (hmg:mg "is_kind" = some (.ref f)) (b_isinstance:mg "isinstance" = none) (b_len:mg "len" = none) (b_str:mg "str" = none):je P w K mg base "is_kind" 1 ["parts","kind","length"] _root_.K.jf :=
  ⟨f,fd,Rn F b_isinstance b_len b_str,F.binds (ps:=["parts","kind","length"]) fun _ _ _ _ _ _ us hl=>bd3 (fun _ _ _=>rfl) us hl,F.kp,hmg⟩
noncomputable abbrev zc:Stmt:=top 14
theorem Gy:mj ["thing"] ["thing"] (gw zc):=⟨rfl,rfl,rfl,by decide +kernel,rfl,by decide +kernel,by decide +kernel⟩
theorem O9 (F:Fun K "is_whole" "is_whole" zc f fd) (b_bool:mg "bool" = none) (b_int:mg "int" = none) (b_isinstance:mg "isinstance" = none):Ad P w K mg base CX0 1 f fd ["thing"] (spF K (["thing"]:List Str).length _root_.K.nu):=by
  refine qe (N:=["thing"]) F Gy (by decide)  fun cdv A outer s H E B hr=>?_
  have hu:=yh hr
  have hq:=hr.units
  have nd:(["thing"]:List Str).Nodup:=Gy.nd
  exact jg (jr (Ba (Rb (by rfl) b_isinstance (by rfl) b_int (au 0 (pv 0))) (Dk (a3g (O8 (by rfl) b_isinstance (by rfl) b_bool (au 0 (pv 0)))))))
theorem Ol (F:Fun K "is_whole" "is_whole" zc f fd) (hmg:mg "is_whole" = some (.ref f)) (b_bool:mg "bool" = none) (b_int:mg "int" = none) (b_isinstance:mg "isinstance" = none):je P w K mg base "is_whole" 1 ["thing"] _root_.K.nu :=
  ⟨f,fd,O9 F b_bool b_int b_isinstance,F.binds (ps:=["thing"]) fun _ _ _ _ _ _ us hl=>bd1 (fun _=>rfl) us hl,F.kp,hmg⟩
noncomputable abbrev yu:Stmt:=top 16
theorem Gb:mj ["number","places"] ["number","places"] (gw yu):=⟨rfl,rfl,rfl,by decide +kernel,rfl,by decide +kernel,by decide +kernel⟩
theorem Mu (F:Fun K "is_place" "is_place" yu f fd) (b_len:mg "len" = none):Ad P w K mg base CX0 1 f fd ["number","places"] (spF K (["number","places"]:List Str).length _root_.K.qg):=by
  refine qe (N:=["number","places"]) F Gb (by decide)  fun cdv A outer s H E B hr=>?_
  have hu:=yh hr
  have hq:=hr.units
  have nd:(["number","places"]:List Str).Nodup:=Gb.nd
  exact jg (jr (Ba (Aa Zf dh (au 0 (pv 0)) (nj _)) (Dk (Aa Qd (au 0 (pv 0)) (ou (qy wz (by rfl) b_len PySem.boot_len (aj (au 1 (pv 1)) bf))) (nj _)))))
theorem Oh (F:Fun K "is_place" "is_place" yu f fd) (hmg:mg "is_place" = some (.ref f)) (b_len:mg "len" = none):je P w K mg base "is_place" 1 ["number","places"] _root_.K.qg :=
  ⟨f,fd,Mu F b_len,F.binds (ps:=["number","places"]) fun _ _ _ _ _ _ us hl=>bd2 (fun _ _=>rfl) us hl,F.kp,hmg⟩
noncomputable abbrev uc:Stmt:=top 17
theorem Cq:mj ["lists","number","papers","members","inner"] ["lists","number","papers"] (gw uc):=⟨rfl,rfl,rfl,by decide +kernel,rfl,by decide +kernel,by decide +kernel⟩
theorem Ia (F:Fun K "papers_of_or" "papers_of_or" uc f fd) (d_is_place:je P w K mg base "is_place" 1 ["number","places"] (_root_.K.qg)) (d_laid_in:je P w K mg base "laid_in" 1 ["lists","forms"] (_root_.K.tu)) (d_plain_tuple:je P w K mg base "plain_tuple" 1 ["thing"] (_root_.K.jj)) (b_isinstance:mg "isinstance" = none) (b_len:mg "len" = none) (b_tuple:mg "tuple" = none) (b_zip:mg "zip" = none):Ad P w K mg base CX0 2 f fd ["lists","number","papers"] (spF K (["lists","number","papers"]:List Str).length _root_.K.jq):=by
  have d_is_place:=d_is_place.mono (show 1≤1 by first | decide | omega)
  have d_laid_in:=d_laid_in.mono (show 1≤1 by first | decide | omega)
  have d_plain_tuple:=d_plain_tuple.mono (show 1≤1 by first | decide | omega)
  refine qe (N:=["lists","number","papers","members","inner"]) F Cq (by decide)  fun cdv A outer s H E B hr=>?_
  have hu:=yh hr
  have hq:=hr.units
  have nd:(["lists","number","papers","members","inner"]:List Str).Nodup:=Cq.nd
  refine ig ?_ ?_
  · refine yp ?_ ?_ ?_
    · exact PW.pt (Yv (Jd (yt (iu d_is_place hr (by rfl) (aj (au 1 (pv 1)) (aj (jo hu (au 0 (pv 0)) dh (fun _ _=>rfl)) bf)) (cu (cu eq_nil))))) (Q5 (Jd (yt (Ey (by rfl) b_isinstance (by rfl) b_tuple (au 2 (pv 2)))))))
    · exact jg (jr Dv)
    · exact v8
  · refine ig ?_ ?_
    · exact mq 3 (kh nd rfl (Or.inl rfl) (jo hu (jo hu (au 0 (pv 0)) dh (fun _ _=>rfl)) (au 1 (pv 1)) (fun _ _=>rfl))) (fun _ _ _ h=>h)
    · refine ig ?_ ?_
      · exact mq 4 (kh nd rfl (Or.inl rfl) (iu d_plain_tuple hr (by rfl) (aj (au 2 (pv 2)) bf) (cu eq_nil))) (fun _ _ _ h=>h)
      · refine ig ?_ ?_
        · exact yp (uo (Iv hq) (ou (qy wz (by rfl) b_len PySem.boot_len (aj (au 4 (pv 4)) bf))) (ou (qy wz (by rfl) b_len PySem.boot_len (aj (au 3 (pv 3)) bf))) (nj _))   (jg (jr Dv))   v8
        · refine jg ?_
          · refine jr ?_
            · refine zu ?_
              · refine Bp (N:=["member","one","lists"]) ?_ ?_ ?_ ?_ ?_ ?_ ?_ ?_
                · exact ⟨rfl,fun j k h=>match j,h with | 0,h=>(by cases h; exact ⟨_,rfl,rfl,⟨.inl rfl,.inr (.inl rfl),.inl rfl⟩⟩) | _+1,h=>(by cases h)⟩
                · exact ⟨rfl,rfl,by decide +kernel,by decide +kernel⟩
                · exact rfl
                · exact a6a (by rfl) b_zip (au 3 (pv 3)) (au 4 (pv 4))
                · exact a3c
                · exact fun C s₀ H₀ ex pn=>pgE fun B=>(Gi (is:=[0,1]) (Hh rfl (uh (n8 (show (["member","one","lists"]:List Str).Nodup by decide +kernel) rfl (Or.inl rfl)) (uh (n8 (show (["member","one","lists"]:List Str).Nodup by decide +kernel) rfl (Or.inl rfl)) Dl))))
                · exact fun C s₀ H₀ ex pn=>zq
                · intro C s₀ H₀ ex pn
                  refine peE ?_
                  intro B
                  exact gq (aj (iu d_laid_in hr (by rfl) (aj (au 2 (pv 2)) (aj (ug (aj (au 0 (pv 0)) bf) (gb (ao bx) (by decide))) bf)) (cu (cu eq_nil))) (aj (au 1 (pv 1)) bf)) (gb (ao (ao bx)) (by decide))
theorem Ga (F:Fun K "papers_of_or" "papers_of_or" uc f fd) (hmg:mg "papers_of_or" = some (.ref f)) (d_is_place:je P w K mg base "is_place" 1 ["number","places"] (_root_.K.qg)) (d_laid_in:je P w K mg base "laid_in" 1 ["lists","forms"] (_root_.K.tu)) (d_plain_tuple:je P w K mg base "plain_tuple" 1 ["thing"] (_root_.K.jj)) (b_isinstance:mg "isinstance" = none) (b_len:mg "len" = none) (b_tuple:mg "tuple" = none) (b_zip:mg "zip" = none):je P w K mg base "papers_of_or" 2 ["lists","number","papers"] _root_.K.jq :=
  ⟨f,fd,Ia F d_is_place d_laid_in d_plain_tuple b_isinstance b_len b_tuple b_zip,F.binds (ps:=["lists","number","papers"]) fun _ _ _ _ _ _ us hl=>bd3 (fun _ _ _=>rfl) us hl,F.kp,hmg⟩
noncomputable abbrev Ao:Stmt:=top 7
theorem Jc:mj ["box","number"] ["box","number"] (gw Ao):=⟨rfl,rfl,rfl,by decide +kernel,rfl,by decide +kernel,by decide +kernel⟩
theorem Rq (F:Fun K "at_most" "at_most" Ao f fd):Ad P w K mg base CX0 1 f fd ["box","number"] (spF K (["box","number"]:List Str).length _root_.K.yc):=by
  refine qe (N:=["box","number"]) F Jc (by decide)  fun cdv A outer s H E B hr=>?_
  have hu:=yh hr
  have hq:=hr.units
  have nd:(["box","number"]:List Str).Nodup:=Jc.nd
  refine jg ?_
  · refine jr ?_
    · refine gq ?_ ?_
      · refine aj ?_ ?_
        · exact j7
        · refine aj ?_ ?_
          · exact gq (aj (K4 Bs (au 1 (pv 1))) (aj (gq (aj (gq (aj (au 0 (pv 0)) (aj dh bf)) (gb (ao (ao bx)) (by decide))) bf) (gb (ao bx) (by decide))) bf)) (gb (ao (ao bx)) (by decide))
          · exact bf
      · exact gb (ao (ao bx)) (by decide)
theorem Rx (F:Fun K "at_most" "at_most" Ao f fd) (hmg:mg "at_most" = some (.ref f)):je P w K mg base "at_most" 1 ["box","number"] _root_.K.yc :=
  ⟨f,fd,Rq F,F.binds (ps:=["box","number"]) fun _ _ _ _ _ _ us hl=>bd2 (fun _ _=>rfl) us hl,F.kp,hmg⟩
noncomputable abbrev za:Stmt:=top 8
theorem Gq:mj ["box","number"] ["box","number"] (gw za):=⟨rfl,rfl,rfl,by decide +kernel,rfl,by decide +kernel,by decide +kernel⟩
theorem Ny (F:Fun K "at_least" "at_least" za f fd):Ad P w K mg base CX0 1 f fd ["box","number"] (spF K (["box","number"]:List Str).length _root_.K.vd):=by
  refine qe (N:=["box","number"]) F Gq (by decide)  fun cdv A outer s H E B hr=>?_
  have hu:=yh hr
  have hq:=hr.units
  have nd:(["box","number"]:List Str).Nodup:=Gq.nd
  refine jg ?_
  · refine jr ?_
    · refine gq ?_ ?_
      · refine aj ?_ ?_
        · exact j7
        · refine aj ?_ ?_
          · exact gq (aj (au 1 (pv 1)) (aj (gq (aj (gq (aj (au 0 (pv 0)) (aj (K4 Bs dh) bf)) (gb (ao (ao bx)) (by decide))) bf) (gb (ao bx) (by decide))) bf)) (gb (ao (ao bx)) (by decide))
          · exact bf
      · exact gb (ao (ao bx)) (by decide)
theorem Mp (F:Fun K "at_least" "at_least" za f fd) (hmg:mg "at_least" = some (.ref f)):je P w K mg base "at_least" 1 ["box","number"] _root_.K.vd :=
  ⟨f,fd,Ny F,F.binds (ps:=["box","number"]) fun _ _ _ _ _ _ us hl=>bd2 (fun _ _=>rfl) us hl,F.kp,hmg⟩
noncomputable abbrev qw:Stmt:=top 18
theorem Bx:mj ["names","lists","box","number","papers","boxes","low","high"] ["names","lists","box","number","papers"] (gw qw):=⟨rfl,rfl,rfl,by decide +kernel,rfl,by decide +kernel,by decide +kernel⟩
theorem Fq (F:Fun K "papers_of_cut" "papers_of_cut" qw f fd) (d_at_least:je P w K mg base "at_least" 1 ["box","number"] (_root_.K.vd)) (d_at_most:je P w K mg base "at_most" 1 ["box","number"] (_root_.K.yc)) (d_laid_in:je P w K mg base "laid_in" 1 ["lists","forms"] (_root_.K.tu)) (b_isinstance:mg "isinstance" = none) (b_len:mg "len" = none) (b_str:mg "str" = none):Ad P w K mg base CX0 2 f fd ["names","lists","box","number","papers"] (spF K (["names","lists","box","number","papers"]:List Str).length _root_.K.jx):=by
  have d_at_least:=d_at_least.mono (show 1≤1 by first | decide | omega)
  have d_at_most:=d_at_most.mono (show 1≤1 by first | decide | omega)
  have d_laid_in:=d_laid_in.mono (show 1≤1 by first | decide | omega)
  refine qe (N:=["names","lists","box","number","papers","boxes","low","high"]) F Bx (by decide)  fun cdv A outer s H E B hr=>?_
  have hu:=yh hr
  have hq:=hr.units
  have nd:(["names","lists","box","number","papers","boxes","low","high"]:List Str).Nodup:=Bx.nd
  refine ig ?_ ?_
  · exact mq 5 (N7 (N:=["name","box"]) ⟨rfl,rfl,by decide +kernel,by decide +kernel⟩ rfl (Am (au 0 (pv 0))) (fun C s₀ H₀ ex pn=>pgE fun B=>(Ab 0 (n8 (show (["name","box"]:List Str).Nodup by decide +kernel) rfl (Or.inl rfl)))) (fun C s₀ H₀ ex pn=>(Px fun B=>(PW.pt (Jg (yt (Jf (by rfl) b_isinstance (by rfl) b_str (au 1 (pv 1)))) (G7 (uo (yr hq) (au 0 (pv 0)) (au 1 (pv 1)) (nj _))))))) (fun C s₀ H₀ ex pn=>peE fun B=>(au 0 (pv 0))) (n8 nd rfl (Or.inl rfl)) rfl) (fun σ H Q h=>Pg ⟨rfl,fun j k h=>match j,h with | 0,h=>(by cases h; exact ⟨_,rfl,rfl,⟨.inl rfl,.inr (.inl rfl),.inl rfl⟩⟩) | _+1,h=>(by cases h)⟩ Ag (Q9 h))
  · refine ig ?_ ?_
    · exact yp (uo (Iv hq) (ou (qy wz (by rfl) b_len PySem.boot_len (aj (au 5 (pv 5)) bf))) dh (nj _))   (jg (jr Dv))   v8
    · refine ig ?_ ?_
      · refine @mq _ _ _ _ (tOf _ _ _) _ ?_ (fun _ _ _ h=>h)
        · refine kh ?_ ?_ ?_ ?_
          · exact nd
          · exact rfl
          · exact Or.inl rfl
          · refine iu d_laid_in ?_ ?_ ?_ ?_
            · exact hr
            · exact by rfl
            · exact aj (au 1 (pv 1)) (aj (ug (aj (iu d_at_most hr (by rfl) (aj (jo hu (au 5 (pv 5)) dh (fun _ _=>rfl)) (aj (au 3 (pv 3)) bf)) (cu (cu eq_nil))) bf) (gb (ao bx) (by decide))) bf)
            · exact cu (cu eq_nil)
      · refine ig ?_ ?_
        · refine @mq _ _ _ _ (tOf _ _ _) _ ?_ (fun _ _ _ h=>h)
          · refine kh ?_ ?_ ?_ ?_
            · exact nd
            · exact rfl
            · exact Or.inl rfl
            · refine iu d_laid_in ?_ ?_ ?_ ?_
              · exact hr
              · exact by rfl
              · exact aj (au 1 (pv 1)) (aj (ug (aj (iu d_at_least hr (by rfl) (aj (jo hu (au 5 (pv 5)) dh (fun _ _=>rfl)) (aj (qm su (au 3 (pv 3)) dh) bf)) (cu (cu eq_nil))) bf) (gb (ao bx) (by decide))) bf)
              · exact cu (cu eq_nil)
        · refine jg ?_
          · refine jr ?_
            · refine ug ?_ ?_
              · refine aj ?_ ?_
                · exact gq (aj (au 6 (pv 6)) (aj (jo hu (au 4 (pv 4)) dh (fun _ _=>rfl)) bf)) (gb (ao (ao bx)) (by decide))
                · exact aj (gq (aj (au 7 (pv 7)) (aj (jo hu (au 4 (pv 4)) dh (fun _ _=>rfl)) bf)) (gb (ao (ao bx)) (by decide))) bf
              · exact gb (ao (ao bx)) (by decide)
theorem Fi (F:Fun K "papers_of_cut" "papers_of_cut" qw f fd) (hmg:mg "papers_of_cut" = some (.ref f)) (d_at_least:je P w K mg base "at_least" 1 ["box","number"] (_root_.K.vd)) (d_at_most:je P w K mg base "at_most" 1 ["box","number"] (_root_.K.yc)) (d_laid_in:je P w K mg base "laid_in" 1 ["lists","forms"] (_root_.K.tu)) (b_isinstance:mg "isinstance" = none) (b_len:mg "len" = none) (b_str:mg "str" = none):je P w K mg base "papers_of_cut" 2 ["names","lists","box","number","papers"] _root_.K.jx :=
  ⟨f,fd,Fq F d_at_least d_at_most d_laid_in b_isinstance b_len b_str,F.binds (ps:=["names","lists","box","number","papers"]) fun _ _ _ _ _ _ us hl=>bd5 (fun _ _ _ _ _=>rfl) us hl,F.kp,hmg⟩
noncomputable abbrev yx:Stmt:=top 22
theorem Gd:mj ["atoms","rows","number","pairs","row","one"] ["atoms","rows"] (gw yx):=⟨rfl,rfl,rfl,by decide +kernel,rfl,by decide +kernel,by decide +kernel⟩
theorem Nq (F:Fun K "added_up" "added_up" yx f fd) (d_sum_of:je P w K mg base "sum_of" 1 ["number","pairs"] (_root_.K.zx)):Ad P w K mg base CX0 2 f fd ["atoms","rows"] (spF K (["atoms","rows"]:List Str).length _root_.K.vf):=by
  have d_sum_of:=d_sum_of.mono (show 1≤1 by first | decide | omega)
  refine qe (N:=["atoms","rows","number","pairs","row","one"]) F Gd (by decide)  fun cdv A outer s H E B hr=>?_
  have hu:=yh hr
  have hq:=hr.units
  have nd:(["atoms","rows","number","pairs","row","one"]:List Str).Nodup:=Gd.nd
  refine ig ?_ ?_
  · exact mq 2 (kh nd rfl (Or.inl rfl) dh) (fun _ _ _ h=>h)
  · refine ig ?_ ?_
    · exact Fd 3 (kh nd rfl (Or.inl rfl) (Qq bf (gb bx (by decide)))) (fun _ _ _ h=>h)
    · refine ig ?_ ?_
      · refine Gw ?_ ?_ ?_ ?_ ?_ ?_
        · exact PassesOwn.never
        · exact rfl
        · exact Am (au 1 (pv 1))
        · exact Ab 4 (n8 nd rfl (Or.inr rfl))
        · refine ig ?_ ?_
          · exact mq 5 (kh nd rfl (Or.inl rfl) (jo hu (jo hu (au 0 (pv 0)) (jo hu (au 4 (pv 4)) dh (fun _ _=>rfl)) (fun _ _=>rfl)) dh (fun _ _=>rfl))) (fun _ _ _ h=>h)
          · refine ig ?_ ?_
            · exact mq 2 (kh nd rfl (Or.inl rfl) (qm su (au 2 (pv 2)) (qm Gf (jo hu (au 4 (pv 4)) (K4 Bs dh) (fun _ _=>rfl)) (jo hu (au 5 (pv 5)) dh (fun _ _=>rfl))))) (fun _ _ _ h=>h)
            · refine jg ?_
              · refine Gx _ ?_
                · refine Cm ?_
                  · refine Lw PySem.F.plainAttrs_list PySem.F.slot_list_extend PySem.F.type_list_extend Er ?_ ?_
                    · exact pv 3
                    · refine wj ?_ ?_
                      · refine zu ?_
                        · refine Bp (N:=["box","times","row"]) ?_ ?_ ?_ ?_ ?_ ?_ ?_ ?_
                          · exact ⟨rfl,fun j k h=>match j,h with | 0,h=>(by cases h; exact ⟨_,rfl,rfl,⟨.inl rfl,.inr (.inl rfl),.inl rfl⟩⟩) | _+1,h=>(by cases h)⟩
                          · exact ⟨rfl,rfl,by decide +kernel,by decide +kernel⟩
                          · exact rfl
                          · exact Am (jo hu (au 5 (pv 5)) dh (fun _ _=>rfl))
                          · exact Ag
                          · exact fun C s₀ H₀ ex pn=>pgE fun B=>(Gi (is:=[0,1]) (Hh rfl (uh (n8 (show (["box","times","row"]:List Str).Nodup by decide +kernel) rfl (Or.inl rfl)) (uh (n8 (show (["box","times","row"]:List Str).Nodup by decide +kernel) rfl (Or.inl rfl)) Dl))))
                          · exact fun C s₀ H₀ ex pn=>zq
                          · exact fun C s₀ H₀ ex pn=>peE fun B=>(gq (aj (au 0 (pv 0)) (aj (qm Gf (jo hu (au 2 (pv 2)) (K4 Bs dh) (fun _ _=>rfl)) (au 1 (pv 1))) bf)) (gb (ao (ao bx)) (by decide)))
                      · exact Aw
        · exact Ag
      · exact jg (jr (iu d_sum_of hr (by rfl) (aj (au 2 (pv 2)) (aj (au 3 (pv 3)) bf)) (cu (cu eq_nil))))
theorem Oq (F:Fun K "added_up" "added_up" yx f fd) (hmg:mg "added_up" = some (.ref f)) (d_sum_of:je P w K mg base "sum_of" 1 ["number","pairs"] (_root_.K.zx)):je P w K mg base "added_up" 2 ["atoms","rows"] _root_.K.vf :=
  ⟨f,fd,Nq F d_sum_of,F.binds (ps:=["atoms","rows"]) fun _ _ _ _ _ _ us hl=>bd2 (fun _ _=>rfl) us hl,F.kp,hmg⟩
noncomputable abbrev Af:Stmt:=top 21
theorem J7:mj ["atoms","number","kind"] ["atoms","number","kind"] (gw Af):=⟨rfl,rfl,rfl,by decide +kernel,rfl,by decide +kernel,by decide +kernel⟩
theorem Rz (F:Fun K "is_atom" "is_atom" Af f fd) (d_is_place:je P w K mg base "is_place" 1 ["number","places"] (_root_.K.qg)):Ad P w K mg base CX0 2 f fd ["atoms","number","kind"] (spF K (["atoms","number","kind"]:List Str).length _root_.K.ql):=by
  have d_is_place:=d_is_place.mono (show 1≤1 by first | decide | omega)
  refine qe (N:=["atoms","number","kind"]) F J7 (by decide)  fun cdv A outer s H E B hr=>?_
  have hu:=yh hr
  have hq:=hr.units
  have nd:(["atoms","number","kind"]:List Str).Nodup:=J7.nd
  refine jg ?_
  · exact jr (Ba (iu d_is_place hr (by rfl) (aj (au 1 (pv 1)) (aj (au 0 (pv 0)) bf)) (cu (cu eq_nil))) (Dk (Aa (yr hq) (jo hu (jo hu (au 0 (pv 0)) (au 1 (pv 1)) (fun _ _=>rfl)) dh (fun _ _=>rfl)) (au 2 (pv 2)) (nj _))))
theorem Tj (F:Fun K "is_atom" "is_atom" Af f fd) (hmg:mg "is_atom" = some (.ref f)) (d_is_place:je P w K mg base "is_place" 1 ["number","places"] (_root_.K.qg)):je P w K mg base "is_atom" 2 ["atoms","number","kind"] _root_.K.ql :=
  ⟨f,fd,Rz F d_is_place,F.binds (ps:=["atoms","number","kind"]) fun _ _ _ _ _ _ us hl=>bd3 (fun _ _ _=>rfl) us hl,F.kp,hmg⟩
noncomputable abbrev vp:Stmt:=top 20
theorem Eh:mj ["atoms","row"] ["atoms","row"] (gw vp):=⟨rfl,rfl,rfl,by decide +kernel,rfl,by decide +kernel,by decide +kernel⟩
theorem K6 (F:Fun K "is_sum_row" "is_sum_row" vp f fd) (d_is_atom:je P w K mg base "is_atom" 2 ["atoms","number","kind"] (_root_.K.ql)) (b_len:mg "len" = none):Ad P w K mg base CX0 3 f fd ["atoms","row"] (spF K (["atoms","row"]:List Str).length _root_.K.m6):=by
  have d_is_atom:=d_is_atom.mono (show 2≤2 by first | decide | omega)
  refine qe (N:=["atoms","row"]) F Eh (by decide)  fun cdv A outer s H E B hr=>?_
  have hu:=yh hr
  have hq:=hr.units
  have nd:(["atoms","row"]:List Str).Nodup:=Eh.nd
  refine jg ?_
  · refine jr ?_
    · refine Ba ?_ ?_
      · exact Aa (yr hq) (ou (qy wz (by rfl) b_len PySem.boot_len (aj (au 1 (pv 1)) bf))) dh (nj _)
      · exact Ba (iu d_is_atom hr (by rfl) (aj (au 0 (pv 0)) (aj (jo hu (au 1 (pv 1)) dh (fun _ _=>rfl)) (aj j7 bf))) (cu (cu (cu eq_nil)))) (Dk (Aa Qv (jo hu (au 1 (pv 1)) dh (fun _ _=>rfl)) dh (nj _)))
theorem Jo (F:Fun K "is_sum_row" "is_sum_row" vp f fd) (hmg:mg "is_sum_row" = some (.ref f)) (d_is_atom:je P w K mg base "is_atom" 2 ["atoms","number","kind"] (_root_.K.ql)) (b_len:mg "len" = none):je P w K mg base "is_sum_row" 3 ["atoms","row"] _root_.K.m6 :=
  ⟨f,fd,K6 F d_is_atom b_len,F.binds (ps:=["atoms","row"]) fun _ _ _ _ _ _ us hl=>bd2 (fun _ _=>rfl) us hl,F.kp,hmg⟩
noncomputable abbrev Bo:Stmt:=top 19
theorem Kv:mj ["atoms","rows","whole"] ["atoms","rows"] (gw Bo):=⟨rfl,rfl,rfl,by decide +kernel,rfl,by decide +kernel,by decide +kernel⟩
theorem V4 (F:Fun K "is_sum" "is_sum" Bo f fd) (d_added_up:je P w K mg base "added_up" 2 ["atoms","rows"] (_root_.K.vf)) (d_is_sum_row:je P w K mg base "is_sum_row" 3 ["atoms","row"] (_root_.K.m6)) (b_all:mg "all" = none):Ad P w K mg base CX0 4 f fd ["atoms","rows"] (spF K (["atoms","rows"]:List Str).length _root_.K.Bm):=by
  have d_added_up:=d_added_up.mono (show 2≤3 by first | decide | omega)
  have d_is_sum_row:=d_is_sum_row.mono (show 3≤3 by first | decide | omega)
  refine qe (N:=["atoms","rows","whole"]) F Kv (by decide)  fun cdv A outer s H E B hr=>?_
  have hu:=yh hr
  have hq:=hr.units
  have nd:(["atoms","rows","whole"]:List Str).Nodup:=Kv.nd
  refine ig ?_ ?_
  · refine yp ?_ ?_ ?_
    · refine Jd ?_
      · refine yt ?_
        · refine ou ?_
          · refine qy (Dy (by rfl)) ?_ ?_ PyProof.Rows.boot_all ?_
            · exact by rfl
            · exact b_all
            · refine aj ?_ ?_
              · refine zu ?_
                · refine Bp (N:=["row","atoms"]) ?_ ?_ ?_ ?_ ?_ ?_ ?_ ?_
                  · exact ⟨rfl,fun j k h=>match j,h with | 0,h=>(by cases h; exact ⟨_,rfl,rfl,⟨.inl rfl,.inr (.inl rfl),.inl rfl⟩⟩) | _+1,h=>(by cases h)⟩
                  · exact ⟨rfl,rfl,by decide +kernel,by decide +kernel⟩
                  · exact rfl
                  · exact Am (au 1 (pv 1))
                  · exact Ag
                  · exact fun C s₀ H₀ ex pn=>pgE fun B=>(Ab 0 (n8 (show (["row","atoms"]:List Str).Nodup by decide +kernel) rfl (Or.inl rfl)))
                  · exact fun C s₀ H₀ ex pn=>zq
                  · exact fun C s₀ H₀ ex pn=>peE fun B=>(iu d_is_sum_row hr (by rfl) (aj (au 1 (pv 1)) (aj (au 0 (pv 0)) bf)) (cu (cu eq_nil)))
              · exact bf
    · exact jg (jr zy)
    · exact v8
  · refine ig ?_ ?_
    · exact mq 2 (kh nd rfl (Or.inl rfl) (iu d_added_up hr (by rfl) (aj (au 0 (pv 0)) (aj (au 1 (pv 1)) bf)) (cu (cu eq_nil)))) (fun _ _ _ h=>h)
    · exact jg (jr (Ba (Aa (yr hq) (jo hu (au 2 (pv 2)) dh (fun _ _=>rfl)) (gq bf (gb bx (by decide))) (nj _)) (Dk (Aa Qv (jo hu (au 2 (pv 2)) dh (fun _ _=>rfl)) dh (nj _)))))
theorem Us (F:Fun K "is_sum" "is_sum" Bo f fd) (hmg:mg "is_sum" = some (.ref f)) (d_added_up:je P w K mg base "added_up" 2 ["atoms","rows"] (_root_.K.vf)) (d_is_sum_row:je P w K mg base "is_sum_row" 3 ["atoms","row"] (_root_.K.m6)) (b_all:mg "all" = none):je P w K mg base "is_sum" 4 ["atoms","rows"] _root_.K.Bm :=
  ⟨f,fd,V4 F d_added_up d_is_sum_row b_all,F.binds (ps:=["atoms","rows"]) fun _ _ _ _ _ _ us hl=>bd2 (fun _ _=>rfl) us hl,F.kp,hmg⟩
noncomputable abbrev u9:Stmt:=top 25
theorem Cp:mj ["atoms","one","other"] ["atoms","one","other"] (gw u9):=⟨rfl,rfl,rfl,by decide +kernel,rfl,by decide +kernel,by decide +kernel⟩
theorem Hl (F:Fun K "is_zero_pair" "is_zero_pair" u9 f fd) (d_is_atom:je P w K mg base "is_atom" 2 ["atoms","number","kind"] (_root_.K.ql)) (d_plus:je P w K mg base "plus" 2 ["one","other"] (_root_.K.M6)):Ad P w K mg base CX0 3 f fd ["atoms","one","other"] (spF K (["atoms","one","other"]:List Str).length _root_.K.xq):=by
  have d_is_atom:=d_is_atom.mono (show 2≤2 by first | decide | omega)
  have d_plus:=d_plus.mono (show 2≤2 by first | decide | omega)
  refine qe (N:=["atoms","one","other"]) F Cp (by decide)  fun cdv A outer s H E B hr=>?_
  have hu:=yh hr
  have hq:=hr.units
  have nd:(["atoms","one","other"]:List Str).Nodup:=Cp.nd
  refine ig ?_ ?_
  · refine yp ?_ ?_ ?_
    · refine PW.pt ?_
      · refine Yv ?_ ?_
        · exact Jd (yt (iu d_is_atom hr (by rfl) (aj (au 0 (pv 0)) (aj (au 1 (pv 1)) (aj j7 bf))) (cu (cu (cu eq_nil)))))
        · exact Q5 (Jd (yt (iu d_is_atom hr (by rfl) (aj (au 0 (pv 0)) (aj (au 2 (pv 2)) (aj j7 bf))) (cu (cu (cu eq_nil))))))
    · exact jg (jr zy)
    · exact v8
  · refine jg ?_
    · refine jr ?_
      · refine Aa (yr hq) ?_ ?_ ?_
        · exact iu d_plus hr (by rfl) (aj (jo hu (jo hu (au 0 (pv 0)) (au 1 (pv 1)) (fun _ _=>rfl)) dh (fun _ _=>rfl)) (aj (jo hu (jo hu (au 0 (pv 0)) (au 2 (pv 2)) (fun _ _=>rfl)) dh (fun _ _=>rfl)) bf)) (cu (cu eq_nil))
        · exact gq (aj dh (aj (gq bf (gb bx (by decide))) bf)) (gb (ao (ao bx)) (by decide))
        · exact nj _
theorem G6 (F:Fun K "is_zero_pair" "is_zero_pair" u9 f fd) (hmg:mg "is_zero_pair" = some (.ref f)) (d_is_atom:je P w K mg base "is_atom" 2 ["atoms","number","kind"] (_root_.K.ql)) (d_plus:je P w K mg base "plus" 2 ["one","other"] (_root_.K.M6)):je P w K mg base "is_zero_pair" 3 ["atoms","one","other"] _root_.K.xq :=
  ⟨f,fd,Hl F d_is_atom d_plus,F.binds (ps:=["atoms","one","other"]) fun _ _ _ _ _ _ us hl=>bd3 (fun _ _ _=>rfl) us hl,F.kp,hmg⟩
noncomputable abbrev ur:Stmt:=top 24
theorem Di:mj ["atoms","divisor","row"] ["atoms","divisor","row"] (gw ur):=⟨rfl,rfl,rfl,by decide +kernel,rfl,by decide +kernel,by decide +kernel⟩
theorem Ik (F:Fun K "is_rest_row" "is_rest_row" ur f fd) (d_is_atom:je P w K mg base "is_atom" 2 ["atoms","number","kind"] (_root_.K.ql)) (d_is_zero_pair:je P w K mg base "is_zero_pair" 3 ["atoms","one","other"] (_root_.K.xq)) (b_len:mg "len" = none):Ad P w K mg base CX0 4 f fd ["atoms","divisor","row"] (spF K (["atoms","divisor","row"]:List Str).length _root_.K.qu):=by
  have d_is_atom:=d_is_atom.mono (show 2≤3 by first | decide | omega)
  have d_is_zero_pair:=d_is_zero_pair.mono (show 3≤3 by first | decide | omega)
  refine qe (N:=["atoms","divisor","row"]) F Di (by decide)  fun cdv A outer s H E B hr=>?_
  have hu:=yh hr
  have hq:=hr.units
  have nd:(["atoms","divisor","row"]:List Str).Nodup:=Di.nd
  refine ig ?_ ?_
  · refine yp ?_ ?_ ?_
    · exact uo (yr hq) (ou (qy wz (by rfl) b_len PySem.boot_len (aj (au 2 (pv 2)) bf))) dh (nj _)
    · refine jg ?_
      · refine jr ?_
        · refine Ba ?_ ?_
          · exact iu d_is_zero_pair hr (by rfl) (aj (au 0 (pv 0)) (aj (jo hu (au 2 (pv 2)) dh (fun _ _=>rfl)) (aj (jo hu (au 2 (pv 2)) dh (fun _ _=>rfl)) bf))) (cu (cu (cu eq_nil)))
          · exact Dk (Aa (Iv hq) (jo hu (au 2 (pv 2)) dh (fun _ _=>rfl)) dh (nj _))
    · exact v8
  · refine ig ?_ ?_
    · refine yp ?_ ?_ ?_
      · exact uo (yr hq) (ou (qy wz (by rfl) b_len PySem.boot_len (aj (au 2 (pv 2)) bf))) dh (nj _)
      · refine jg ?_
        · refine jr ?_
          · refine Ba ?_ ?_
            · exact iu d_is_atom hr (by rfl) (aj (au 0 (pv 0)) (aj (jo hu (au 2 (pv 2)) dh (fun _ _=>rfl)) (aj j7 bf))) (cu (cu (cu eq_nil)))
            · refine Ba ?_ ?_
              · exact Aa (Iv hq) (jo hu (au 2 (pv 2)) dh (fun _ _=>rfl)) dh (nj _)
              · exact Dk (Aa (yr hq) (qm vg (qm Gf (jo hu (au 2 (pv 2)) dh (fun _ _=>rfl)) (jo hu (jo hu (au 0 (pv 0)) (jo hu (au 2 (pv 2)) dh (fun _ _=>rfl)) (fun _ _=>rfl)) dh (fun _ _=>rfl))) (au 1 (pv 1))) dh (nj _))
      · exact v8
    · exact jg (jr zy)
theorem Io (F:Fun K "is_rest_row" "is_rest_row" ur f fd) (hmg:mg "is_rest_row" = some (.ref f)) (d_is_atom:je P w K mg base "is_atom" 2 ["atoms","number","kind"] (_root_.K.ql)) (d_is_zero_pair:je P w K mg base "is_zero_pair" 3 ["atoms","one","other"] (_root_.K.xq)) (b_len:mg "len" = none):je P w K mg base "is_rest_row" 4 ["atoms","divisor","row"] _root_.K.qu :=
  ⟨f,fd,Ik F d_is_atom d_is_zero_pair b_len,F.binds (ps:=["atoms","divisor","row"]) fun _ _ _ _ _ _ us hl=>bd3 (fun _ _ _=>rfl) us hl,F.kp,hmg⟩
noncomputable abbrev Ak:Stmt:=top 23
theorem Ja:mj ["atoms","divisor","rows","whole"] ["atoms","divisor","rows"] (gw Ak):=⟨rfl,rfl,rfl,by decide +kernel,rfl,by decide +kernel,by decide +kernel⟩
theorem Rg (F:Fun K "is_rest" "is_rest" Ak f fd) (d_added_up:je P w K mg base "added_up" 2 ["atoms","rows"] (_root_.K.vf)) (d_is_rest_row:je P w K mg base "is_rest_row" 4 ["atoms","divisor","row"] (_root_.K.qu)) (b_all:mg "all" = none):Ad P w K mg base CX0 5 f fd ["atoms","divisor","rows"] (spF K (["atoms","divisor","rows"]:List Str).length _root_.K.Aq):=by
  have d_added_up:=d_added_up.mono (show 2≤4 by first | decide | omega)
  have d_is_rest_row:=d_is_rest_row.mono (show 4≤4 by first | decide | omega)
  refine qe (N:=["atoms","divisor","rows","whole"]) F Ja (by decide)  fun cdv A outer s H E B hr=>?_
  have hu:=yh hr
  have hq:=hr.units
  have nd:(["atoms","divisor","rows","whole"]:List Str).Nodup:=Ja.nd
  refine ig ?_ ?_
  · refine yp ?_ ?_ ?_
    · refine PW.pt ?_
      · refine Yv ?_ ?_
        · exact uo Qd (au 1 (pv 1)) dh (nj _)
        · refine Q5 ?_
          · refine Jd ?_
            · refine yt ?_
              · refine ou ?_
                · refine qy (Dy (by rfl)) ?_ ?_ PyProof.Rows.boot_all ?_
                  · exact by rfl
                  · exact b_all
                  · refine aj ?_ ?_
                    · refine zu ?_
                      · refine Bp (N:=["row","atoms","divisor"]) ?_ ?_ ?_ ?_ ?_ ?_ ?_ ?_
                        · exact ⟨rfl,fun j k h=>match j,h with | 0,h=>(by cases h; exact ⟨_,rfl,rfl,⟨.inl rfl,.inr (.inl rfl),.inl rfl⟩⟩) | 1,h=>(by cases h; exact ⟨_,rfl,rfl,⟨.inl rfl,.inr (.inl rfl),.inl rfl⟩⟩) | _+2,h=>(by cases h)⟩
                        · exact ⟨rfl,rfl,by decide +kernel,by decide +kernel⟩
                        · exact rfl
                        · exact Am (au 2 (pv 2))
                        · exact Ag
                        · exact fun C s₀ H₀ ex pn=>pgE fun B=>(Ab 0 (n8 (show (["row","atoms","divisor"]:List Str).Nodup by decide +kernel) rfl (Or.inl rfl)))
                        · exact fun C s₀ H₀ ex pn=>zq
                        · exact fun C s₀ H₀ ex pn=>peE fun B=>(iu d_is_rest_row hr (by rfl) (aj (au 1 (pv 1)) (aj (au 2 (pv 2)) (aj (au 0 (pv 0)) bf))) (cu (cu (cu eq_nil))))
                    · exact bf
    · exact jg (jr zy)
    · exact v8
  · refine ig ?_ ?_
    · exact mq 3 (kh nd rfl (Or.inl rfl) (iu d_added_up hr (by rfl) (aj (au 0 (pv 0)) (aj (au 2 (pv 2)) bf)) (cu (cu eq_nil)))) (fun _ _ _ h=>h)
    · refine jg ?_
      · refine jr ?_
        · refine Ba ?_ ?_
          · exact Aa (Iv hq) (qm vg (jo hu (au 3 (pv 3)) dh (fun _ _=>rfl)) (au 1 (pv 1))) dh (nj _)
          · refine Dk ?_
            · refine ou ?_
              · refine qy (Dy (by rfl)) ?_ ?_ PyProof.Rows.boot_all ?_
                · exact by rfl
                · exact b_all
                · refine aj ?_ ?_
                  · refine zu ?_
                    · refine Bp (N:=["box","times","divisor"]) ?_ ?_ ?_ ?_ ?_ ?_ ?_ ?_
                      · exact ⟨rfl,fun j k h=>match j,h with | 0,h=>(by cases h; exact ⟨_,rfl,rfl,⟨.inl rfl,.inr (.inl rfl),.inl rfl⟩⟩) | _+1,h=>(by cases h)⟩
                      · exact ⟨rfl,rfl,by decide +kernel,by decide +kernel⟩
                      · exact rfl
                      · exact Am (jo hu (au 3 (pv 3)) dh (fun _ _=>rfl))
                      · exact Ag
                      · exact fun C s₀ H₀ ex pn=>pgE fun B=>(Gi (is:=[0,1]) (Hh rfl (uh (n8 (show (["box","times","divisor"]:List Str).Nodup by decide +kernel) rfl (Or.inl rfl)) (uh (n8 (show (["box","times","divisor"]:List Str).Nodup by decide +kernel) rfl (Or.inl rfl)) Dl))))
                      · exact fun C s₀ H₀ ex pn=>zq
                      · exact fun C s₀ H₀ ex pn=>peE fun B=>(Aa (yr hq) (qm vg (au 1 (pv 1)) (au 2 (pv 2))) dh (nj _))
                  · exact bf
theorem Rf (F:Fun K "is_rest" "is_rest" Ak f fd) (hmg:mg "is_rest" = some (.ref f)) (d_added_up:je P w K mg base "added_up" 2 ["atoms","rows"] (_root_.K.vf)) (d_is_rest_row:je P w K mg base "is_rest_row" 4 ["atoms","divisor","row"] (_root_.K.qu)) (b_all:mg "all" = none):je P w K mg base "is_rest" 5 ["atoms","divisor","rows"] _root_.K.Aq :=
  ⟨f,fd,Rg F d_added_up d_is_rest_row b_all,F.binds (ps:=["atoms","divisor","rows"]) fun _ _ _ _ _ _ us hl=>bd3 (fun _ _ _=>rfl) us hl,F.kp,hmg⟩
noncomputable abbrev yd:Stmt:=top 13
theorem Ez:mj ["thing","parts"] ["thing"] (gw yd):=⟨rfl,rfl,rfl,by decide +kernel,rfl,by decide +kernel,by decide +kernel⟩
theorem M5 (F:Fun K "plain_row" "plain_row" yd f fd) (d_is_whole:je P w K mg base "is_whole" 1 ["thing"] (_root_.K.nu)) (d_plain_tuple:je P w K mg base "plain_tuple" 1 ["thing"] (_root_.K.jj)) (b_all:mg "all" = none) (b_int:mg "int" = none) (b_tuple:mg "tuple" = none):Ad P w K mg base CX0 2 f fd ["thing"] (spF K (["thing"]:List Str).length _root_.K.uw):=by
  have d_is_whole:=d_is_whole.mono (show 1≤1 by first | decide | omega)
  have d_plain_tuple:=d_plain_tuple.mono (show 1≤1 by first | decide | omega)
  refine qe (N:=["thing","parts"]) F Ez (by decide)  fun cdv A outer s H E B hr=>?_
  have hu:=yh hr
  have hq:=hr.units
  have nd:(["thing","parts"]:List Str).Nodup:=Ez.nd
  refine ig ?_ ?_
  · exact mq 1 (kh nd rfl (Or.inl rfl) (iu d_plain_tuple hr (by rfl) (aj (au 0 (pv 0)) bf) (cu eq_nil))) (fun _ _ _ h=>h)
  · refine jg ?_
    · refine jr ?_
      · refine Q7 ?_ ?_ ?_
        · refine yt ?_
          · refine ou ?_
            · refine qy (Dy (by rfl)) ?_ ?_ PyProof.Rows.boot_all ?_
              · exact by rfl
              · exact b_all
              · refine aj ?_ ?_
                · refine zu ?_
                  · refine Bp (N:=["part"]) ?_ ?_ ?_ ?_ ?_ ?_ ?_ ?_
                    · exact ⟨rfl,fun j k h=>match j,h with | _+0,h=>(by cases h)⟩
                    · exact ⟨rfl,rfl,by decide +kernel,by decide +kernel⟩
                    · exact rfl
                    · exact Am (au 1 (pv 1))
                    · exact Ag
                    · exact fun C s₀ H₀ ex pn=>pgE fun B=>(Ab 0 (n8 (show (["part"]:List Str).Nodup by decide +kernel) rfl (Or.inl rfl)))
                    · exact fun C s₀ H₀ ex pn=>zq
                    · exact fun C s₀ H₀ ex pn=>peE fun B=>(iu d_is_whole hr (by rfl) (aj (au 0 (pv 0)) bf) (cu eq_nil))
                · exact bf
        · refine ou ?_
          · refine xu Dm ?_ ?_ PyProof.Rows.boot_tuple ?_
            · exact by rfl
            · exact b_tuple
            · refine aj ?_ ?_
              · refine zu ?_
                · refine Bp (N:=["part"]) ?_ ?_ ?_ ?_ ?_ ?_ ?_ ?_
                  · exact ⟨rfl,fun j k h=>match j,h with | _+0,h=>(by cases h)⟩
                  · exact ⟨rfl,rfl,by decide +kernel,by decide +kernel⟩
                  · exact rfl
                  · exact Am (au 1 (pv 1))
                  · exact Ag
                  · exact fun C s₀ H₀ ex pn=>pgE fun B=>(Ab 0 (n8 (show (["part"]:List Str).Nodup by decide +kernel) rfl (Or.inl rfl)))
                  · exact fun C s₀ H₀ ex pn=>zq
                  · exact fun C s₀ H₀ ex pn=>peE fun B=>(ou (xu Du (by rfl) b_int PyProof.Rows.boot_int (aj (au 0 (pv 0)) bf)))
              · exact bf
        · exact gq bf (gb bx (by decide))
theorem Ke (F:Fun K "plain_row" "plain_row" yd f fd) (hmg:mg "plain_row" = some (.ref f)) (d_is_whole:je P w K mg base "is_whole" 1 ["thing"] (_root_.K.nu)) (d_plain_tuple:je P w K mg base "plain_tuple" 1 ["thing"] (_root_.K.jj)) (b_all:mg "all" = none) (b_int:mg "int" = none) (b_tuple:mg "tuple" = none):je P w K mg base "plain_row" 2 ["thing"] _root_.K.uw :=
  ⟨f,fd,M5 F d_is_whole d_plain_tuple b_all b_int b_tuple,F.binds (ps:=["thing"]) fun _ _ _ _ _ _ us hl=>bd1 (fun _=>rfl) us hl,F.kp,hmg⟩
noncomputable abbrev vo:Stmt:=top 12
theorem Ed:mj ["thing"] ["thing"] (gw vo):=⟨rfl,rfl,rfl,by decide +kernel,rfl,by decide +kernel,by decide +kernel⟩
theorem Jv (F:Fun K "plain_rows" "plain_rows" vo f fd) (d_plain_row:je P w K mg base "plain_row" 2 ["thing"] (_root_.K.uw)) (d_plain_tuple:je P w K mg base "plain_tuple" 1 ["thing"] (_root_.K.jj)):Ad P w K mg base CX0 3 f fd ["thing"] (spF K (["thing"]:List Str).length _root_.K.qd):=by
  have d_plain_row:=d_plain_row.mono (show 2≤2 by first | decide | omega)
  have d_plain_tuple:=d_plain_tuple.mono (show 1≤2 by first | decide | omega)
  refine qe (N:=["thing"]) F Ed (by decide)  fun cdv A outer s H E B hr=>?_
  have hu:=yh hr
  have hq:=hr.units
  have nd:(["thing"]:List Str).Nodup:=Ed.nd
  refine jg ?_
  · refine jr ?_
    · refine zu ?_
      · refine Bp (N:=["row"]) ?_ ?_ ?_ ?_ ?_ ?_ ?_ ?_
        · exact ⟨rfl,fun j k h=>match j,h with | _+0,h=>(by cases h)⟩
        · exact ⟨rfl,rfl,by decide +kernel,by decide +kernel⟩
        · exact rfl
        · exact Am (iu d_plain_tuple hr (by rfl) (aj (au 0 (pv 0)) bf) (cu eq_nil))
        · exact Ag
        · exact fun C s₀ H₀ ex pn=>pgE fun B=>(Ab 0 (n8 (show (["row"]:List Str).Nodup by decide +kernel) rfl (Or.inl rfl)))
        · exact fun C s₀ H₀ ex pn=>zq
        · exact fun C s₀ H₀ ex pn=>peE fun B=>(iu d_plain_row hr (by rfl) (aj (au 0 (pv 0)) bf) (cu eq_nil))
theorem K3 (F:Fun K "plain_rows" "plain_rows" vo f fd) (hmg:mg "plain_rows" = some (.ref f)) (d_plain_row:je P w K mg base "plain_row" 2 ["thing"] (_root_.K.uw)) (d_plain_tuple:je P w K mg base "plain_tuple" 1 ["thing"] (_root_.K.jj)):je P w K mg base "plain_rows" 3 ["thing"] _root_.K.qd :=
  ⟨f,fd,Jv F d_plain_row d_plain_tuple,F.binds (ps:=["thing"]) fun _ _ _ _ _ _ us hl=>bd1 (fun _=>rfl) us hl,F.kp,hmg⟩
noncomputable abbrev qx:Stmt:=top 10
theorem Bw:mj ["names","lists","paper","parts"] ["names","lists","paper"] (gw qx):=⟨rfl,rfl,rfl,by decide +kernel,rfl,by decide +kernel,by decide +kernel⟩
theorem Fj (F:Fun K "papers_within" "papers_within" qx f fd) (d_is_kind:je P w K mg base "is_kind" 1 ["parts","kind","length"] (_root_.K.jf)) (d_is_rest:je P w K mg base "is_rest" 5 ["atoms","divisor","rows"] (_root_.K.Aq)) (d_is_sum:je P w K mg base "is_sum" 4 ["atoms","rows"] (_root_.K.Bm)) (d_is_whole:je P w K mg base "is_whole" 1 ["thing"] (_root_.K.nu)) (d_papers_of_cut:je P w K mg base "papers_of_cut" 2 ["names","lists","box","number","papers"] (_root_.K.jx)) (d_papers_of_or:je P w K mg base "papers_of_or" 2 ["lists","number","papers"] (_root_.K.jq)) (d_plain_rows:je P w K mg base "plain_rows" 3 ["thing"] (_root_.K.qd)) (d_plain_tuple:je P w K mg base "plain_tuple" 1 ["thing"] (_root_.K.jj)) (b_int:mg "int" = none):Ad P w K mg base CX0 6 f fd ["names","lists","paper"] (spF K (["names","lists","paper"]:List Str).length _root_.K.gj):=by
  have d_is_kind:=d_is_kind.mono (show 1≤5 by first | decide | omega)
  have d_is_rest:=d_is_rest.mono (show 5≤5 by first | decide | omega)
  have d_is_sum:=d_is_sum.mono (show 4≤5 by first | decide | omega)
  have d_is_whole:=d_is_whole.mono (show 1≤5 by first | decide | omega)
  have d_papers_of_cut:=d_papers_of_cut.mono (show 2≤5 by first | decide | omega)
  have d_papers_of_or:=d_papers_of_or.mono (show 2≤5 by first | decide | omega)
  have d_plain_rows:=d_plain_rows.mono (show 3≤5 by first | decide | omega)
  have d_plain_tuple:=d_plain_tuple.mono (show 1≤5 by first | decide | omega)
  refine qe (N:=["names","lists","paper","parts"]) F Bw (by decide)  fun cdv A outer s H E B hr=>?_
  have hu:=yh hr
  have hq:=hr.units
  have nd:(["names","lists","paper","parts"]:List Str).Nodup:=Bw.nd
  refine ig ?_ ?_
  · exact mq 3 (kh nd rfl (Or.inl rfl) (iu d_plain_tuple hr (by rfl) (aj (au 2 (pv 2)) bf) (cu eq_nil))) (fun _ _ _ h=>h)
  · refine ig ?_ ?_
    · refine yp ?_ ?_ ?_
      · refine PW.pt ?_
        · exact Jg (yt (iu d_is_kind hr (by rfl) (aj (au 3 (pv 3)) (aj j7 (aj dh bf))) (cu (cu (cu eq_nil))))) (G7 (yt (iu d_is_whole hr (by rfl) (aj (jo hu (au 3 (pv 3)) dh (fun _ _=>rfl)) bf) (cu eq_nil))))
      · refine jg ?_
        · refine jr ?_
          · refine iu d_papers_of_or ?_ ?_ ?_ ?_
            · exact hr
            · exact by rfl
            · exact aj (au 1 (pv 1)) (aj (ou (xu Du (by rfl) b_int PyProof.Rows.boot_int (aj (jo hu (au 3 (pv 3)) dh (fun _ _=>rfl)) bf))) (aj (jo hu (au 3 (pv 3)) dh (fun _ _=>rfl)) bf))
            · exact cu (cu (cu eq_nil))
      · exact v8
    · refine ig ?_ ?_
      · refine yp ?_ ?_ ?_
        · refine PW.pt ?_
          · exact Jg (yt (iu d_is_kind hr (by rfl) (aj (au 3 (pv 3)) (aj j7 (aj dh bf))) (cu (cu (cu eq_nil))))) (G7 (yt (iu d_is_whole hr (by rfl) (aj (jo hu (au 3 (pv 3)) dh (fun _ _=>rfl)) bf) (cu eq_nil))))
        · refine jg ?_
          · refine jr ?_
            · refine iu d_papers_of_cut ?_ ?_ ?_ ?_
              · exact hr
              · exact by rfl
              · refine aj ?_ ?_
                · exact au 0 (pv 0)
                · refine aj ?_ ?_
                  · exact au 1 (pv 1)
                  · exact aj (jo hu (au 3 (pv 3)) dh (fun _ _=>rfl)) (aj (ou (xu Du (by rfl) b_int PyProof.Rows.boot_int (aj (jo hu (au 3 (pv 3)) dh (fun _ _=>rfl)) bf))) (aj (Pj (au 3 (pv 3)) (Ml dh) a1x) bf))
              · exact cu (cu (cu (cu (cu eq_nil))))
        · exact v8
      · refine ig ?_ ?_
        · refine yp ?_ ?_ ?_
          · refine PW.pt ?_
            · refine Jg ?_ ?_
              · exact yt (iu d_is_kind hr (by rfl) (aj (au 3 (pv 3)) (aj j7 (aj dh bf))) (cu (cu (cu eq_nil))))
              · exact G7 (yt (iu d_is_sum hr (by rfl) (aj (jo hu (au 1 (pv 1)) dh (fun _ _=>rfl)) (aj (iu d_plain_rows hr (by rfl) (aj (jo hu (au 3 (pv 3)) dh (fun _ _=>rfl)) bf) (cu eq_nil)) bf)) (cu (cu eq_nil))))
          · exact jg (jr (ug bf (gb bx (by decide))))
          · exact v8
        · refine ig ?_ ?_
          · refine yp ?_ ?_ ?_
            · refine PW.pt ?_
              · refine Jg ?_ ?_
                · exact yt (iu d_is_kind hr (by rfl) (aj (au 3 (pv 3)) (aj j7 (aj dh bf))) (cu (cu (cu eq_nil))))
                · refine Jg ?_ ?_
                  · exact yt (iu d_is_whole hr (by rfl) (aj (jo hu (au 3 (pv 3)) dh (fun _ _=>rfl)) bf) (cu eq_nil))
                  · refine G7 ?_
                    · refine yt ?_
                      · refine iu d_is_rest ?_ ?_ ?_ ?_
                        · exact hr
                        · exact by rfl
                        · refine aj ?_ ?_
                          · exact jo hu (au 1 (pv 1)) dh (fun _ _=>rfl)
                          · exact aj (ou (xu Du (by rfl) b_int PyProof.Rows.boot_int (aj (jo hu (au 3 (pv 3)) dh (fun _ _=>rfl)) bf))) (aj (iu d_plain_rows hr (by rfl) (aj (jo hu (au 3 (pv 3)) dh (fun _ _=>rfl)) bf) (cu eq_nil)) bf)
                        · exact cu (cu (cu eq_nil))
            · exact jg (jr (ug bf (gb bx (by decide))))
            · exact v8
          · exact jg (jr Dv)
theorem Ft (F:Fun K "papers_within" "papers_within" qx f fd) (hmg:mg "papers_within" = some (.ref f)) (d_is_kind:je P w K mg base "is_kind" 1 ["parts","kind","length"] (_root_.K.jf)) (d_is_rest:je P w K mg base "is_rest" 5 ["atoms","divisor","rows"] (_root_.K.Aq)) (d_is_sum:je P w K mg base "is_sum" 4 ["atoms","rows"] (_root_.K.Bm)) (d_is_whole:je P w K mg base "is_whole" 1 ["thing"] (_root_.K.nu)) (d_papers_of_cut:je P w K mg base "papers_of_cut" 2 ["names","lists","box","number","papers"] (_root_.K.jx)) (d_papers_of_or:je P w K mg base "papers_of_or" 2 ["lists","number","papers"] (_root_.K.jq)) (d_plain_rows:je P w K mg base "plain_rows" 3 ["thing"] (_root_.K.qd)) (d_plain_tuple:je P w K mg base "plain_tuple" 1 ["thing"] (_root_.K.jj)) (b_int:mg "int" = none):je P w K mg base "papers_within" 6 ["names","lists","paper"] _root_.K.gj :=
  ⟨f,fd,Fj F d_is_kind d_is_rest d_is_sum d_is_whole d_papers_of_cut d_papers_of_or d_plain_rows d_plain_tuple b_int,F.binds (ps:=["names","lists","paper"]) fun _ _ _ _ _ _ us hl=>bd3 (fun _ _ _=>rfl) us hl,F.kp,hmg⟩
noncomputable abbrev ux:Stmt:=top 6
theorem Dg:mj ["rows","atoms","box","low","high"] ["rows"] (gw ux):=⟨rfl,rfl,rfl,by decide +kernel,rfl,by decide +kernel,by decide +kernel⟩
theorem Ii (F:Fun K "first_lists" "first_lists" ux f fd) (d_at_least:je P w K mg base "at_least" 1 ["box","number"] (_root_.K.vd)) (d_at_most:je P w K mg base "at_most" 1 ["box","number"] (_root_.K.yc)):Ad P w K mg base CX0 2 f fd ["rows"] (spF K (["rows"]:List Str).length _root_.K.uz):=by
  have d_at_least:=d_at_least.mono (show 1≤1 by first | decide | omega)
  have d_at_most:=d_at_most.mono (show 1≤1 by first | decide | omega)
  refine qe (N:=["rows","atoms","box","low","high"]) F Dg (by decide)  fun cdv A outer s H E B hr=>?_
  have hu:=yh hr
  have hq:=hr.units
  have nd:(["rows","atoms","box","low","high"]:List Str).Nodup:=Dg.nd
  refine ig ?_ ?_
  · exact Fd 1 (kh nd rfl (Or.inl rfl) (Qq bf (gb bx (by decide)))) (fun _ _ _ h=>h)
  · refine ig ?_ ?_
    · refine Gw ?_ ?_ ?_ ?_ ?_ ?_
      · exact PassesOwn.never
      · exact rfl
      · exact Am (au 0 (pv 0))
      · exact Gi (is:=[2,3,4]) (Hh rfl (uh (n8 nd rfl (Or.inl rfl)) (uh (n8 nd rfl (Or.inl rfl)) (uh (n8 nd rfl (Or.inl rfl)) Dl))))
      · refine ig ?_ ?_
        · exact Cg 1 (Cm (Lw PySem.F.plainAttrs_list PySem.F.slot_list_append PySem.F.type_list_append Bc (pv 1) (wj (iu d_at_least hr (by rfl) (aj (au 2 (pv 2)) (aj (au 3 (pv 3)) bf)) (cu (cu eq_nil))) Aw)))
        · exact jg (Cg 1 (Cm (Lw PySem.F.plainAttrs_list PySem.F.slot_list_append PySem.F.type_list_append Bc (pv 1) (wj (iu d_at_most hr (by rfl) (aj (au 2 (pv 2)) (aj (au 4 (pv 4)) bf)) (cu (cu eq_nil))) Aw))))
      · exact Ag
    · exact jg (jr (gq (aj (au 1 (pv 1)) (aj (ug bf (gb bx (by decide))) bf)) (gb (ao (ao bx)) (by decide))))
theorem Im (F:Fun K "first_lists" "first_lists" ux f fd) (hmg:mg "first_lists" = some (.ref f)) (d_at_least:je P w K mg base "at_least" 1 ["box","number"] (_root_.K.vd)) (d_at_most:je P w K mg base "at_most" 1 ["box","number"] (_root_.K.yc)):je P w K mg base "first_lists" 2 ["rows"] _root_.K.uz :=
  ⟨f,fd,Ii F d_at_least d_at_most,F.binds (ps:=["rows"]) fun _ _ _ _ _ _ us hl=>bd1 (fun _=>rfl) us hl,F.kp,hmg⟩
noncomputable abbrev Bt:Stmt:=top 5
theorem Lb:mj ["rows","forms","paper","names","waiting","reading","inner"] ["rows","forms","paper"] (gw Bt):=⟨rfl,rfl,rfl,by decide +kernel,rfl,by decide +kernel,by decide +kernel⟩
theorem Uj (F:Fun K "let_by" "let_by" Bt f fd) (d_first_lists:je P w K mg base "first_lists" 2 ["rows"] (_root_.K.uz)) (d_laid_in:je P w K mg base "laid_in" 1 ["lists","forms"] (_root_.K.tu)) (d_papers_within:je P w K mg base "papers_within" 6 ["names","lists","paper"] (_root_.K.gj)) (b_len:mg "len" = none) (c_MOST_DEEP:∃ tk,mg "MOST_DEEP" = some (.int 90 tk)):Ad P w K mg base CX0 7 f fd ["rows","forms","paper"] (spF K (["rows","forms","paper"]:List Str).length _root_.K.jh):=by
  have d_first_lists:=d_first_lists.mono (show 2≤6 by first | decide | omega)
  have d_laid_in:=d_laid_in.mono (show 1≤6 by first | decide | omega)
  have d_papers_within:=d_papers_within.mono (show 6≤6 by first | decide | omega)
  refine qe (N:=["rows","forms","paper","names","waiting","reading","inner"]) F Lb (by decide)  fun cdv A outer s H E B hr=>?_
  have hu:=yh hr
  have hq:=hr.units
  have nd:(["rows","forms","paper","names","waiting","reading","inner"]:List Str).Nodup:=Lb.nd
  refine ig ?_ ?_
  · exact mq 3 (N7 (N:=["box","low","high"]) ⟨rfl,rfl,by decide +kernel,by decide +kernel⟩ rfl (Am (au 0 (pv 0))) (fun C s₀ H₀ ex pn=>pgE fun B=>(Gi (is:=[0,1,2]) (Hh rfl (uh (n8 (show (["box","low","high"]:List Str).Nodup by decide +kernel) rfl (Or.inl rfl)) (uh (n8 (show (["box","low","high"]:List Str).Nodup by decide +kernel) rfl (Or.inl rfl)) (uh (n8 (show (["box","low","high"]:List Str).Nodup by decide +kernel) rfl (Or.inl rfl)) Dl)))))) (fun C s₀ H₀ ex pn=>zq) (fun C s₀ H₀ ex pn=>peE fun B=>(au 0 (pv 0))) (n8 nd rfl (Or.inl rfl)) rfl) (fun σ H Q h=>Pg ⟨rfl,fun j k h=>match j,h with | _+0,h=>(by cases h)⟩ Ag (Q9 h))
  · refine ig ?_ ?_
    · refine @Fd _ _ _ _ (fOf _ _ _) _ ?_ (fun _ _ _ h=>h)
      · refine kh ?_ ?_ ?_ ?_
        · exact nd
        · exact rfl
        · exact Or.inl rfl
        · refine Qq ?_ ?_
          · refine aj ?_ ?_
            · refine gq ?_ ?_
              · exact aj (iu d_laid_in hr (by rfl) (aj (iu d_first_lists hr (by rfl) (aj (au 0 (pv 0)) bf) (cu eq_nil)) (aj (au 1 (pv 1)) bf)) (cu (cu eq_nil))) (aj (au 2 (pv 2)) (aj dh bf))
              · exact gb (ao (ao (ao bx))) (by decide)
            · exact bf
          · exact gb (ao bx) (by decide)
    · refine ig ?_ ?_
      · refine Qm _ ?_ ?_ ?_
        · exact PassesOwn.never
        · exact uo Qv (Lf 4 b_len rfl (pv 4)) dh (nj _)
        · refine ig ?_ ?_
          · exact Zz 4 5 (Zq (Zh PySem.F.plainAttrs_list PySem.F.slot_list_pop PySem.F.type_list_pop Zn (pv 4)) (n8 nd rfl (Or.inr rfl)))
          · refine ig ?_ ?_
            · exact mq 6 (kh nd rfl (Or.inl rfl) Dv) (fun _ _ _ h=>h)
            · refine ig ?_ ?_
              · refine yp ?_ ?_ ?_
                · exact uo Zf (jo hu (au 5 (pv 5)) dh (fun _ _=>rfl)) (Xg (by rfl) c_MOST_DEEP) (nj _)
                · refine jg ?_
                  · exact mq 6 (kh nd rfl (Or.inl rfl) (iu d_papers_within hr (by rfl) (aj (au 3 (pv 3)) (aj (jo hu (au 5 (pv 5)) dh (fun _ _=>rfl)) (aj (jo hu (au 5 (pv 5)) dh (fun _ _=>rfl)) bf))) (cu (cu (cu eq_nil))))) (fun _ _ _ h=>h)
                · exact v8
              · refine ig ?_ ?_
                · exact yp (uo a4c (au 6 (pv 6)) Dv (nj _))   (jg (jr zy))   v8
                · refine jg ?_
                  · refine Gx _ ?_
                    · refine Cm ?_
                      · refine Lw PySem.F.plainAttrs_list PySem.F.slot_list_extend PySem.F.type_list_extend Er ?_ ?_
                        · exact pv 4
                        · refine wj ?_ ?_
                          · refine zu ?_
                            · refine Bp (N:=["lists","one","reading"]) ?_ ?_ ?_ ?_ ?_ ?_ ?_ ?_
                              · exact ⟨rfl,fun j k h=>match j,h with | 0,h=>(by cases h; exact ⟨_,rfl,rfl,⟨.inl rfl,.inr (.inl rfl),.inl rfl⟩⟩) | _+1,h=>(by cases h)⟩
                              · exact ⟨rfl,rfl,by decide +kernel,by decide +kernel⟩
                              · exact rfl
                              · exact Am (au 6 (pv 6))
                              · exact Ag
                              · exact fun C s₀ H₀ ex pn=>pgE fun B=>(Gi (is:=[0,1]) (Hh rfl (uh (n8 (show (["lists","one","reading"]:List Str).Nodup by decide +kernel) rfl (Or.inl rfl)) (uh (n8 (show (["lists","one","reading"]:List Str).Nodup by decide +kernel) rfl (Or.inl rfl)) Dl))))
                              · exact fun C s₀ H₀ ex pn=>zq
                              · exact fun C s₀ H₀ ex pn=>peE fun B=>(gq (aj (au 0 (pv 0)) (aj (au 1 (pv 1)) (aj (qm su (jo hu (au 2 (pv 2)) dh (fun _ _=>rfl)) dh) bf))) (gb (ao (ao (ao bx))) (by decide)))
                          · exact Aw
      · exact jg (jr zy)
theorem V5 (F:Fun K "let_by" "let_by" Bt f fd) (hmg:mg "let_by" = some (.ref f)) (d_first_lists:je P w K mg base "first_lists" 2 ["rows"] (_root_.K.uz)) (d_laid_in:je P w K mg base "laid_in" 1 ["lists","forms"] (_root_.K.tu)) (d_papers_within:je P w K mg base "papers_within" 6 ["names","lists","paper"] (_root_.K.gj)) (b_len:mg "len" = none) (c_MOST_DEEP:∃ tk,mg "MOST_DEEP" = some (.int 90 tk)):je P w K mg base "let_by" 7 ["rows","forms","paper"] _root_.K.jh :=
  ⟨f,fd,Uj F d_first_lists d_laid_in d_papers_within b_len c_MOST_DEEP,F.binds (ps:=["rows","forms","paper"]) fun _ _ _ _ _ _ us hl=>bd3 (fun _ _ _=>rfl) us hl,F.kp,hmg⟩
noncomputable abbrev uq:Stmt:=top 27
theorem Dj:mj ["_law_script","_law_k"] ["_law_script","_law_k"] (gw uq):=⟨rfl,rfl,rfl,by decide +kernel,rfl,by decide +kernel,by decide +kernel⟩
theorem Ir (F:Fun K "_law_cell_at" "_law_cell_at" uq f fd) (b_len:mg "len" = none):Ad P w K mg base CX0 1 f fd ["_law_script","_law_k"] (spF K (["_law_script","_law_k"]:List Str).length _root_.K.jm):=by
  refine qe (N:=["_law_script","_law_k"]) F Dj (by decide)  fun cdv A outer s H E B hr=>?_
  have hu:=yh hr
  have hq:=hr.units
  have nd:(["_law_script","_law_k"]:List Str).Nodup:=Dj.nd
  exact ig (yp (uo Qd (au 1 (pv 1)) (ou (qy wz (by rfl) b_len PySem.boot_len (aj (au 0 (pv 0)) bf))) (nj _))   (jg (jr (jo hu (au 0 (pv 0)) (au 1 (pv 1)) (fun _ _=>rfl))))   v8)   (jg (jr dh))
theorem Ip (F:Fun K "_law_cell_at" "_law_cell_at" uq f fd) (hmg:mg "_law_cell_at" = some (.ref f)) (b_len:mg "len" = none):je P w K mg base "_law_cell_at" 1 ["_law_script","_law_k"] _root_.K.jm :=
  ⟨f,fd,Ir F b_len,F.binds (ps:=["_law_script","_law_k"]) fun _ _ _ _ _ _ us hl=>bd2 (fun _ _=>rfl) us hl,F.kp,hmg⟩
noncomputable abbrev vm:Stmt:=top 28
theorem Dw:mj ["_law_cell","_law_most"] ["_law_cell","_law_most"] (gw vm):=⟨rfl,rfl,rfl,by decide +kernel,rfl,by decide +kernel,by decide +kernel⟩
theorem Jw (F:Fun K "_law_signed" "_law_signed" vm f fd):Ad P w K mg base CX0 1 f fd ["_law_cell","_law_most"] (spF K (["_law_cell","_law_most"]:List Str).length _root_.K.u6):=by
  refine qe (N:=["_law_cell","_law_most"]) F Dw (by decide)  fun cdv A outer s H E B hr=>?_
  have hu:=yh hr
  have hq:=hr.units
  have nd:(["_law_cell","_law_most"]:List Str).Nodup:=Dw.nd
  exact ig (yp (uo Qd (au 0 (pv 0)) dh (nj _))   (jg (jr (K4 Bs (qm vg (K4 Bs (au 0 (pv 0))) (au 1 (pv 1))))))   v8)   (jg (jr (qm vg (au 0 (pv 0)) (au 1 (pv 1)))))
theorem Jm (F:Fun K "_law_signed" "_law_signed" vm f fd) (hmg:mg "_law_signed" = some (.ref f)):je P w K mg base "_law_signed" 1 ["_law_cell","_law_most"] _root_.K.u6 :=
  ⟨f,fd,Jw F,F.binds (ps:=["_law_cell","_law_most"]) fun _ _ _ _ _ _ us hl=>bd2 (fun _ _=>rfl) us hl,F.kp,hmg⟩
noncomputable abbrev zj:Stmt:=top 29
theorem G8:mj ["_law_script","_law_rows_here","_law_k","_law_cell","_law_low"] ["_law_script"] (gw zj):=⟨rfl,rfl,rfl,by decide +kernel,rfl,by decide +kernel,by decide +kernel⟩
theorem Og (F:Fun K "_law_rows" "_law_rows" zj f fd) (d_law_cell_at:je P w K mg base "_law_cell_at" 1 ["_law_script","_law_k"] (_root_.K.jm)) (d_law_signed:je P w K mg base "_law_signed" 1 ["_law_cell","_law_most"] (_root_.K.u6)) (b_abs:mg "abs" = none) (b_range:mg "range" = none):Ad P w K mg base CX0 2 f fd ["_law_script"] (spF K (["_law_script"]:List Str).length _root_.K.yw):=by
  have d_law_cell_at:=d_law_cell_at.mono (show 1≤1 by first | decide | omega)
  have d_law_signed:=d_law_signed.mono (show 1≤1 by first | decide | omega)
  refine qe (N:=["_law_script","_law_rows_here","_law_k","_law_cell","_law_low"]) F G8 (by decide)  fun cdv A outer s H E B hr=>?_
  have hu:=yh hr
  have hq:=hr.units
  have nd:(["_law_script","_law_rows_here","_law_k","_law_cell","_law_low"]:List Str).Nodup:=G8.nd
  refine ig ?_ ?_
  · exact Fd 1 (kh nd rfl (Or.inl rfl) (Qq bf (gb bx (by decide)))) (fun _ _ _ h=>h)
  · refine ig ?_ ?_
    · refine Gw ?_ ?_ ?_ ?_ ?_ ?_
      · exact PassesOwn.never
      · exact rfl
      · exact Jx (by rfl) b_range (qm su dh (qm vg (iu d_law_cell_at hr (by rfl) (aj (au 0 (pv 0)) (aj dh bf)) (cu (cu eq_nil))) dh))
      · exact Ab 2 (n8 nd rfl (Or.inl rfl))
      · refine ig ?_ ?_
        · exact mq 3 (kh nd rfl (Or.inl rfl) (iu d_law_cell_at hr (by rfl) (aj (au 0 (pv 0)) (aj (qm su dh (au 2 (pv 2))) bf)) (cu (cu eq_nil)))) (fun _ _ _ h=>h)
        · refine ig ?_ ?_
          · refine @mq _ _ _ _ (tOf _ _ _) _ ?_ (fun _ _ _ h=>h)
            · refine kh ?_ ?_ ?_ ?_
              · exact nd
              · exact rfl
              · exact Or.inl rfl
              · refine iu d_law_signed ?_ ?_ ?_ ?_
                · exact hr
                · exact by rfl
                · exact aj (au 3 (pv 3)) (aj (jo hu (ug (aj dh (aj (qm Gf dh (qm O2 dh dh)) bf)) (gb (ao (ao bx)) (by decide))) (qm vg (qm Ek (au 3 (pv 3)) dh) dh) (fun _ _=>rfl)) bf)
                · exact cu (cu eq_nil)
          · refine jg ?_
            · refine Cg _ ?_
              · refine Cm ?_
                · refine Lw PySem.F.plainAttrs_list PySem.F.slot_list_append PySem.F.type_list_append Bc ?_ ?_
                  · exact pv 1
                  · refine wj ?_ ?_
                    · refine gq ?_ ?_
                      · refine aj ?_ ?_
                        · exact jo hu (ug (aj j7 (aj j7 (aj j7 bf))) (gb (ao (ao (ao bx))) (by decide))) (au 2 (pv 2)) (fun _ _=>rfl)
                        · exact aj (au 4 (pv 4)) (aj (qm su (au 4 (pv 4)) (qm vg (qm Ek (ou (qy Ub (by rfl) b_abs PyProof.Rows.boot_abs (aj (au 3 (pv 3)) bf))) dh) (qm O2 dh dh))) bf)
                      · exact gb (ao (ao (ao bx))) (by decide)
                    · exact Aw
      · exact Ji
    · exact jg (jr (au 1 (pv 1)))
theorem Nt (F:Fun K "_law_rows" "_law_rows" zj f fd) (hmg:mg "_law_rows" = some (.ref f)) (d_law_cell_at:je P w K mg base "_law_cell_at" 1 ["_law_script","_law_k"] (_root_.K.jm)) (d_law_signed:je P w K mg base "_law_signed" 1 ["_law_cell","_law_most"] (_root_.K.u6)) (b_abs:mg "abs" = none) (b_range:mg "range" = none):je P w K mg base "_law_rows" 2 ["_law_script"] _root_.K.yw :=
  ⟨f,fd,Og F d_law_cell_at d_law_signed b_abs b_range,F.binds (ps:=["_law_script"]) fun _ _ _ _ _ _ us hl=>bd1 (fun _=>rfl) us hl,F.kp,hmg⟩
noncomputable abbrev Ai:Stmt:=top 30
theorem J5:mj ["_law_good","_law_n","_law_cell","_law_rows_here","_law_some"] ["_law_good","_law_n","_law_cell"] (gw Ai):=⟨rfl,rfl,rfl,by decide +kernel,rfl,by decide +kernel,by decide +kernel⟩
theorem T5 (F:Fun K "_law_bad" "_law_bad" Ai f fd) (b_list:mg "list" = none):Ad P w K mg base CX0 1 f fd ["_law_good","_law_n","_law_cell"] (spF K (["_law_good","_law_n","_law_cell"]:List Str).length _root_.K.sy):=by
  refine qe (N:=["_law_good","_law_n","_law_cell","_law_rows_here","_law_some"]) F J5 (by decide)  fun cdv A outer s H E B hr=>?_
  have hu:=yh hr
  have hq:=hr.units
  have nd:(["_law_good","_law_n","_law_cell","_law_rows_here","_law_some"]:List Str).Nodup:=J5.nd
  refine ig ?_ ?_
  · exact mq 3 (kh nd rfl (Or.inl rfl) (jo hu (au 0 (pv 0)) dh (fun _ _=>rfl))) (fun _ _ _ h=>h)
  · refine ig ?_ ?_
    · refine @mq _ _ _ _ (tOf _ _ _) _ ?_ (fun _ _ _ h=>h)
      · refine kh ?_ ?_ ?_ ?_
        · exact nd
        · exact rfl
        · exact Or.inl rfl
        · refine ug ?_ ?_
          · refine aj ?_ ?_
            · exact Dv
            · refine aj ?_ ?_
              · exact zy
              · refine aj ?_ ?_
                · exact dh
                · refine aj ?_ ?_
                  · exact j7
                  · refine aj ?_ ?_
                    · exact ug bf (gb bx (by decide))
                    · refine aj ?_ ?_
                      · exact gq bf (gb bx (by decide))
                      · refine aj ?_ ?_
                        · exact gq (aj j7 bf) (gb (ao bx) (by decide))
                        · refine aj ?_ ?_
                          · exact ug (aj j7 (aj (au 3 (pv 3)) bf)) (gb (ao (ao bx)) (by decide))
                          · refine aj ?_ ?_
                            · exact gq (aj j7 (aj (ou (xu J6 (by rfl) b_list PyProof.Rows.boot_list (aj (au 3 (pv 3)) bf))) bf)) (gb (ao (ao bx)) (by decide))
                            · exact aj (gq (aj j7 (aj (au 3 (pv 3)) (aj (gq bf (gb bx (by decide))) bf))) (gb (ao (ao (ao bx))) (by decide))) bf
          · exact gb (ao (ao (ao (ao (ao (ao (ao (ao (ao (ao bx)))))))))) (by decide)
    · refine ig ?_ ?_
      · refine @mq _ _ _ _ (tOf _ _ _) _ ?_ (fun _ _ _ h=>h)
        · refine kh ?_ ?_ ?_ ?_
          · exact nd
          · exact rfl
          · exact Or.inl rfl
          · refine qm ?_ ?_ ?_
            · exact su
            · exact au 4 (pv 4)
            · refine ug ?_ ?_
              · refine aj ?_ ?_
                · exact gq (aj j7 (aj (au 3 (pv 3)) bf)) (gb (ao (ao bx)) (by decide))
                · refine aj ?_ ?_
                  · exact gq (aj j7 (aj (au 3 (pv 3)) bf)) (gb (ao (ao bx)) (by decide))
                  · refine aj ?_ ?_
                    · exact gq (aj j7 (aj dh (aj (au 3 (pv 3)) bf))) (gb (ao (ao (ao bx))) (by decide))
                    · refine aj ?_ ?_
                      · exact gq (aj (au 3 (pv 3)) (aj j7 bf)) (gb (ao (ao bx)) (by decide))
                      · refine aj ?_ ?_
                        · exact gq (aj j7 (aj (gq bf (gb bx (by decide))) bf)) (gb (ao (ao bx)) (by decide))
                        · exact aj (gq (aj j7 (aj (gq (aj (au 3 (pv 3)) bf) (gb (ao bx) (by decide))) bf)) (gb (ao (ao bx)) (by decide))) bf
              · exact gb (ao (ao (ao (ao (ao (ao bx)))))) (by decide)
      · refine ig ?_ ?_
        · refine @mq _ _ _ _ (tOf _ _ _) _ ?_ (fun _ _ _ h=>h)
          · refine kh ?_ ?_ ?_ ?_
            · exact nd
            · exact rfl
            · exact Or.inl rfl
            · refine qm ?_ ?_ ?_
              · exact su
              · exact au 4 (pv 4)
              · refine ug ?_ ?_
                · refine aj ?_ ?_
                  · exact gq (aj j7 (aj (gq (aj (jo hu (au 3 (pv 3)) dh (fun _ _=>rfl)) bf) (gb (ao bx) (by decide))) bf)) (gb (ao (ao bx)) (by decide))
                  · refine aj ?_ ?_
                    · exact gq (aj j7 (aj (gq (aj (jo hu (au 3 (pv 3)) dh (fun _ _=>rfl)) bf) (gb (ao bx) (by decide))) bf)) (gb (ao (ao bx)) (by decide))
                    · refine aj ?_ ?_
                      · refine gq ?_ ?_
                        · refine aj ?_ ?_
                          · exact j7
                          · refine aj ?_ ?_
                            · refine gq ?_ ?_
                              · exact aj (jo hu (au 3 (pv 3)) dh (fun _ _=>rfl)) (aj (gq (aj (jo hu (jo hu (au 3 (pv 3)) dh (fun _ _=>rfl)) dh (fun _ _=>rfl)) (aj dh bf)) (gb (ao (ao bx)) (by decide))) bf)
                              · exact gb (ao (ao bx)) (by decide)
                            · exact bf
                        · exact gb (ao (ao bx)) (by decide)
                      · exact bf
                · exact gb (ao (ao (ao bx))) (by decide)
        · refine ig ?_ ?_
          · refine @mq _ _ _ _ (tOf _ _ _) _ ?_ (fun _ _ _ h=>h)
            · refine kh ?_ ?_ ?_ ?_
              · exact nd
              · exact rfl
              · exact Or.inl rfl
              · refine qm ?_ ?_ ?_
                · exact su
                · exact au 4 (pv 4)
                · refine ug ?_ ?_
                  · refine aj ?_ ?_
                    · exact gq (aj j7 (aj (qm su (Vh (au 3 (pv 3))) (gq (aj dh bf) (gb (ao bx) (by decide)))) bf)) (gb (ao (ao bx)) (by decide))
                    · refine aj ?_ ?_
                      · refine gq ?_ ?_
                        · exact aj j7 (aj (gq (aj (jo hu (au 3 (pv 3)) dh (fun _ _=>rfl)) (aj (gq (aj (au 1 (pv 1)) (aj zy bf)) (gb (ao (ao bx)) (by decide))) bf)) (gb (ao (ao bx)) (by decide))) bf)
                        · exact gb (ao (ao bx)) (by decide)
                      · refine aj ?_ ?_
                        · refine gq ?_ ?_
                          · exact aj j7 (aj (gq (aj (jo hu (au 3 (pv 3)) dh (fun _ _=>rfl)) (aj (gq (aj (au 1 (pv 1)) (aj j7 bf)) (gb (ao (ao bx)) (by decide))) bf)) (gb (ao (ao bx)) (by decide))) bf)
                          · exact gb (ao (ao bx)) (by decide)
                        · exact bf
                  · exact gb (ao (ao (ao bx))) (by decide)
          · refine ig ?_ ?_
            · refine @mq _ _ _ _ (tOf _ _ _) _ ?_ (fun _ _ _ h=>h)
              · refine kh ?_ ?_ ?_ ?_
                · exact nd
                · exact rfl
                · exact Or.inl rfl
                · refine qm ?_ ?_ ?_
                  · exact su
                  · exact au 4 (pv 4)
                  · refine ug ?_ ?_
                    · refine aj ?_ ?_
                      · refine gq ?_ ?_
                        · exact aj j7 (aj (gq (aj (jo hu (au 3 (pv 3)) dh (fun _ _=>rfl)) (aj (ug (aj (au 1 (pv 1)) (aj dh bf)) (gb (ao (ao bx)) (by decide))) bf)) (gb (ao (ao bx)) (by decide))) bf)
                        · exact gb (ao (ao bx)) (by decide)
                      · refine aj ?_ ?_
                        · exact gq (aj j7 (aj (zu (Z4 (fun B=>dh))) bf)) (gb (ao (ao bx)) (by decide))
                        · refine aj ?_ ?_
                          · exact gq (aj j7 (aj dh (aj (gq bf (gb bx (by decide))) bf))) (gb (ao (ao (ao bx))) (by decide))
                          · refine aj ?_ ?_
                            · exact gq (aj j7 (aj dh (aj (gq (aj (au 0 (pv 0)) bf) (gb (ao bx) (by decide))) bf))) (gb (ao (ao (ao bx))) (by decide))
                            · exact aj (gq (aj j7 (aj (au 1 (pv 1)) (aj (gq (aj (au 0 (pv 0)) bf) (gb (ao bx) (by decide))) bf))) (gb (ao (ao (ao bx))) (by decide))) bf
                    · exact gb (ao (ao (ao (ao (ao bx))))) (by decide)
            · refine ig ?_ ?_
              · refine @mq _ _ _ _ (tOf _ _ _) _ ?_ (fun _ _ _ h=>h)
                · refine kh ?_ ?_ ?_ ?_
                  · exact nd
                  · exact rfl
                  · exact Or.inl rfl
                  · refine qm ?_ ?_ ?_
                    · exact su
                    · exact au 4 (pv 4)
                    · refine ug ?_ ?_
                      · refine aj ?_ ?_
                        · exact gq (aj j7 (aj (K4 Bs dh) (aj (gq (aj (au 0 (pv 0)) (aj (au 0 (pv 0)) bf)) (gb (ao (ao bx)) (by decide))) bf))) (gb (ao (ao (ao bx))) (by decide))
                        · refine aj ?_ ?_
                          · exact gq (aj j7 (aj zy (aj (gq (aj (au 0 (pv 0)) (aj (au 0 (pv 0)) bf)) (gb (ao (ao bx)) (by decide))) bf))) (gb (ao (ao (ao bx))) (by decide))
                          · exact aj (gq (aj j7 (aj j7 (aj dh (aj (au 0 (pv 0)) bf)))) (gb (ao (ao (ao (ao bx)))) (by decide))) bf
                      · exact gb (ao (ao (ao bx))) (by decide)
              · refine ig ?_ ?_
                · refine @mq _ _ _ _ (tOf _ _ _) _ ?_ (fun _ _ _ h=>h)
                  · refine kh ?_ ?_ ?_ ?_
                    · exact nd
                    · exact rfl
                    · exact Or.inl rfl
                    · refine qm ?_ ?_ ?_
                      · exact su
                      · exact au 4 (pv 4)
                      · refine ug ?_ ?_
                        · refine aj ?_ ?_
                          · exact gq (aj j7 (aj j7 (aj dh (aj (au 0 (pv 0)) (aj Dv bf))))) (gb (ao (ao (ao (ao (ao bx))))) (by decide))
                          · refine aj ?_ ?_
                            · exact gq (aj j7 (aj j7 (aj dh (aj (au 0 (pv 0)) (aj (au 0 (pv 0)) bf))))) (gb (ao (ao (ao (ao (ao bx))))) (by decide))
                            · exact aj (gq (aj j7 (aj dh (aj dh (aj (au 0 (pv 0)) (aj (au 0 (pv 0)) bf))))) (gb (ao (ao (ao (ao (ao bx))))) (by decide))) bf
                        · exact gb (ao (ao (ao bx))) (by decide)
                · refine ig ?_ ?_
                  · refine @mq _ _ _ _ (tOf _ _ _) _ ?_ (fun _ _ _ h=>h)
                    · refine kh ?_ ?_ ?_ ?_
                      · exact nd
                      · exact rfl
                      · exact Or.inl rfl
                      · refine qm ?_ ?_ ?_
                        · exact su
                        · exact au 4 (pv 4)
                        · refine ug ?_ ?_
                          · refine aj ?_ ?_
                            · exact gq (aj j7 (aj j7 (aj zy (aj (au 0 (pv 0)) (aj (au 0 (pv 0)) bf))))) (gb (ao (ao (ao (ao (ao bx))))) (by decide))
                            · refine aj ?_ ?_
                              · exact gq (aj j7 (aj j7 (aj j7 (aj (au 0 (pv 0)) (aj (au 0 (pv 0)) bf))))) (gb (ao (ao (ao (ao (ao bx))))) (by decide))
                              · exact aj (gq (aj j7 (aj (gq (aj j7 bf) (gb (ao bx) (by decide))) (aj dh (aj (au 0 (pv 0)) (aj (au 0 (pv 0)) bf))))) (gb (ao (ao (ao (ao (ao bx))))) (by decide))) bf
                          · exact gb (ao (ao (ao bx))) (by decide)
                  · refine ig ?_ ?_
                    · refine @mq _ _ _ _ (tOf _ _ _) _ ?_ (fun _ _ _ h=>h)
                      · refine kh ?_ ?_ ?_ ?_
                        · exact nd
                        · exact rfl
                        · exact Or.inl rfl
                        · refine qm ?_ ?_ ?_
                          · exact su
                          · exact au 4 (pv 4)
                          · refine ug ?_ ?_
                            · refine aj ?_ ?_
                              · exact gq (aj j7 (aj j7 (aj dh (aj (ug (aj (au 0 (pv 0)) bf) (gb (ao bx) (by decide))) (aj (au 0 (pv 0)) bf))))) (gb (ao (ao (ao (ao (ao bx))))) (by decide))
                              · refine aj ?_ ?_
                                · exact gq (aj j7 (aj j7 (aj dh (aj (au 0 (pv 0)) (aj (au 0 (pv 0)) bf))))) (gb (ao (ao (ao (ao (ao bx))))) (by decide))
                                · exact aj (gq (aj j7 (aj dh (aj (gq (aj (au 0 (pv 0)) (aj (au 0 (pv 0)) bf)) (gb (ao (ao bx)) (by decide))) bf))) (gb (ao (ao (ao bx))) (by decide))) bf
                            · exact gb (ao (ao (ao bx))) (by decide)
                    · refine ig ?_ ?_
                      · refine @mq _ _ _ _ (tOf _ _ _) _ ?_ (fun _ _ _ h=>h)
                        · refine kh ?_ ?_ ?_ ?_
                          · exact nd
                          · exact rfl
                          · exact Or.inl rfl
                          · refine qm ?_ ?_ ?_
                            · exact su
                            · exact au 4 (pv 4)
                            · refine ug ?_ ?_
                              · refine aj ?_ ?_
                                · exact gq (aj j7 (aj Dv (aj dh (aj (au 0 (pv 0)) (aj (au 0 (pv 0)) bf))))) (gb (ao (ao (ao (ao (ao bx))))) (by decide))
                                · refine aj ?_ ?_
                                  · exact gq (aj j7 (aj zy (aj (gq (aj (au 0 (pv 0)) (aj (au 0 (pv 0)) bf)) (gb (ao (ao bx)) (by decide))) bf))) (gb (ao (ao (ao bx))) (by decide))
                                  · exact aj (gq (aj j7 (aj dh (aj (gq (aj (au 0 (pv 0)) (aj (au 0 (pv 0)) (aj (au 0 (pv 0)) bf))) (gb (ao (ao (ao bx))) (by decide))) bf))) (gb (ao (ao (ao bx))) (by decide))) bf
                              · exact gb (ao (ao (ao bx))) (by decide)
                      · refine ig ?_ ?_
                        · refine @mq _ _ _ _ (tOf _ _ _) _ ?_ (fun _ _ _ h=>h)
                          · refine kh ?_ ?_ ?_ ?_
                            · exact nd
                            · exact rfl
                            · exact Or.inl rfl
                            · refine qm ?_ ?_ ?_
                              · exact su
                              · exact au 4 (pv 4)
                              · refine ug ?_ ?_
                                · refine aj ?_ ?_
                                  · exact gq (aj j7 (aj dh (aj (ug (aj (au 0 (pv 0)) (aj (au 0 (pv 0)) bf)) (gb (ao (ao bx)) (by decide))) bf))) (gb (ao (ao (ao bx))) (by decide))
                                  · refine aj ?_ ?_
                                    · refine gq ?_ ?_
                                      · exact aj j7 (aj dh (aj (gq (aj (au 0 (pv 0)) (aj (au 0 (pv 0)) bf)) (gb (ao (ao bx)) (by decide))) (aj (gq bf (gb bx (by decide))) bf)))
                                      · exact gb (ao (ao (ao (ao bx)))) (by decide)
                                    · exact aj (gq (aj j7 (aj j7 (aj dh (aj (au 0 (pv 0)) (aj (au 0 (pv 0)) (aj (au 0 (pv 0)) bf)))))) (gb (ao (ao (ao (ao (ao (ao bx)))))) (by decide))) bf
                                · exact gb (ao (ao (ao bx))) (by decide)
                        · exact jg (jr (jo hu (au 4 (pv 4)) (qm vg (au 2 (pv 2)) dh) (fun _ _=>rfl)))
theorem T4 (F:Fun K "_law_bad" "_law_bad" Ai f fd) (hmg:mg "_law_bad" = some (.ref f)) (b_list:mg "list" = none):je P w K mg base "_law_bad" 1 ["_law_good","_law_n","_law_cell"] _root_.K.sy :=
  ⟨f,fd,T5 F b_list,F.binds (ps:=["_law_good","_law_n","_law_cell"]) fun _ _ _ _ _ _ us hl=>bd3 (fun _ _ _=>rfl) us hl,F.kp,hmg⟩
noncomputable abbrev vq:Stmt:=top 31
theorem Ei:mj ["_law_paper","_law_good","_law_cell"] ["_law_paper","_law_good","_law_cell"] (gw vq):=⟨rfl,rfl,rfl,by decide +kernel,rfl,by decide +kernel,by decide +kernel⟩
theorem Jy (F:Fun K "_law_within" "_law_within" vq f fd):Ad P w K mg base CX0 1 f fd ["_law_paper","_law_good","_law_cell"] (spF K (["_law_paper","_law_good","_law_cell"]:List Str).length _root_.K.jz):=by
  refine qe (N:=["_law_paper","_law_good","_law_cell"]) F Ei (by decide)  fun cdv A outer s H E B hr=>?_
  have hu:=yh hr
  have hq:=hr.units
  have nd:(["_law_paper","_law_good","_law_cell"]:List Str).Nodup:=Ei.nd
  refine ig ?_ ?_
  · refine yp ?_ ?_ ?_
    · exact uo (yr hq) (qm vg (au 2 (pv 2)) dh) dh (nj _)
    · refine jg ?_
      · exact jr (gq (aj j7 (aj j7 (aj (qm Ux (qm vg (qm Ek (au 2 (pv 2)) dh) dh) dh) (aj (au 0 (pv 0)) (aj (au 1 (pv 1)) bf))))) (gb (ao (ao (ao (ao (ao bx))))) (by decide)))
    · exact v8
  · refine ig ?_ ?_
    · refine yp ?_ ?_ ?_
      · exact uo (yr hq) (qm vg (au 2 (pv 2)) dh) dh (nj _)
      · exact jg (jr (gq (aj j7 (aj j7 (aj (qm vg (au 2 (pv 2)) (qm O2 dh dh)) (aj (au 1 (pv 1)) (aj (au 0 (pv 0)) bf))))) (gb (ao (ao (ao (ao (ao bx))))) (by decide))))
      · exact v8
    · refine ig ?_ ?_
      · refine yp ?_ ?_ ?_
        · exact uo (yr hq) (qm vg (au 2 (pv 2)) dh) dh (nj _)
        · exact jg (jr (gq (aj j7 (aj dh (aj (gq (aj (au 0 (pv 0)) (aj (au 1 (pv 1)) bf)) (gb (ao (ao bx)) (by decide))) bf))) (gb (ao (ao (ao bx))) (by decide))))
        · exact v8
      · exact jg (jr (au 0 (pv 0)))
theorem Jr (F:Fun K "_law_within" "_law_within" vq f fd) (hmg:mg "_law_within" = some (.ref f)):je P w K mg base "_law_within" 1 ["_law_paper","_law_good","_law_cell"] _root_.K.jz :=
  ⟨f,fd,Jy F,F.binds (ps:=["_law_paper","_law_good","_law_cell"]) fun _ _ _ _ _ _ us hl=>bd3 (fun _ _ _=>rfl) us hl,F.kp,hmg⟩
noncomputable abbrev zf:Stmt:=top 32
theorem Gs:mj ["_law_good","_law_cuts","_law_paper","_law_k"] ["_law_good","_law_cuts"] (gw zf):=⟨rfl,rfl,rfl,by decide +kernel,rfl,by decide +kernel,by decide +kernel⟩
theorem Oe (F:Fun K "_law_deep" "_law_deep" zf f fd) (b_range:mg "range" = none):Ad P w K mg base CX0 1 f fd ["_law_good","_law_cuts"] (spF K (["_law_good","_law_cuts"]:List Str).length _root_.K.m5):=by
  refine qe (N:=["_law_good","_law_cuts","_law_paper","_law_k"]) F Gs (by decide)  fun cdv A outer s H E B hr=>?_
  have hu:=yh hr
  have hq:=hr.units
  have nd:(["_law_good","_law_cuts","_law_paper","_law_k"]:List Str).Nodup:=Gs.nd
  refine ig ?_ ?_
  · exact mq 2 (kh nd rfl (Or.inl rfl) (au 0 (pv 0))) (fun _ _ _ h=>h)
  · refine ig ?_ ?_
    · refine Gw ?_ ?_ ?_ ?_ ?_ ?_
      · exact PassesOwn.never
      · exact rfl
      · exact Jx (by rfl) b_range (au 1 (pv 1))
      · exact Ab 3 (n8 nd rfl (Or.inl rfl))
      · refine jg ?_
        · refine yp ?_ ?_ ?_
          · exact uo (yr hq) (qm vg (au 3 (pv 3)) dh) dh (nj _)
          · exact jg (mq 2 (kh nd rfl (Or.inl rfl) (gq (aj j7 (aj j7 (aj (au 3 (pv 3)) (aj (au 2 (pv 2)) (aj (au 0 (pv 0)) bf))))) (gb (ao (ao (ao (ao (ao bx))))) (by decide)))) (fun _ _ _ h=>h))
          · refine jg ?_
            · refine yp ?_ ?_ ?_
              · exact uo (yr hq) (qm vg (au 3 (pv 3)) dh) dh (nj _)
              · exact jg (mq 2 (kh nd rfl (Or.inl rfl) (gq (aj j7 (aj j7 (aj (K4 Bs (au 3 (pv 3))) (aj (au 0 (pv 0)) (aj (au 2 (pv 2)) bf))))) (gb (ao (ao (ao (ao (ao bx))))) (by decide)))) (fun _ _ _ h=>h))
              · refine jg ?_
                · refine @mq _ _ _ _ (tOf _ _ _) _ ?_ (fun _ _ _ h=>h)
                  · exact kh nd rfl (Or.inl rfl) (gq (aj j7 (aj dh (aj (gq (aj (au 0 (pv 0)) (aj (au 2 (pv 2)) bf)) (gb (ao (ao bx)) (by decide))) bf))) (gb (ao (ao (ao bx))) (by decide)))
      · exact Ji
    · exact jg (jr (au 2 (pv 2)))
theorem Od (F:Fun K "_law_deep" "_law_deep" zf f fd) (hmg:mg "_law_deep" = some (.ref f)) (b_range:mg "range" = none):je P w K mg base "_law_deep" 1 ["_law_good","_law_cuts"] _root_.K.m5 :=
  ⟨f,fd,Oe F b_range,F.binds (ps:=["_law_good","_law_cuts"]) fun _ _ _ _ _ _ us hl=>bd2 (fun _ _=>rfl) us hl,F.kp,hmg⟩
noncomputable abbrev Jh:Stmt:=top 33
theorem Zv:mj ["_law_script","_law_rows_here","_law_n","_law_high","_law_forms","_law_good","_law_cell","_law_digits","_law_one","_law_either","_law_side","_law_cuts","_law_more"] ["_law_script"] (gw Jh):=⟨rfl,rfl,rfl,by decide +kernel,rfl,by decide +kernel,by decide +kernel⟩
theorem a4l (F:Fun K "law" "law" Jh f fd) (d_law_bad:je P w K mg base "_law_bad" 1 ["_law_good","_law_n","_law_cell"] (_root_.K.sy)) (d_law_cell_at:je P w K mg base "_law_cell_at" 1 ["_law_script","_law_k"] (_root_.K.jm)) (d_law_deep:je P w K mg base "_law_deep" 1 ["_law_good","_law_cuts"] (_root_.K.m5)) (d_law_rows:je P w K mg base "_law_rows" 2 ["_law_script"] (_root_.K.yw)) (d_law_within:je P w K mg base "_law_within" 1 ["_law_paper","_law_good","_law_cell"] (_root_.K.jz)) (d_let_by:je P w K mg base "let_by" 7 ["rows","forms","paper"] (_root_.K.jh)) (b_len:mg "len" = none) (b_range:mg "range" = none):Ad P w K mg base CX0 8 f fd ["_law_script"] (spF K (["_law_script"]:List Str).length _root_.K.Tg):=by
  have d_law_bad:=d_law_bad.mono (show 1≤7 by first | decide | omega)
  have d_law_cell_at:=d_law_cell_at.mono (show 1≤7 by first | decide | omega)
  have d_law_deep:=d_law_deep.mono (show 1≤7 by first | decide | omega)
  have d_law_rows:=d_law_rows.mono (show 2≤7 by first | decide | omega)
  have d_law_within:=d_law_within.mono (show 1≤7 by first | decide | omega)
  have d_let_by:=d_let_by.mono (show 7≤7 by first | decide | omega)
  refine qe (N:=["_law_script","_law_rows_here","_law_n","_law_high","_law_forms","_law_good","_law_cell","_law_digits","_law_one","_law_either","_law_side","_law_cuts","_law_more"]) F Zv (by decide)  fun cdv A outer s H E B hr=>?_
  have hu:=yh hr
  have hq:=hr.units
  have nd:(["_law_script","_law_rows_here","_law_n","_law_high","_law_forms","_law_good","_law_cell","_law_digits","_law_one","_law_either","_law_side","_law_cuts","_law_more"]:List Str).Nodup:=Zv.nd
  refine ig ?_ ?_
  · exact mq 1 (kh nd rfl (Or.inl rfl) (iu d_law_rows hr (by rfl) (aj (au 0 (pv 0)) bf) (cu eq_nil))) (fun _ _ _ h=>h)
  · refine ig ?_ ?_
    · exact mq 2 (kh nd rfl (Or.inl rfl) (qm Gf dh (ou (qy wz (by rfl) b_len PySem.boot_len (aj (au 1 (pv 1)) bf))))) (fun _ _ _ h=>h)
    · refine ig ?_ ?_
      · exact mq 3 (kh nd rfl (Or.inl rfl) (jo hu (jo hu (au 1 (pv 1)) dh (fun _ _=>rfl)) dh (fun _ _=>rfl))) (fun _ _ _ h=>h)
      · refine ig ?_ ?_
        · refine @mq _ _ _ _ (tOf _ _ _) _ ?_ (fun _ _ _ h=>h)
          · refine kh ?_ ?_ ?_ ?_
            · exact nd
            · exact rfl
            · exact Or.inl rfl
            · refine ug ?_ ?_
              · refine aj ?_ ?_
                · refine gq ?_ ?_
                  · refine aj ?_ ?_
                    · exact j7
                    · refine aj ?_ ?_
                      · refine gq ?_ ?_
                        · exact aj (qm su (au 3 (pv 3)) dh) (aj (gq (aj (gq (aj j7 (aj (K4 Bs dh) bf)) (gb (ao (ao bx)) (by decide))) bf) (gb (ao bx) (by decide))) bf)
                        · exact gb (ao (ao bx)) (by decide)
                      · exact bf
                  · exact gb (ao (ao bx)) (by decide)
                · refine aj ?_ ?_
                  · refine gq ?_ ?_
                    · refine aj ?_ ?_
                      · exact j7
                      · refine aj ?_ ?_
                        · refine gq ?_ ?_
                          · refine aj ?_ ?_
                            · exact gq (aj j7 (aj (gq bf (gb bx (by decide))) bf)) (gb (ao (ao bx)) (by decide))
                            · exact aj (gq (aj j7 (aj (gq (aj dh (aj (gq bf (gb bx (by decide))) bf)) (gb (ao (ao bx)) (by decide))) bf)) (gb (ao (ao bx)) (by decide))) bf
                          · exact gb (ao (ao bx)) (by decide)
                        · exact bf
                    · exact gb (ao (ao bx)) (by decide)
                  · exact aj (gq (aj j7 (aj (gq bf (gb bx (by decide))) bf)) (gb (ao (ao bx)) (by decide))) bf
              · exact gb (ao (ao (ao bx))) (by decide)
        · refine ig ?_ ?_
          · refine @mq _ _ _ _ (tOf _ _ _) _ ?_ (fun _ _ _ h=>h)
            · refine kh ?_ ?_ ?_ ?_
              · exact nd
              · exact rfl
              · exact Or.inl rfl
              · refine gq ?_ ?_
                · refine aj ?_ ?_
                  · exact j7
                  · refine aj ?_ ?_
                    · exact gq (aj (gq (aj dh (aj dh bf)) (gb (ao (ao bx)) (by decide))) (aj (gq (aj (au 2 (pv 2)) (aj dh bf)) (gb (ao (ao bx)) (by decide))) bf)) (gb (ao (ao bx)) (by decide))
                    · exact bf
                · exact gb (ao (ao bx)) (by decide)
          · refine ig ?_ ?_
            · refine Gw ?_ ?_ ?_ ?_ ?_ ?_
              · exact PassesOwn.never
              · exact rfl
              · exact Am (Pj (au 0 (pv 0)) (Ml dh) (Ml dh))
              · exact Ab 6 (n8 nd rfl (Or.inl rfl))
              · refine ig ?_ ?_
                · exact mq 7 (kh nd rfl (Or.inl rfl) (qm Ek (au 6 (pv 6)) dh)) (fun _ _ _ h=>h)
                · refine ig ?_ ?_
                  · refine yp ?_ ?_ ?_
                    · refine uo zm ?_ ?_ ?_
                      · refine iu d_let_by ?_ ?_ ?_ ?_
                        · exact hr
                        · exact by rfl
                        · exact aj (au 1 (pv 1)) (aj (au 4 (pv 4)) (aj (iu d_law_within hr (by rfl) (aj (au 5 (pv 5)) (aj (au 5 (pv 5)) (aj (au 7 (pv 7)) bf))) (cu (cu (cu eq_nil)))) bf))
                        · exact cu (cu (cu eq_nil))
                      · exact zy
                      · exact nj _
                    · exact jg (jr zy)
                    · exact v8
                  · refine jg ?_
                    · refine yp ?_ ?_ ?_
                      · refine uo zm ?_ ?_ ?_
                        · refine iu d_let_by ?_ ?_ ?_ ?_
                          · exact hr
                          · exact by rfl
                          · refine aj ?_ ?_
                            · exact au 1 (pv 1)
                            · refine aj ?_ ?_
                              · exact au 4 (pv 4)
                              · refine aj ?_ ?_
                                · refine iu d_law_within ?_ ?_ ?_ ?_
                                  · exact hr
                                  · exact by rfl
                                  · exact aj (iu d_law_bad hr (by rfl) (aj (au 5 (pv 5)) (aj (au 2 (pv 2)) (aj (au 6 (pv 6)) bf))) (cu (cu (cu eq_nil)))) (aj (au 5 (pv 5)) (aj (au 7 (pv 7)) bf))
                                  · exact cu (cu (cu eq_nil))
                                · exact bf
                          · exact cu (cu (cu eq_nil))
                        · exact zy
                        · exact nj _
                      · exact jg (jr zy)
                      · exact v8
              · exact Ag
            · refine ig ?_ ?_
              · refine Gw ?_ ?_ ?_ ?_ ?_ ?_
                · exact PassesOwn.never
                · exact rfl
                · exact Jx (by rfl) b_range dh
                · exact Ab 6 (n8 nd rfl (Or.inl rfl))
                · refine jg ?_
                  · refine yp ?_ ?_ ?_
                    · refine uo zm ?_ ?_ ?_
                      · exact iu d_let_by hr (by rfl) (aj (au 1 (pv 1)) (aj (au 4 (pv 4)) (aj (iu d_law_bad hr (by rfl) (aj (au 5 (pv 5)) (aj (au 2 (pv 2)) (aj (au 6 (pv 6)) bf))) (cu (cu (cu eq_nil)))) bf))) (cu (cu (cu eq_nil)))
                      · exact zy
                      · exact nj _
                    · exact jg (jr zy)
                    · exact v8
                · exact Ji
              · refine ig ?_ ?_
                · refine @mq _ _ _ _ (tOf _ _ _) _ ?_ (fun _ _ _ h=>h)
                  · refine kh ?_ ?_ ?_ ?_
                    · exact nd
                    · exact rfl
                    · exact Or.inl rfl
                    · refine gq ?_ ?_
                      · refine aj ?_ ?_
                        · exact j7
                        · refine aj ?_ ?_
                          · exact gq (aj (gq (aj dh (aj dh bf)) (gb (ao (ao bx)) (by decide))) (aj (gq (aj (au 2 (pv 2)) (aj dh bf)) (gb (ao (ao bx)) (by decide))) bf)) (gb (ao (ao bx)) (by decide))
                          · exact bf
                      · exact gb (ao (ao bx)) (by decide)
                · refine ig ?_ ?_
                  · refine @mq _ _ _ _ (tOf _ _ _) _ ?_ (fun _ _ _ h=>h)
                    · refine kh ?_ ?_ ?_ ?_
                      · exact nd
                      · exact rfl
                      · exact Or.inl rfl
                      · refine ug ?_ ?_
                        · refine aj ?_ ?_
                          · refine gq ?_ ?_
                            · refine aj ?_ ?_
                              · exact j7
                              · refine aj ?_ ?_
                                · refine gq ?_ ?_
                                  · refine aj ?_ ?_
                                    · exact jo hu (au 4 (pv 4)) dh (fun _ _=>rfl)
                                    · exact aj (gq (aj j7 (aj (gq (aj dh (aj (gq bf (gb bx (by decide))) bf)) (gb (ao (ao bx)) (by decide))) bf)) (gb (ao (ao bx)) (by decide))) bf
                                  · exact gb (ao (ao bx)) (by decide)
                                · exact bf
                            · exact gb (ao (ao bx)) (by decide)
                          · exact bf
                        · exact gb (ao bx) (by decide)
                  · refine ig ?_ ?_
                    · refine yp ?_ ?_ ?_
                      · refine uo zm ?_ ?_ ?_
                        · refine iu d_let_by ?_ ?_ ?_ ?_
                          · exact hr
                          · exact by rfl
                          · refine aj ?_ ?_
                            · exact au 1 (pv 1)
                            · exact aj (au 9 (pv 9)) (aj (gq (aj j7 (aj dh (aj (gq (aj (au 8 (pv 8)) (aj (au 8 (pv 8)) bf)) (gb (ao (ao bx)) (by decide))) bf))) (gb (ao (ao (ao bx))) (by decide))) bf)
                          · exact cu (cu (cu eq_nil))
                        · exact zy
                        · exact nj _
                      · exact jg (jr zy)
                      · exact v8
                    · refine ig ?_ ?_
                      · refine @mq _ _ _ _ (tOf _ _ _) _ ?_ (fun _ _ _ h=>h)
                        · refine kh ?_ ?_ ?_ ?_
                          · exact nd
                          · exact rfl
                          · exact Or.inl rfl
                          · refine gq ?_ ?_
                            · refine aj ?_ ?_
                              · exact j7
                              · refine aj ?_ ?_
                                · exact gq (aj (gq (aj dh (aj dh bf)) (gb (ao (ao bx)) (by decide))) (aj (gq (aj (au 2 (pv 2)) (aj dh bf)) (gb (ao (ao bx)) (by decide))) bf)) (gb (ao (ao bx)) (by decide))
                                · exact bf
                            · exact gb (ao (ao bx)) (by decide)
                      · refine ig ?_ ?_
                        · refine yp ?_ ?_ ?_
                          · refine uo zm ?_ ?_ ?_
                            · refine iu d_let_by ?_ ?_ ?_ ?_
                              · exact hr
                              · exact by rfl
                              · refine aj ?_ ?_
                                · exact au 1 (pv 1)
                                · refine aj ?_ ?_
                                  · exact ug bf (gb bx (by decide))
                                  · refine aj ?_ ?_
                                    · refine gq ?_ ?_
                                      · exact aj j7 (aj j7 (aj (qm Ux (jo hu (jo hu (au 1 (pv 1)) dh (fun _ _=>rfl)) dh (fun _ _=>rfl)) dh) (aj (au 10 (pv 10)) (aj (au 10 (pv 10)) bf))))
                                      · exact gb (ao (ao (ao (ao (ao bx))))) (by decide)
                                    · exact bf
                              · exact cu (cu (cu eq_nil))
                            · exact zy
                            · exact nj _
                          · exact jg (jr zy)
                          · exact v8
                        · refine ig ?_ ?_
                          · exact mq 11 (kh nd rfl (Or.inl rfl) (qm vg (iu d_law_cell_at hr (by rfl) (aj (au 0 (pv 0)) (aj dh bf)) (cu (cu eq_nil))) dh)) (fun _ _ _ h=>h)
                          · refine ig ?_ ?_
                            · exact mq 12 (kh nd rfl (Or.inl rfl) (qm su dh (qm vg (qm Ek (iu d_law_cell_at hr (by rfl) (aj (au 0 (pv 0)) (aj dh bf)) (cu (cu eq_nil))) dh) dh))) (fun _ _ _ h=>h)
                            · refine ig ?_ ?_
                              · refine yp ?_ ?_ ?_
                                · refine PW.pt ?_
                                  · refine Yv ?_ ?_
                                    · refine uo zm ?_ ?_ ?_
                                      · exact iu d_let_by hr (by rfl) (aj (au 1 (pv 1)) (aj (au 4 (pv 4)) (aj (iu d_law_deep hr (by rfl) (aj (au 5 (pv 5)) (aj (au 11 (pv 11)) bf)) (cu (cu eq_nil))) bf))) (cu (cu (cu eq_nil)))
                                      · exact zy
                                      · exact nj _
                                    · exact Q5 (uo zm (iu d_let_by hr (by rfl) (aj (au 1 (pv 1)) (aj (au 4 (pv 4)) (aj (iu d_law_deep hr (by rfl) (aj (au 5 (pv 5)) (aj dh bf)) (cu (cu eq_nil))) bf))) (cu (cu (cu eq_nil)))) zy (nj _))
                                · exact jg (jr zy)
                                · exact v8
                              · refine jg ?_
                                · refine jr ?_
                                  · refine Ba ?_ ?_
                                    · exact Aa Wc (iu d_let_by hr (by rfl) (aj (au 1 (pv 1)) (aj (au 4 (pv 4)) (aj (iu d_law_deep hr (by rfl) (aj (au 5 (pv 5)) (aj dh bf)) (cu (cu eq_nil))) bf))) (cu (cu (cu eq_nil)))) zy (nj _)
                                    · refine Dk ?_
                                      · exact Aa Wc (iu d_let_by hr (by rfl) (aj (au 1 (pv 1)) (aj (au 4 (pv 4)) (aj (iu d_law_deep hr (by rfl) (aj (au 5 (pv 5)) (aj (au 12 (pv 12)) bf)) (cu (cu eq_nil))) bf))) (cu (cu (cu eq_nil)))) zy (nj _)
end
end D
end
noncomputable section
set_option linter.all false
set_option maxRecDepth 100000
set_option maxHeartbeats 1000000
namespace D
open PySem L2 C
theorem all_mk {l:PySem.W.OpenLaw} {w:World} {K:PySem.W.Frag} {h:Heap} {mg:Str→Option Value} {fa f1 f2 f3 f4 f5 f6 f7 f8 f9 f10 f11 f12 f13 f14 f15 f16 f17 f18 f19 f20 f21 f22 f23 f24 f25 f26 f27 f28 f29 f30:Addr} (X:K.In h) (G:h.Ns mainGlobals mg) (hfa:mg "law" = some (.ref fa))
    {od1 an1 od2 an2 od3 an3 od4 an4 od5 an5 od6 an6 od7 an7 od8 an8 od9 an9 od10 an10 od11 an11 od12 an12 od13 an13 od14 an14 od15 an15 od16 an16 od17 an17 od18 an18 od19 an19 od20 an20 od21 an21 od22 an22 od23 an23 od24 an24 od25 an25 od26 an26 od27 an27 od28 an28 od29 an29 od30 an30:Option Addr} {sl1 sl2 sl3 sl4 sl5 sl6 sl7 sl8 sl9 sl10 sl11 sl12 sl13 sl14 sl15 sl16 sl17 sl18 sl19 sl20 sl21 sl22 sl23 sl24 sl25 sl26 sl27 sl28 sl29 sl30:Array (Option Value)} {oc1 kV1 dc1 pm1 cd1 ct1 oc2 kV2 dc2 pm2 cd2 ct2 oc3 kV3 dc3 pm3 cd3 ct3 oc4 kV4 dc4 pm4 cd4 ct4 oc5 kV5 dc5 pm5 cd5 ct5 oc6 kV6 dc6 pm6 cd6 ct6 oc7 kV7 dc7 pm7 cd7 ct7 oc8 kV8 dc8 pm8 cd8 ct8 oc9 kV9 dc9 pm9 cd9 ct9 oc10 kV10 dc10 pm10 cd10 ct10 oc11 kV11 dc11 pm11 cd11 ct11 oc12 kV12 dc12 pm12 cd12 ct12 oc13 kV13 dc13 pm13 cd13 ct13 oc14 kV14 dc14 pm14 cd14 ct14 oc15 kV15 dc15 pm15 cd15 ct15 oc16 kV16 dc16 pm16 cd16 ct16 oc17 kV17 dc17 pm17 cd17 ct17 oc18 kV18 dc18 pm18 cd18 ct18 oc19 kV19 dc19 pm19 cd19 ct19 oc20 kV20 dc20 pm20 cd20 ct20 oc21 kV21 dc21 pm21 cd21 ct21 oc22 kV22 dc22 pm22 cd22 ct22 oc23 kV23 dc23 pm23 cd23 ct23 oc24 kV24 dc24 pm24 cd24 ct24 oc25 kV25 dc25 pm25 cd25 ct25 oc26 kV26 dc26 pm26 cd26 ct26 oc27 kV27 dc27 pm27 cd27 ct27 oc28 kV28 dc28 pm28 cd28 ct28 oc29 kV29 dc29 pm29 cd29 ct29 oc30 kV30 dc30 pm30 cd30 ct30:Value}
    (a1:PySem.W.nsIn K mainGlobals "sum_of" = some (some (.ref f1))) (l1:K.lookup f1=some ⟨oc1,od1,.func (PySem.W.fnOf "sum_of" "sum_of" (m7 Bv) (lq Bv) (gw Bv) .none kV1 dc1 pm1 an1 cd1 ct1),sl1⟩) (c1:PySem.W.codeIn K cd1 "sum_of" = true) (k1:PySem.W.keepIn K (.ref f1)=true)
    (a2:PySem.W.nsIn K mainGlobals "plus" = some (some (.ref f2))) (l2:K.lookup f2=some ⟨oc2,od2,.func (PySem.W.fnOf "plus" "plus" (m7 Gg) (lq Gg) (gw Gg) .none kV2 dc2 pm2 an2 cd2 ct2),sl2⟩) (c2:PySem.W.codeIn K cd2 "plus" = true) (k2:PySem.W.keepIn K (.ref f2)=true)
    (a3:PySem.W.nsIn K mainGlobals "laid_in" = some (some (.ref f3))) (l3:K.lookup f3=some ⟨oc3,od3,.func (PySem.W.fnOf "laid_in" "laid_in" (m7 Ah) (lq Ah) (gw Ah) .none kV3 dc3 pm3 an3 cd3 ct3),sl3⟩) (c3:PySem.W.codeIn K cd3 "laid_in" = true) (k3:PySem.W.keepIn K (.ref f3)=true)
    (a4:PySem.W.nsIn K mainGlobals "plain_tuple" = some (some (.ref f4))) (l4:K.lookup f4=some ⟨oc4,od4,.func (PySem.W.fnOf "plain_tuple" "plain_tuple" (m7 v7) (lq v7) (gw v7) .none kV4 dc4 pm4 an4 cd4 ct4),sl4⟩) (c4:PySem.W.codeIn K cd4 "plain_tuple" = true) (k4:PySem.W.keepIn K (.ref f4)=true)
    (a5:PySem.W.nsIn K mainGlobals "is_kind" = some (some (.ref f5))) (l5:K.lookup f5=some ⟨oc5,od5,.func (PySem.W.fnOf "is_kind" "is_kind" (m7 Al) (lq Al) (gw Al) .none kV5 dc5 pm5 an5 cd5 ct5),sl5⟩) (c5:PySem.W.codeIn K cd5 "is_kind" = true) (k5:PySem.W.keepIn K (.ref f5)=true)
    (a6:PySem.W.nsIn K mainGlobals "is_whole" = some (some (.ref f6))) (l6:K.lookup f6=some ⟨oc6,od6,.func (PySem.W.fnOf "is_whole" "is_whole" (m7 zc) (lq zc) (gw zc) .none kV6 dc6 pm6 an6 cd6 ct6),sl6⟩) (c6:PySem.W.codeIn K cd6 "is_whole" = true) (k6:PySem.W.keepIn K (.ref f6)=true)
    (a7:PySem.W.nsIn K mainGlobals "is_place" = some (some (.ref f7))) (l7:K.lookup f7=some ⟨oc7,od7,.func (PySem.W.fnOf "is_place" "is_place" (m7 yu) (lq yu) (gw yu) .none kV7 dc7 pm7 an7 cd7 ct7),sl7⟩) (c7:PySem.W.codeIn K cd7 "is_place" = true) (k7:PySem.W.keepIn K (.ref f7)=true)
    (a8:PySem.W.nsIn K mainGlobals "papers_of_or" = some (some (.ref f8))) (l8:K.lookup f8=some ⟨oc8,od8,.func (PySem.W.fnOf "papers_of_or" "papers_of_or" (m7 uc) (lq uc) (gw uc) .none kV8 dc8 pm8 an8 cd8 ct8),sl8⟩) (c8:PySem.W.codeIn K cd8 "papers_of_or" = true) (k8:PySem.W.keepIn K (.ref f8)=true)
    (a9:PySem.W.nsIn K mainGlobals "at_most" = some (some (.ref f9))) (l9:K.lookup f9=some ⟨oc9,od9,.func (PySem.W.fnOf "at_most" "at_most" (m7 Ao) (lq Ao) (gw Ao) .none kV9 dc9 pm9 an9 cd9 ct9),sl9⟩) (c9:PySem.W.codeIn K cd9 "at_most" = true) (k9:PySem.W.keepIn K (.ref f9)=true)
    (a10:PySem.W.nsIn K mainGlobals "at_least" = some (some (.ref f10))) (l10:K.lookup f10=some ⟨oc10,od10,.func (PySem.W.fnOf "at_least" "at_least" (m7 za) (lq za) (gw za) .none kV10 dc10 pm10 an10 cd10 ct10),sl10⟩) (c10:PySem.W.codeIn K cd10 "at_least" = true) (k10:PySem.W.keepIn K (.ref f10)=true)
    (a11:PySem.W.nsIn K mainGlobals "papers_of_cut" = some (some (.ref f11))) (l11:K.lookup f11=some ⟨oc11,od11,.func (PySem.W.fnOf "papers_of_cut" "papers_of_cut" (m7 qw) (lq qw) (gw qw) .none kV11 dc11 pm11 an11 cd11 ct11),sl11⟩) (c11:PySem.W.codeIn K cd11 "papers_of_cut" = true) (k11:PySem.W.keepIn K (.ref f11)=true)
    (a12:PySem.W.nsIn K mainGlobals "added_up" = some (some (.ref f12))) (l12:K.lookup f12=some ⟨oc12,od12,.func (PySem.W.fnOf "added_up" "added_up" (m7 yx) (lq yx) (gw yx) .none kV12 dc12 pm12 an12 cd12 ct12),sl12⟩) (c12:PySem.W.codeIn K cd12 "added_up" = true) (k12:PySem.W.keepIn K (.ref f12)=true)
    (a13:PySem.W.nsIn K mainGlobals "is_atom" = some (some (.ref f13))) (l13:K.lookup f13=some ⟨oc13,od13,.func (PySem.W.fnOf "is_atom" "is_atom" (m7 Af) (lq Af) (gw Af) .none kV13 dc13 pm13 an13 cd13 ct13),sl13⟩) (c13:PySem.W.codeIn K cd13 "is_atom" = true) (k13:PySem.W.keepIn K (.ref f13)=true)
    (a14:PySem.W.nsIn K mainGlobals "is_sum_row" = some (some (.ref f14))) (l14:K.lookup f14=some ⟨oc14,od14,.func (PySem.W.fnOf "is_sum_row" "is_sum_row" (m7 vp) (lq vp) (gw vp) .none kV14 dc14 pm14 an14 cd14 ct14),sl14⟩) (c14:PySem.W.codeIn K cd14 "is_sum_row" = true) (k14:PySem.W.keepIn K (.ref f14)=true)
    (a15:PySem.W.nsIn K mainGlobals "is_sum" = some (some (.ref f15))) (l15:K.lookup f15=some ⟨oc15,od15,.func (PySem.W.fnOf "is_sum" "is_sum" (m7 Bo) (lq Bo) (gw Bo) .none kV15 dc15 pm15 an15 cd15 ct15),sl15⟩) (c15:PySem.W.codeIn K cd15 "is_sum" = true) (k15:PySem.W.keepIn K (.ref f15)=true)
    (a16:PySem.W.nsIn K mainGlobals "is_zero_pair" = some (some (.ref f16))) (l16:K.lookup f16=some ⟨oc16,od16,.func (PySem.W.fnOf "is_zero_pair" "is_zero_pair" (m7 u9) (lq u9) (gw u9) .none kV16 dc16 pm16 an16 cd16 ct16),sl16⟩) (c16:PySem.W.codeIn K cd16 "is_zero_pair" = true) (k16:PySem.W.keepIn K (.ref f16)=true)
    (a17:PySem.W.nsIn K mainGlobals "is_rest_row" = some (some (.ref f17))) (l17:K.lookup f17=some ⟨oc17,od17,.func (PySem.W.fnOf "is_rest_row" "is_rest_row" (m7 ur) (lq ur) (gw ur) .none kV17 dc17 pm17 an17 cd17 ct17),sl17⟩) (c17:PySem.W.codeIn K cd17 "is_rest_row" = true) (k17:PySem.W.keepIn K (.ref f17)=true)
    (a18:PySem.W.nsIn K mainGlobals "is_rest" = some (some (.ref f18))) (l18:K.lookup f18=some ⟨oc18,od18,.func (PySem.W.fnOf "is_rest" "is_rest" (m7 Ak) (lq Ak) (gw Ak) .none kV18 dc18 pm18 an18 cd18 ct18),sl18⟩) (c18:PySem.W.codeIn K cd18 "is_rest" = true) (k18:PySem.W.keepIn K (.ref f18)=true)
    (a19:PySem.W.nsIn K mainGlobals "plain_row" = some (some (.ref f19))) (l19:K.lookup f19=some ⟨oc19,od19,.func (PySem.W.fnOf "plain_row" "plain_row" (m7 yd) (lq yd) (gw yd) .none kV19 dc19 pm19 an19 cd19 ct19),sl19⟩) (c19:PySem.W.codeIn K cd19 "plain_row" = true) (k19:PySem.W.keepIn K (.ref f19)=true)
    (a20:PySem.W.nsIn K mainGlobals "plain_rows" = some (some (.ref f20))) (l20:K.lookup f20=some ⟨oc20,od20,.func (PySem.W.fnOf "plain_rows" "plain_rows" (m7 vo) (lq vo) (gw vo) .none kV20 dc20 pm20 an20 cd20 ct20),sl20⟩) (c20:PySem.W.codeIn K cd20 "plain_rows" = true) (k20:PySem.W.keepIn K (.ref f20)=true)
    (a21:PySem.W.nsIn K mainGlobals "papers_within" = some (some (.ref f21))) (l21:K.lookup f21=some ⟨oc21,od21,.func (PySem.W.fnOf "papers_within" "papers_within" (m7 qx) (lq qx) (gw qx) .none kV21 dc21 pm21 an21 cd21 ct21),sl21⟩) (c21:PySem.W.codeIn K cd21 "papers_within" = true) (k21:PySem.W.keepIn K (.ref f21)=true)
    (a22:PySem.W.nsIn K mainGlobals "first_lists" = some (some (.ref f22))) (l22:K.lookup f22=some ⟨oc22,od22,.func (PySem.W.fnOf "first_lists" "first_lists" (m7 ux) (lq ux) (gw ux) .none kV22 dc22 pm22 an22 cd22 ct22),sl22⟩) (c22:PySem.W.codeIn K cd22 "first_lists" = true) (k22:PySem.W.keepIn K (.ref f22)=true)
    (a23:PySem.W.nsIn K mainGlobals "let_by" = some (some (.ref f23))) (l23:K.lookup f23=some ⟨oc23,od23,.func (PySem.W.fnOf "let_by" "let_by" (m7 Bt) (lq Bt) (gw Bt) .none kV23 dc23 pm23 an23 cd23 ct23),sl23⟩) (c23:PySem.W.codeIn K cd23 "let_by" = true) (k23:PySem.W.keepIn K (.ref f23)=true)
    (a24:PySem.W.nsIn K mainGlobals "_law_cell_at" = some (some (.ref f24))) (l24:K.lookup f24=some ⟨oc24,od24,.func (PySem.W.fnOf "_law_cell_at" "_law_cell_at" (m7 uq) (lq uq) (gw uq) .none kV24 dc24 pm24 an24 cd24 ct24),sl24⟩) (c24:PySem.W.codeIn K cd24 "_law_cell_at" = true) (k24:PySem.W.keepIn K (.ref f24)=true)
    (a25:PySem.W.nsIn K mainGlobals "_law_signed" = some (some (.ref f25))) (l25:K.lookup f25=some ⟨oc25,od25,.func (PySem.W.fnOf "_law_signed" "_law_signed" (m7 vm) (lq vm) (gw vm) .none kV25 dc25 pm25 an25 cd25 ct25),sl25⟩) (c25:PySem.W.codeIn K cd25 "_law_signed" = true) (k25:PySem.W.keepIn K (.ref f25)=true)
    (a26:PySem.W.nsIn K mainGlobals "_law_rows" = some (some (.ref f26))) (l26:K.lookup f26=some ⟨oc26,od26,.func (PySem.W.fnOf "_law_rows" "_law_rows" (m7 zj) (lq zj) (gw zj) .none kV26 dc26 pm26 an26 cd26 ct26),sl26⟩) (c26:PySem.W.codeIn K cd26 "_law_rows" = true) (k26:PySem.W.keepIn K (.ref f26)=true)
    (a27:PySem.W.nsIn K mainGlobals "_law_bad" = some (some (.ref f27))) (l27:K.lookup f27=some ⟨oc27,od27,.func (PySem.W.fnOf "_law_bad" "_law_bad" (m7 Ai) (lq Ai) (gw Ai) .none kV27 dc27 pm27 an27 cd27 ct27),sl27⟩) (c27:PySem.W.codeIn K cd27 "_law_bad" = true) (k27:PySem.W.keepIn K (.ref f27)=true)
    (a28:PySem.W.nsIn K mainGlobals "_law_within" = some (some (.ref f28))) (l28:K.lookup f28=some ⟨oc28,od28,.func (PySem.W.fnOf "_law_within" "_law_within" (m7 vq) (lq vq) (gw vq) .none kV28 dc28 pm28 an28 cd28 ct28),sl28⟩) (c28:PySem.W.codeIn K cd28 "_law_within" = true) (k28:PySem.W.keepIn K (.ref f28)=true)
    (a29:PySem.W.nsIn K mainGlobals "_law_deep" = some (some (.ref f29))) (l29:K.lookup f29=some ⟨oc29,od29,.func (PySem.W.fnOf "_law_deep" "_law_deep" (m7 zf) (lq zf) (gw zf) .none kV29 dc29 pm29 an29 cd29 ct29),sl29⟩) (c29:PySem.W.codeIn K cd29 "_law_deep" = true) (k29:PySem.W.keepIn K (.ref f29)=true)
    (a30:PySem.W.nsIn K mainGlobals "law" = some (some (.ref f30))) (l30:K.lookup f30=some ⟨oc30,od30,.func (PySem.W.fnOf "law" "law" (m7 Jh) (lq Jh) (gw Jh) .none kV30 dc30 pm30 an30 cd30 ct30),sl30⟩) (c30:PySem.W.codeIn K cd30 "law" = true) (k30:PySem.W.keepIn K (.ref f30)=true)
    (z_abs:PySem.W.nsIn K mainGlobals "abs" = some none)
    (z_all:PySem.W.nsIn K mainGlobals "all" = some none)
    (z_bool:PySem.W.nsIn K mainGlobals "bool" = some none)
    (z_int:PySem.W.nsIn K mainGlobals "int" = some none)
    (z_isinstance:PySem.W.nsIn K mainGlobals "isinstance" = some none)
    (z_len:PySem.W.nsIn K mainGlobals "len" = some none)
    (z_list:PySem.W.nsIn K mainGlobals "list" = some none)
    (z_range:PySem.W.nsIn K mainGlobals "range" = some none)
    (z_sorted:PySem.W.nsIn K mainGlobals "sorted" = some none)
    (z_str:PySem.W.nsIn K mainGlobals "str" = some none)
    (z_tuple:PySem.W.nsIn K mainGlobals "tuple" = some none)
    (z_zip:PySem.W.nsIn K mainGlobals "zip" = some none)
    {tk_MOST_DEEP:Tok} (zc_MOST_DEEP:PySem.W.nsIn K mainGlobals "MOST_DEEP" = some (some (.int 90 tk_MOST_DEEP)))
    : ∃ fd:FuncData,(∀ (s:Shared) (v:Value),BindsTo s fd ⟨[v],[]⟩ [("_law_script",v)])∧∀ base:Heap,K.In base→base.Ns mainGlobals mg→Ad l.prog w K mg base CX0 8 fa fd ["_law_script"] (spF K 1 _root_.K.Tg):=by
  have e:=hfa.symm.trans (PySem.W.mg_of X G a30)
  cases e
  have F1:=rm (st:=Bv) l1 c1 k1
  have F2:=rm (st:=Gg) l2 c2 k2
  have F3:=rm (st:=Ah) l3 c3 k3
  have F4:=rm (st:=v7) l4 c4 k4
  have F5:=rm (st:=Al) l5 c5 k5
  have F6:=rm (st:=zc) l6 c6 k6
  have F7:=rm (st:=yu) l7 c7 k7
  have F8:=rm (st:=uc) l8 c8 k8
  have F9:=rm (st:=Ao) l9 c9 k9
  have F10:=rm (st:=za) l10 c10 k10
  have F11:=rm (st:=qw) l11 c11 k11
  have F12:=rm (st:=yx) l12 c12 k12
  have F13:=rm (st:=Af) l13 c13 k13
  have F14:=rm (st:=vp) l14 c14 k14
  have F15:=rm (st:=Bo) l15 c15 k15
  have F16:=rm (st:=u9) l16 c16 k16
  have F17:=rm (st:=ur) l17 c17 k17
  have F18:=rm (st:=Ak) l18 c18 k18
  have F19:=rm (st:=yd) l19 c19 k19
  have F20:=rm (st:=vo) l20 c20 k20
  have F21:=rm (st:=qx) l21 c21 k21
  have F22:=rm (st:=ux) l22 c22 k22
  have F23:=rm (st:=Bt) l23 c23 k23
  have F24:=rm (st:=uq) l24 c24 k24
  have F25:=rm (st:=vm) l25 c25 k25
  have F26:=rm (st:=zj) l26 c26 k26
  have F27:=rm (st:=Ai) l27 c27 k27
  have F28:=rm (st:=vq) l28 c28 k28
  have F29:=rm (st:=zf) l29 c29 k29
  have F30:=rm (st:=Jh) l30 c30 k30
  have b_abs:=PySem.W.mg_none_of X G z_abs
  have b_all:=PySem.W.mg_none_of X G z_all
  have b_bool:=PySem.W.mg_none_of X G z_bool
  have b_int:=PySem.W.mg_none_of X G z_int
  have b_isinstance:=PySem.W.mg_none_of X G z_isinstance
  have b_len:=PySem.W.mg_none_of X G z_len
  have b_list:=PySem.W.mg_none_of X G z_list
  have b_range:=PySem.W.mg_none_of X G z_range
  have b_sorted:=PySem.W.mg_none_of X G z_sorted
  have b_str:=PySem.W.mg_none_of X G z_str
  have b_tuple:=PySem.W.mg_none_of X G z_tuple
  have b_zip:=PySem.W.mg_none_of X G z_zip
  have c_MOST_DEEP:∃ tk,mg "MOST_DEEP" = some (.int 90 tk):=⟨_,PySem.W.mg_of X G zc_MOST_DEEP⟩
  refine ⟨PySem.W.fnOf "law" "law" (m7 Jh) (lq Jh) (gw Jh) .none kV30 dc30 pm30 an30 cd30 ct30,fun s v=>.of_eq rfl,fun base _ _=>?_⟩
  have d_sum_of:=Vf (P:=l.prog) (w:=w) (base:=base) F1 (PySem.W.mg_of X G a1) b_sorted b_tuple
  have d_plus:=a05 (P:=l.prog) (w:=w) (base:=base) F2 (PySem.W.mg_of X G a2) d_sum_of
  have d_laid_in:=Ry (P:=l.prog) (w:=w) (base:=base) F3 (PySem.W.mg_of X G a3) b_len b_list
  have d_plain_tuple:=Ih (P:=l.prog) (w:=w) (base:=base) F4 (PySem.W.mg_of X G a4) b_isinstance b_tuple
  have d_is_kind:=Rh (P:=l.prog) (w:=w) (base:=base) F5 (PySem.W.mg_of X G a5) b_isinstance b_len b_str
  have d_is_whole:=Ol (P:=l.prog) (w:=w) (base:=base) F6 (PySem.W.mg_of X G a6) b_bool b_int b_isinstance
  have d_is_place:=Oh (P:=l.prog) (w:=w) (base:=base) F7 (PySem.W.mg_of X G a7) b_len
  have d_papers_of_or:=Ga (P:=l.prog) (w:=w) (base:=base) F8 (PySem.W.mg_of X G a8) d_is_place d_laid_in d_plain_tuple b_isinstance b_len b_tuple b_zip
  have d_at_most:=Rx (P:=l.prog) (w:=w) (base:=base) F9 (PySem.W.mg_of X G a9)
  have d_at_least:=Mp (P:=l.prog) (w:=w) (base:=base) F10 (PySem.W.mg_of X G a10)
  have d_papers_of_cut:=Fi (P:=l.prog) (w:=w) (base:=base) F11 (PySem.W.mg_of X G a11) d_at_least d_at_most d_laid_in b_isinstance b_len b_str
  have d_added_up:=Oq (P:=l.prog) (w:=w) (base:=base) F12 (PySem.W.mg_of X G a12) d_sum_of
  have d_is_atom:=Tj (P:=l.prog) (w:=w) (base:=base) F13 (PySem.W.mg_of X G a13) d_is_place
  have d_is_sum_row:=Jo (P:=l.prog) (w:=w) (base:=base) F14 (PySem.W.mg_of X G a14) d_is_atom b_len
  have d_is_sum:=Us (P:=l.prog) (w:=w) (base:=base) F15 (PySem.W.mg_of X G a15) d_added_up d_is_sum_row b_all
  have d_is_zero_pair:=G6 (P:=l.prog) (w:=w) (base:=base) F16 (PySem.W.mg_of X G a16) d_is_atom d_plus
  have d_is_rest_row:=Io (P:=l.prog) (w:=w) (base:=base) F17 (PySem.W.mg_of X G a17) d_is_atom d_is_zero_pair b_len
  have d_is_rest:=Rf (P:=l.prog) (w:=w) (base:=base) F18 (PySem.W.mg_of X G a18) d_added_up d_is_rest_row b_all
  have d_plain_row:=Ke (P:=l.prog) (w:=w) (base:=base) F19 (PySem.W.mg_of X G a19) d_is_whole d_plain_tuple b_all b_int b_tuple
  have d_plain_rows:=K3 (P:=l.prog) (w:=w) (base:=base) F20 (PySem.W.mg_of X G a20) d_plain_row d_plain_tuple
  have d_papers_within:=Ft (P:=l.prog) (w:=w) (base:=base) F21 (PySem.W.mg_of X G a21) d_is_kind d_is_rest d_is_sum d_is_whole d_papers_of_cut d_papers_of_or d_plain_rows d_plain_tuple b_int
  have d_first_lists:=Im (P:=l.prog) (w:=w) (base:=base) F22 (PySem.W.mg_of X G a22) d_at_least d_at_most
  have d_let_by:=V5 (P:=l.prog) (w:=w) (base:=base) F23 (PySem.W.mg_of X G a23) d_first_lists d_laid_in d_papers_within b_len c_MOST_DEEP
  have d_law_cell_at:=Ip (P:=l.prog) (w:=w) (base:=base) F24 (PySem.W.mg_of X G a24) b_len
  have d_law_signed:=Jm (P:=l.prog) (w:=w) (base:=base) F25 (PySem.W.mg_of X G a25)
  have d_law_rows:=Nt (P:=l.prog) (w:=w) (base:=base) F26 (PySem.W.mg_of X G a26) d_law_cell_at d_law_signed b_abs b_range
  have d_law_bad:=T4 (P:=l.prog) (w:=w) (base:=base) F27 (PySem.W.mg_of X G a27) b_list
  have d_law_within:=Jr (P:=l.prog) (w:=w) (base:=base) F28 (PySem.W.mg_of X G a28)
  have d_law_deep:=Od (P:=l.prog) (w:=w) (base:=base) F29 (PySem.W.mg_of X G a29) b_range
  exact a4l F30 d_law_bad d_law_cell_at d_law_deep d_law_rows d_law_within d_let_by b_len b_range
theorem walk {l:PySem.W.OpenLaw} {q:Program} {loose:List Str} {XP:(Str→Option Value)→Heap→Prop} {YP:World→Heap→Prop} {d:DefRec} {K:Params→PySem.W.Frag} (hn:l.most=some 63) (hdf:d.params.defaults=[])
    (hY:∀ (w:World) (h:Heap),YP w h→(K w.params).In h)
    (F:∀ (w:World) (mg:Str→Option Value) (fa:Addr) (h:Heap),(K w.params).In h→h.Ns mainGlobals mg→mg d.name=some (.ref fa) →
      ∃ fd:FuncData,(∀ (s:Shared) (u:Value),BindsTo s fd ⟨[u],[]⟩ [("_law_script",u)])∧∀ base:Heap,(K w.params).In base→base.Ns mainGlobals mg→Ad l.prog w (K w.params) mg base CX0 8 fa fd ["_law_script"] (spF (K w.params) 1 _root_.K.Tg)) :
    PySem.W.WalkO q loose XP YP l.row.toRowW d [] (fun f vs=>PySem.call f vs) :=
  L2.a2h (n:=63) (k:=8) (x := "_law_script") (CX:=fun _=>CX0) (sp:=fun w=>spF (K w.params) 1 _root_.K.Tg) hn (by decide) hdf ⟨rfl,by decide,by decide⟩ hY F (fun w H a ns hl _ hS=>a4m hS (_root_.K.Ys (cs:=ns))) fun _ _ _ _ _ z=>z
end D
open PySem PySem.W PyProof.Rows
set_option maxRecDepth 100000 in
set_option maxHeartbeats 0 in
theorem PySem.Challenge.cw_calm_k49_what_is_no_paper_holds : PySem.Challenge.rw_calm_k49_what_is_no_paper.Holds := by
  w_on; o_law; k_head; (case hw=>w_witness2)
  k_fill
  refine D.walk (l:=PySem.Challenge.rw_calm_k49_what_is_no_paper) rfl rfl (fun w h Y=>PySem.W.kIn_of Y) ?F
  case F =>
    intro w mg fa h KX G hmg
    refine' D.all_mk KX G hmg ?a1 ?l1 ?c1 ?k1 ?a2 ?l2 ?c2 ?k2 ?a3 ?l3 ?c3 ?k3 ?a4 ?l4 ?c4 ?k4 ?a5 ?l5 ?c5 ?k5 ?a6 ?l6 ?c6 ?k6 ?a7 ?l7 ?c7 ?k7 ?a8 ?l8 ?c8 ?k8 ?a9 ?l9 ?c9 ?k9 ?a10 ?l10 ?c10 ?k10 ?a11 ?l11 ?c11 ?k11 ?a12 ?l12 ?c12 ?k12 ?a13 ?l13 ?c13 ?k13 ?a14 ?l14 ?c14 ?k14 ?a15 ?l15 ?c15 ?k15 ?a16 ?l16 ?c16 ?k16 ?a17 ?l17 ?c17 ?k17 ?a18 ?l18 ?c18 ?k18 ?a19 ?l19 ?c19 ?k19 ?a20 ?l20 ?c20 ?k20 ?a21 ?l21 ?c21 ?k21 ?a22 ?l22 ?c22 ?k22 ?a23 ?l23 ?c23 ?k23 ?a24 ?l24 ?c24 ?k24 ?a25 ?l25 ?c25 ?k25 ?a26 ?l26 ?c26 ?k26 ?a27 ?l27 ?c27 ?k27 ?a28 ?l28 ?c28 ?k28 ?a29 ?l29 ?c29 ?k29 ?a30 ?l30 ?c30 ?k30 ?z_abs ?z_all ?z_bool ?z_int ?z_isinstance ?z_len ?z_list ?z_range ?z_sorted ?z_str ?z_tuple ?z_zip ?zc_MOST_DEEP
    (case a1=>k_is)
    (case l1=>k_is)
    (case c1=>k_is)
    (case k1=>k_is)
    (case a2=>k_is)
    (case l2=>k_is)
    (case c2=>k_is)
    (case k2=>k_is)
    (case a3=>k_is)
    (case l3=>k_is)
    (case c3=>k_is)
    (case k3=>k_is)
    (case a4=>k_is)
    (case l4=>k_is)
    (case c4=>k_is)
    (case k4=>k_is)
    (case a5=>k_is)
    (case l5=>k_is)
    (case c5=>k_is)
    (case k5=>k_is)
    (case a6=>k_is)
    (case l6=>k_is)
    (case c6=>k_is)
    (case k6=>k_is)
    (case a7=>k_is)
    (case l7=>k_is)
    (case c7=>k_is)
    (case k7=>k_is)
    (case a8=>k_is)
    (case l8=>k_is)
    (case c8=>k_is)
    (case k8=>k_is)
    (case a9=>k_is)
    (case l9=>k_is)
    (case c9=>k_is)
    (case k9=>k_is)
    (case a10=>k_is)
    (case l10=>k_is)
    (case c10=>k_is)
    (case k10=>k_is)
    (case a11=>k_is)
    (case l11=>k_is)
    (case c11=>k_is)
    (case k11=>k_is)
    (case a12=>k_is)
    (case l12=>k_is)
    (case c12=>k_is)
    (case k12=>k_is)
    (case a13=>k_is)
    (case l13=>k_is)
    (case c13=>k_is)
    (case k13=>k_is)
    (case a14=>k_is)
    (case l14=>k_is)
    (case c14=>k_is)
    (case k14=>k_is)
    (case a15=>k_is)
    (case l15=>k_is)
    (case c15=>k_is)
    (case k15=>k_is)
    (case a16=>k_is)
    (case l16=>k_is)
    (case c16=>k_is)
    (case k16=>k_is)
    (case a17=>k_is)
    (case l17=>k_is)
    (case c17=>k_is)
    (case k17=>k_is)
    (case a18=>k_is)
    (case l18=>k_is)
    (case c18=>k_is)
    (case k18=>k_is)
    (case a19=>k_is)
    (case l19=>k_is)
    (case c19=>k_is)
    (case k19=>k_is)
    (case a20=>k_is)
    (case l20=>k_is)
    (case c20=>k_is)
    (case k20=>k_is)
    (case a21=>k_is)
    (case l21=>k_is)
    (case c21=>k_is)
    (case k21=>k_is)
    (case a22=>k_is)
    (case l22=>k_is)
    (case c22=>k_is)
    (case k22=>k_is)
    (case a23=>k_is)
    (case l23=>k_is)
    (case c23=>k_is)
    (case k23=>k_is)
    (case a24=>k_is)
    (case l24=>k_is)
    (case c24=>k_is)
    (case k24=>k_is)
    (case a25=>k_is)
    (case l25=>k_is)
    (case c25=>k_is)
    (case k25=>k_is)
    (case a26=>k_is)
    (case l26=>k_is)
    (case c26=>k_is)
    (case k26=>k_is)
    (case a27=>k_is)
    (case l27=>k_is)
    (case c27=>k_is)
    (case k27=>k_is)
    (case a28=>k_is)
    (case l28=>k_is)
    (case c28=>k_is)
    (case k28=>k_is)
    (case a29=>k_is)
    (case l29=>k_is)
    (case c29=>k_is)
    (case k29=>k_is)
    (case a30=>k_is)
    (case l30=>k_is)
    (case c30=>k_is)
    (case k30=>k_is)
    (case z_abs=>k_is)
    (case z_all=>k_is)
    (case z_bool=>k_is)
    (case z_int=>k_is)
    (case z_isinstance=>k_is)
    (case z_len=>k_is)
    (case z_list=>k_is)
    (case z_range=>k_is)
    (case z_sorted=>k_is)
    (case z_str=>k_is)
    (case z_tuple=>k_is)
    (case z_zip=>k_is)
    (case zc_MOST_DEEP=>k_is)
#print axioms PySem.Challenge.cw_calm_k49_what_is_no_paper_holds
end
