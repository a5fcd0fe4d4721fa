import PyProof.Rows.All
import Wide.All
import OpenK.AllK
import Wide.FinOn
import Lean
import PyProof.EqAt
import PyProof.EqKinds
import PyProof.TupleCall
import PyProof.P3Statements
import PyProof.Lay0
import PyProof.P3Eq
import PyProof.NeData
import KE.KEqDict
import PyProof.ListRange
import KE.KDictSum
import PyProof.AttrMissHeap
import PyProof.WalksS
import KE.KDictOf
import KE.KRevSl
import PyProof.ZipIter
import PyProof.WalksMore
import PyProof.Rows.FactsT2
import PyProof.Rows.SetFrom
import PyProof.Rows.SortStr
import KE.KDictList
import PyProof.FactsAll.set
import PyProof.CollectWalk
import KE.KSortTup
import KE.KRevIter
import PyProof.TupleOfGen
import PyProof.CollectIter
import PySem.Challenge.RW_calm_k44_forms_of_all_duties
set_option Elab.async false
noncomputable section
set_option linter.all false
set_option maxRecDepth 100000
namespace L2
open PySem PySem.Spec PyProof.Rows
noncomputable abbrev Key:=Sum Int Str
noncomputable def Uh:Key→Value→Bool
  | .inl k,v=>Value.isInt k v
  | .inr x,v=>Value.isStrOf x v
noncomputable def adi (w:World):Key→Int
  | .inl k=>hashInt k
  | .inr x=>hashStr w x
theorem vh:∀ {k:Key} {v:Value},Uh k v=true→(∃ i t,k=Sum.inl i∧v=Value.int i t)∨(∃ x t,k=Sum.inr x∧v=Value.str x t)
  | .inl i,v,h=>by
    obtain ⟨t,e⟩:=Value.isInt_shape (k:=i) (v:=v) h
    exact .inl ⟨i,t,rfl,e⟩
  | .inr x,v,h=>by
    obtain ⟨t,e⟩:=Value.isStrOf_shape (x:=x) (v:=v) h
    exact .inr ⟨x,t,rfl,e⟩
theorem Yj (i:Int) (t:Tok):Uh (.inl i) (.int i t)=true:=by simp [Uh,Value.isInt]
theorem Ke (x:Str) (t:Tok):Uh (.inr x) (.str x t)=true:=by simp [Uh,Value.isStrOf]
theorem a9o (a b:Int):decide ((Sum.inl a:Key)=Sum.inl b)=(a==b):=by
  by_cases e:a=b
  · subst e; simp
  · have h:¬ (Sum.inl a:Key)=Sum.inl b:=fun q=>e (Sum.inl.inj q)
    rw [decide_eq_false h]
    exact (beq_eq_false_iff_ne.mpr e).symm
theorem a9q (a b:Str):decide ((Sum.inr a:Key)=Sum.inr b)=decide (a=b):=by
  by_cases e:a=b
  · subst e; simp
  · have h:¬ (Sum.inr a:Key)=Sum.inr b:=fun q=>e (Sum.inr.inj q)
    rw [decide_eq_false h,decide_eq_false e]
theorem a87 (a:Int) (b:Str):decide ((Sum.inl a:Key)=Sum.inr b)=false:=decide_eq_false (fun q=>nomatch q)
theorem a8c (a:Str) (b:Int):decide ((Sum.inr a:Key)=Sum.inl b)=false:=decide_eq_false (fun q=>nomatch q)
noncomputable def qu (prog:Program) (w:World):PySem.KeyKind prog w Key where
  is:=Uh
  hash:=adi w
  inj:=fun v a b ha hb=>by
    rcases vh ha with ⟨i,t,rfl,rfl⟩ | ⟨x,t,rfl,rfl⟩
    · rcases vh hb with ⟨j,u,rfl,e⟩ | ⟨y,u,rfl,e⟩
      · injection e with e1 _; rw [e1]
      · exact nomatch e
    · rcases vh hb with ⟨j,u,rfl,e⟩ | ⟨y,u,rfl,e⟩
      · exact nomatch e
      · injection e with e1 _; rw [e1]
  byValue:=fun k v h=>by
    rcases vh h with ⟨i,t,rfl,rfl⟩ | ⟨x,t,rfl,rfl⟩ <;> rfl
  pyHash:=fun hv h=>by
    rcases vh hv with ⟨i,t,rfl,rfl⟩ | ⟨x,t,rfl,rfl⟩
    · exact wpAny_pyHash_int h
    · exact wpAny_pyHash_str h
  eqBool:=fun hu hv h=>by
    rcases vh hu with ⟨i,t,rfl,rfl⟩ | ⟨x,t,rfl,rfl⟩
    · rcases vh hv with ⟨j,u,rfl,rfl⟩ | ⟨y,u,rfl,rfl⟩
      · rw [a9o] at h; exact wpAny_eqBool_int h
      · rw [a87] at h; exact SeqAt.EqAt.int_str i t y u _ _ _ _ h
    · rcases vh hv with ⟨j,u,rfl,rfl⟩ | ⟨y,u,rfl,rfl⟩
      · rw [a8c] at h; exact SeqAt.EqAt.str_int x t j u _ _ _ _ h
      · rw [a9q] at h; exact wpAny_eqBool_str h
  «strs»:=fun k x t v h=>by
    rcases vh h with ⟨i,u,rfl,e⟩ | ⟨y,u,rfl,e⟩
    · exact nomatch e
    · injection e with e1 _
      subst e1
      cases v <;> rfl
theorem Wj (prog:Program) (w:World) (k:Key) (v:Value):(qu prog w).is k v=Uh k v:=rfl
theorem T3 (prog:Program) (w:World) (i:Int) (t:Tok):(qu prog w).is (.inl i) (.int i t)=true:=Yj i t
theorem Tz (prog:Program) (w:World) (x:Str) (t:Tok):(qu prog w).is (.inr x) (.str x t)=true:=Ke x t
end L2
namespace L2
open PySem PySem.Spec PyProof.Rows
inductive V where
  | non | bl (b:Bool) | int (i:Int) | str (x:Str) | byt (b:Array UInt8) | flt (b:UInt64) | ref (a:Addr) | ty (n:String)
  deriving DecidableEq
noncomputable def RelV:V→Value→Prop
  | .non,u=>u=Value.none
  | .bl b,u=>u=Value.bool b
  | .int i,u=>∃ t,u=Value.int i t
  | .str x,u=>∃ t,u=Value.str x t
  | .byt b,u=>∃ t,u=Value.bytes b t
  | .flt b,u=>∃ t,u=Value.float b t
  | .ref a,u=>u=Value.ref a
  | .ty n,u=>u=Value.type n
noncomputable abbrev Vals:List V→List Value→Prop:=Paired RelV
theorem Vals.length {xs:List V} {us:List Value} (r:Vals xs us):xs.length=us.length:=Paired.length r
theorem Vals.get:∀ {xs:List V} {us:List Value} {i:Nat} {x:V},Vals xs us→xs[i]? = some x→∃ u,us[i]? = some u∧RelV x u
  | _,_,_,_,.nil,e=>by simp at e
  | _,_,0,_,.cons r _,e=>by simp at e; subst e; exact ⟨_,rfl,r⟩
  | _,_,i+1,x,.cons _ t,e=>by
    obtain ⟨u,h1,h2⟩:=Vals.get (i:=i) (x:=x) t (by simpa using e)
    exact ⟨u,by simpa using h1,h2⟩
theorem Vals.set {x:V} {u:Value} (r:RelV x u):∀ {xs:List V} {us:List Value} (i:Nat),Vals xs us→Vals (xs.set i x) (us.set i u)
  | _,_,_,.nil=>.nil
  | _,_,0,.cons _ t=>.cons r t
  | _,_,i+1,.cons q t=>.cons q (Vals.set r i t)
theorem Vals.append {xs ys:List V} {us ws:List Value} (r:Vals xs us) (s:Vals ys ws):Vals (xs++ys) (us++ws):=by
  induction r with
  | nil=>exact s
  | cons r _ ih=>exact .cons r ih
theorem Vals.take:∀ {xs:List V} {us:List Value} (n:Nat),Vals xs us→Vals (xs.take n) (us.take n)
  | _,_,0,_=>.nil
  | _,_,_+1,.nil=>.nil
  | _,_,n+1,.cons r t=>.cons r (Vals.take n t)
theorem Vals.drop:∀ {xs:List V} {us:List Value} (n:Nat),Vals xs us→Vals (xs.drop n) (us.drop n)
  | _,_,0,r=>r
  | _,_,_+1,.nil=>.nil
  | _,_,n+1,.cons _ t=>Vals.drop n t
noncomputable def Px:Option V→Option Value→Prop
  | some v,some u=>RelV v u
  | none,none=>True
  | _,_=>False
noncomputable def KV {κ:Type}:List (κ × V)→List (κ × Value)→Prop:=Paired fun (p:κ × V) (q:κ × Value)=>p.1=q.1∧RelV p.2 q.2
noncomputable def kV:Key→V
  | .inl i=>.int i
  | .inr x=>.str x
inductive HO where
  /-- a list -/
  | lst (xs:List V)
  /-- a tuple (never changes) -/
  | tup (xs:List V)
  /-- a dict whose keys are ints and texts; one whose keys are tuples of ints and texts (the empty one is both) -/
  | dK (kvs:List (Key × V)) | dT (kvs:List (List Key × V))
  /-- a set of ints: its members,its size -/
  | set (S:Int→Bool) (n:Nat)
  /-- an instance of the class at C,its dict at dx,its attributes -/
  | ins (C dx:Addr) (fs:List (Str × V))
  /-- the dict of the instance at x -/
  | own (x:Addr)
  /-- the dict of an exception -/
  | xd (fs:List (Str × V))
  /-- a bound method,f of x -/
  | met (f x:Addr)
  /-- a range object lo,lo+1,.. below hi -/
  | rng (lo hi:Int)
  /-- a thing that is known to the object (the script; a dict while a loop walks it): read,never written while it is so -/
  | frz (o:Obj) (u:HO)
  /-- a code object's table -/
  | tbl (ps:Array Value)
  /-- any other thing,by what is true of its one object (a def of one's own: SetO a S n:=HO.ext fun h=>..) -/
  | ext (φ:Heap→Prop)
noncomputable abbrev Hp:=Addr→Option HO
noncomputable def upd (H:Hp) (a:Addr) (o:HO):Hp:=fun b=>if b=a then some o else H b
theorem jj {H:Hp} {a:Addr} {o:HO}:upd H a o a=some o:=by unfold upd; rw [if_pos rfl]
theorem nj {H:Hp} {a b:Addr} {o:HO} (h:b≠a):upd H a o b=H b:=by unfold upd; rw [if_neg h]
theorem aah {H:Hp} {a b:Addr} {o u:HO} (h:H a=some o) (h':H b=some u) (d:o≠u):a≠b:=by
  intro e; subst e; rw [h] at h'; exact d (Option.some.inj h')
theorem Bb {H:Hp} {a b:Addr} {o:HO} (h:H a=some o) (h':H b=none):a≠b:=by
  intro e; subst e; rw [h] at h'; cases h'
noncomputable def a2b (h:Heap) (a:Addr) (items:Array Value):Prop:=∃ o,h.get? a=some o∧o.cls=.type "tuple" ∧ o.dict=none∧∃ n,o.data=.seq items n
theorem a2b.is {h:Heap} {a:Addr} {items:Array Value} (x:a2b h a items):IsTup h a items:=let ⟨o,e,c,_,d⟩:=x; ⟨o,e,c,d⟩
theorem a2b.new (h:Heap) (items:Array Value):a2b (h.push { cls:=.type "tuple",data:=.seq items }) h.objs.size items:=⟨_,Heap.get?_push_size _ rfl,rfl,rfl,0,rfl⟩
noncomputable section
variable (P:Program) (w:World)
noncomputable def Ab (H:Hp) (h:Heap) (a:Addr):HO→Prop
  | .lst xs=>xs.length≤sizeLine∧∃ (its:List Value) (n:Nat),Vals xs its∧h.get? a=some { cls:=.type "list",data:=.seq its.toArray n }
  | .tup xs=>xs.length≤sizeLine∧∃ its:List Value,Vals xs its∧a2b h a its.toArray
  | .dK kvs=>kvs.length≤sizeLine∧(a==sysModules)=false∧∃ vs,KV kvs vs∧h.DictOf (qu P w) a vs
  | .dT kvs=>kvs.length≤sizeLine∧(a==sysModules)=false∧∃ xs:List (List Key × Addr × Value),
      Paired (fun (p:List Key × V) (q:List Key × Addr × Value)=>p.1=q.1∧H q.2.1=some (.tup (p.1.map kV))∧RelV p.2 q.2.2) kvs xs ∧
      ∃ o es ep,h.get? a=some o∧o.ExactDict∧o.data=.dict es ep∧es.toList=xs.map (entryOfKey (tupleKind (qu P w)))∧(xs.map (·.1)).Nodup
  | .set S n=>h.SetOf (intKind P w) a S n
  | .ins C dx fs=>H dx=some (.own a)∧fs.length≤1000∧dx≠a∧h.get? a=some (PySem.W.instObj C dx) ∧
      ∃ mA,h.Ns1 dx mA∧(∀ f,Px (fs.lookup f) (mA f))∧PySem.Within mA (fs.map (·.1))
  | .own _=>∃ o,h.get? a=some o
  | .xd fs=>∃ mA,h.Ns1 a mA∧∀ f,Px (fs.lookup f) (mA f)
  | .rng lo hi=>∃ t u v,h.get? a=some { cls:=.type "range",data:=.fields #[.int lo t,.int hi u,.int 1 v] }
  | .frz o u=>h.get? a=some o∧Ab H h a u
  | .tbl ps=>h.get? a=some { cls:=.none,data:=.fields ps }
  | .met f x=>h.get? a=some (PySem.W.methodObj (.ref f) (.ref x))
  | .ext φ=>φ h∧(∃ o,h.get? a=some o)∧∀ h1 h2:Heap,φ h1→(∀ o,h1.get? a=some o→h2.get? a=some o)→φ h2
noncomputable def HOk (H:Hp) (h:Heap):Prop:=∀ a o,H a=some o→Ab P w H h a o
end
noncomputable section
variable {P:Program} {w:World} {H H':Hp} {h h':Heap} {a:Addr} {o:HO}
theorem Ab.lt (x:Ab P w H h a o):a<h.objs.size:=by
  cases o with
  | lst xs=>obtain ⟨_,_,_,_,e⟩:=x; exact Heap.lt_size e
  | tup xs=>obtain ⟨_,_,_,p⟩:=x; exact p.is.lt
  | dK kvs=>obtain ⟨_,_,_,_,o,_,_,e,_⟩:=x; exact Heap.lt_size e
  | dT kvs=>obtain ⟨_,_,_,_,o,_,_,e,_⟩:=x; exact Heap.lt_size e
  | set S n=>obtain ⟨o,_,_,_,e,_⟩:=x; exact Heap.lt_size e
  | ins C dx fs=>obtain ⟨_,_,_,e,_⟩:=x; exact Heap.lt_size e
  | own y=>obtain ⟨_,e⟩:=x; exact Heap.lt_size e
  | xd fs=>obtain ⟨_,⟨_,_,_,e,_⟩,_⟩:=x; exact Heap.lt_size e
  | rng lo hi=>obtain ⟨_,_,_,e⟩:=x; exact Heap.lt_size e
  | frz ob u=>obtain ⟨e,_⟩:=x; exact Heap.lt_size e
  | tbl ps=>exact Heap.lt_size (show h.get? a=some _ from x)
  | met f y=>exact Heap.lt_size (show h.get? a=some _ from x)
  | ext φ=>obtain ⟨_,⟨_,e⟩,_⟩:=x; exact Heap.lt_size e
theorem Paired.ac4 {α β:Type} {F G:α→β→Prop} {l₁:List α} {l₂:List β} (r:Paired F l₁ l₂) (f:∀ a b,F a b→G a b):Paired G l₁ l₂:=by
  induction r with
  | nil=>exact .nil
  | cons r _ ih=>exact .cons (f _ _ r) ih
theorem Ab.stay (x:Ab P w H h a o) (k:∀ b u,(b=a∨H b=some (.own a))→h.get? b=some u→h'.get? b=some u)
    (ho:∀ b,H b=some (.own a)→H' b=some (.own a)) (ht:∀ b xs,H b=some (.tup xs)→H' b=some (.tup xs)):Ab P w H' h' a o:=by
  induction o with
  | lst xs=>obtain ⟨z,its,n,r,e⟩:=x; exact ⟨z,its,n,r,k _ _ (.inl rfl) e⟩
  | tup xs=>obtain ⟨z,its,r,ob,e,c⟩:=x; exact ⟨z,its,r,ob,k _ _ (.inl rfl) e,c⟩
  | dK kvs=>obtain ⟨z,y,vs,r,ob,es,ep,e,c⟩:=x; exact ⟨z,y,vs,r,ob,es,ep,k _ _ (.inl rfl) e,c⟩
  | dT kvs =>
    obtain ⟨z,y,xs,r,ob,es,ep,e,c⟩:=x
    exact ⟨z,y,xs,Paired.ac4 r fun p q z=>⟨z.1,ht _ _ z.2.1,z.2.2⟩,ob,es,ep,k _ _ (.inl rfl) e,c⟩
  | set S n=>obtain ⟨ob,es,ep,t,e,c⟩:=x; exact ⟨ob,es,ep,t,k _ _ (.inl rfl) e,c⟩
  | ins C dx fs =>
    obtain ⟨d,z,ne,e,mA,⟨od,es,ep,e2,c⟩,r⟩:=x
    exact ⟨ho _ d,z,ne,k _ _ (.inl rfl) e,mA,⟨od,es,ep,k _ _ (.inr d) e2,c⟩,r⟩
  | own y=>obtain ⟨ob,e⟩:=x; exact ⟨ob,k _ _ (.inl rfl) e⟩
  | xd fs=>obtain ⟨mA,⟨od,es,ep,e,c⟩,r⟩:=x; exact ⟨mA,⟨od,es,ep,k _ _ (.inl rfl) e,c⟩,r⟩
  | rng lo hi=>obtain ⟨t,u,v,e⟩:=x; exact ⟨t,u,v,k _ _ (.inl rfl) e⟩
  | frz ob u ih=>obtain ⟨e,q⟩:=x; exact ⟨k _ _ (.inl rfl) e,ih q⟩
  | tbl ps =>
    have e:h.get? a=some { cls:=.none,data:=.fields ps }:=x
    show h'.get? a=some { cls:=.none,data:=.fields ps }
    exact k a _ (.inl rfl) e
  | met f y =>
    have e:h.get? a=some (PySem.W.methodObj (.ref f) (.ref y)):=x
    show h'.get? a=some (PySem.W.methodObj (.ref f) (.ref y))
    exact k a _ (.inl rfl) e
  | ext φ=>obtain ⟨p,⟨o,e⟩,st⟩:=x; exact ⟨st _ _ p fun o q=>k _ _ (.inl rfl) q,⟨o,k _ _ (.inl rfl) e⟩,st⟩
theorem HOk.lt (x:HOk P w H h) (e:H a=some o):a<h.objs.size:=(x a o e).lt
theorem HOk.fresh (x:HOk P w H h) (e:h.objs.size≤a):H a=none:=by
  cases q:H a with
  | none=>rfl
  | some u=>exact absurd (Nat.lt_of_lt_of_le (x.lt q) e) (Nat.lt_irrefl _)
theorem HOk.kept (x:HOk P w H h) (k:∀ b u,h.get? b=some u→h'.get? b=some u):HOk P w H h':=fun a o e =>
  (x a o e).stay (fun b u _ q=>k b u q) (fun _ q=>q) fun _ _ q=>q
theorem HOk.laid (x:HOk P w H h) (k:∀ b u,h.get? b=some u→h'.get? b=some u) (hp:h.objs.size≤a) (new:Ab P w (upd H a o) h' a o):HOk P w (upd H a o) h':=fun b u e=>by
  have hn:=x.fresh hp
  by_cases hb:b=a
  · subst hb; rw [jj] at e; cases e; exact new
  · rw [nj hb] at e
    exact (x b u e).stay (fun c v _ q=>k c v q) (fun c q=>by rw [nj (Bb q hn)]; exact q) fun c xs q=>by rw [nj (Bb q hn)]; exact q
end
noncomputable def Rd (H:Hp) (a:Addr) (u:HO):Prop:=H a=some u∨∃ o,H a=some (.frz o u)
theorem Rd.ok {P:Program} {w:World} {H:Hp} {h:Heap} {a:Addr} {u:HO} (r:Rd H a u) (x:HOk P w H h):Ab P w H h a u:=by
  rcases r with r | ⟨o,r⟩
  · exact x a u r
  · obtain ⟨_,q⟩:=x a _ r
    exact q
noncomputable def Mut:Option HO→Prop
  | some (.lst _)=>True
  | some (.dK _)=>True
  | some (.dT _)=>True
  | some (.set _ _)=>True
  | some (.ins _ _ _)=>True
  | some (.ext _)=>True
  | _=>False
noncomputable section
variable {P:Program} {w:World} {H:Hp} {h h':Heap} {x e:Addr} {o':HO}
theorem HOk.write (ok:HOk P w H h) (mu:Mut (H x)) (he:e=x∨H e=some (.own x)) (k:∀ b u,b≠e→h.get? b=some u→h'.get? b=some u) (heo:∃ u,h'.get? e=some u)
    (new:Ab P w (upd H x o') h' x o'):HOk P w (upd H x o') h':=fun b u q=>by
  have nown:∀ c y,H c=some (.own y)→c≠x:=fun c y r z=>by subst z; rw [r] at mu; exact mu
  have ntup:∀ c xs,H c=some (.tup xs)→c≠x:=fun c xs r z=>by subst z; rw [r] at mu; exact mu
  by_cases hb:b=x
  · subst hb; rw [jj] at q; cases q; exact new
  · rw [nj hb] at q
    by_cases hbe:b=e
    · have q':H b=some (.own x):=by
        rcases he with z | z
        · exact absurd (hbe.trans z) hb
        · rw [hbe]; exact z
      rw [q] at q'; cases q'
      obtain ⟨v,hv⟩:=heo
      exact ⟨v,by rw [hbe]; exact hv⟩
    · refine (ok b u q).stay (fun c v hc r=>k c v ?_ r) (fun c r=>by rw [nj (nown c b r)]; exact r) fun c xs r=>by rw [nj (ntup c xs r)]; exact r
      rcases hc with rfl | hc
      · exact hbe
      · rintro rfl
        rcases he with z | z
        · exact nown c b hc z
        · rw [hc] at z; cases z; exact hb rfl
end
structure Un (fs ex:List Addr) (H H':Hp) (h h':Heap):Prop where
  keep:∀ b o,h.get? b=some o→H b=none→b∉fs→b∉ex→h'.get? b=some o
  slot:∀ b o,h.get? b=some o→H b=none→b∈fs→b∉ex→∃ sl,h'.get? b=some { o with slots:=sl }
  free:∀ b o,h.get? b=some o→H b=none→b∉ex→H' b=none
  there:∀ b o,h.get? b=some o→b∉ex→∃ o',h'.get? b=some o'
  tups:∀ b xs,H b=some (.tup xs)→H' b=some (.tup xs)
  frzs:∀ b o u,H b=some (.frz o u)→H' b=some (.frz o u)
  tbls:∀ b ps,H b=some (.tbl ps)→∃ more,H' b=some (.tbl (ps++more))
noncomputable section
variable {fs fs' ex ex':List Addr} {H H1 H2:Hp} {h h1 h2 h':Heap} {a x e:Addr} {o:HO}
theorem Un.any (u:Un fs ex H H1 h h1) {b:Addr} {ob:Obj} (q:h.get? b=some ob) (n:H b=none) (hx:b∉ex):∃ sl,h1.get? b=some { ob with slots:=sl }:=by
  by_cases hb:b∈fs
  · exact u.slot b ob q n hb hx
  · exact ⟨ob.slots,u.keep b ob q n hb hx⟩
theorem Un.trans (a:Un fs ex H H1 h h1) (b:Un fs ex H1 H2 h1 h2):Un fs ex H H2 h h2 where
  keep:=fun c ob q n hc hx=>b.keep c ob (a.keep c ob q n hc hx) (a.free c ob q n hx) hc hx
  slot:=fun c ob q n hc hx=>by
    obtain ⟨sl,e1⟩:=a.slot c ob q n hc hx
    obtain ⟨sl',e2⟩:=b.slot c _ e1 (a.free c ob q n hx) hc hx
    exact ⟨sl',e2⟩
  free:=fun c ob q n hx=>by
    obtain ⟨o',e1⟩:=a.there c ob q hx
    exact b.free c o' e1 (a.free c ob q n hx) hx
  there:=fun c ob q hx=>by
    obtain ⟨o',e1⟩:=a.there c ob q hx
    exact b.there c o' e1 hx
  tups:=fun c xs q=>b.tups c xs (a.tups c xs q)
  frzs:=fun c ob xs q=>b.frzs c ob xs (a.frzs c ob xs q)
  tbls:=fun c ps q=>by
    obtain ⟨m1,e1⟩:=a.tbls c ps q
    obtain ⟨m2,e2⟩:=b.tbls c _ e1
    exact ⟨m1++m2,by rw [e2,Array.append_assoc]⟩
theorem Un.kept (k:∀ b u,h.get? b=some u→h'.get? b=some u):Un fs ex H H h h' :=
  ⟨fun b ob q _ _ _=>k b ob q,fun b ob q _ _ _=>⟨ob.slots,k b ob q⟩,fun _ _ _ n _=>n,fun b ob q _=>⟨ob,k b ob q⟩,fun _ _ q=>q,fun _ _ _ q=>q,fun _ ps q=>⟨#[],by rw [q]; simp⟩⟩
theorem Un.refl:Un fs ex H H h h:=Un.kept fun _ _ q=>q
theorem Un.laid (k:∀ b u,h.get? b=some u→h'.get? b=some u) (hp:h.objs.size≤a) (hn:H a=none):Un fs ex H (upd H a o) h h' where
  keep:=fun b u q _ _ _=>k b u q
  slot:=fun b u q _ _ _=>⟨u.slots,k b u q⟩
  free:=fun b u q n _=>by rw [nj (Nat.ne_of_lt (Nat.lt_of_lt_of_le (Heap.lt_size q) hp))]; exact n
  there:=fun b u q _=>⟨u,k b u q⟩
  tups:=fun b xs q=>by rw [nj (Bb q hn)]; exact q
  frzs:=fun b u xs q=>by rw [nj (Bb q hn)]; exact q
  tbls:=fun b ps q=>⟨#[],by rw [nj (Bb q hn),q]; simp⟩
theorem Un.write (mu:Mut (H x)) (he:e=x∨H e=some (.own x)) (k:∀ b u,b≠e→h.get? b=some u→h'.get? b=some u) (heo:∃ u,h'.get? e=some u):Un fs ex H (upd H x o) h h':=by
  have hx:∀ b,H b=none→b≠x:=fun b n z=>by subst z; rw [n] at mu; exact mu
  have hb:∀ b,H b=none→b≠e:=fun b n z=>by
    subst z
    rcases he with r | r
    · exact hx b n r
    · rw [n] at r; cases r
  have hm:∀ b u,H b=some u→¬ Mut (some u)→b≠x:=fun b u q nm z=>by subst z; rw [q] at mu; exact nm mu
  refine ⟨fun b u q n _ _=>k b u (hb b n) q,fun b u q n _ _=>⟨u.slots,k b u (hb b n) q⟩,fun b u q n _=>by rw [nj (hx b n)]; exact n,fun b u q _=>?_,
    fun b xs q=>by rw [nj (hm b _ q fun z=>z)]; exact q,fun b u xs q=>by rw [nj (hm b _ q fun z=>z)]; exact q,fun b ps q=>⟨#[],by rw [nj (hm b _ q fun z=>z),q]; simp⟩⟩
  by_cases hbe:b=e
  · subst hbe; exact heo
  · exact ⟨u,k b u hbe q⟩
theorem Un.mono (u:Un fs ex H H1 h h1) (hs:∀ b∈fs,b∈fs') (hx:∀ b∈ex,b∈ex'):Un fs' ex' H H1 h h1 :=
  ⟨fun b ob q n hb he=>u.keep b ob q n (fun z=>hb (hs b z)) fun z=>he (hx b z),fun _ _ q n _ he=>u.any q n fun z=>he (hx _ z),fun b ob q n he=>u.free b ob q n fun z=>he (hx b z),fun b ob q he=>u.there b ob q fun z=>he (hx b z),u.tups,u.frzs,u.tbls⟩
end
noncomputable def trk (h:Heap) (H:Hp):List Addr:=(List.range h.objs.size).filter fun a=>(H a).isSome
noncomputable def a3b (h:Heap) (H:Hp):Heap:=PySem.W.hideAll h (trk h H)
theorem Y8 (h:Heap) (H:Hp):(a3b h H).objs.size=h.objs.size:=PySem.W.hideAll_size _ _
theorem a2y {h:Heap} {H:Hp} {b:Addr} {o:Obj} (e:h.get? b=some o) (n:H b=none):(a3b h H).get? b=some o :=
  PySem.W.hideAll_get _ e fun hm=>by
    have q:(H b).isSome=true:=(List.mem_filter.mp hm).2
    rw [n] at q; simp at q
theorem a7j {h:Heap} {H:Hp} {b:Addr} {o:Obj} (e:(a3b h H).get? b=some o):h.get? b=some o∧H b=none:=by
  have e':h.get? b=some o:=PySem.W.of_hideAll (trk h H) e
  refine ⟨e',?_⟩
  cases q:H b with
  | none=>rfl
  | some x =>
    have hm:b∈trk h H:=List.mem_filter.mpr ⟨List.mem_range.mpr (Heap.lt_size e'),by simp [q]⟩
    have z:(a3b h H).get? b=none:=PySem.W.hideAll_none (trk h H) hm
    rw [z] at e; cases e
noncomputable def a6u (g h:Heap) (L:Addr):List (Addr × Obj):=(List.range h.objs.size).filterMap fun a=>if a=L∨(g.get? a).isSome=true then none else (h.get? a).map fun o=>(a,o)
noncomputable def rest (g h:Heap) (L d:Addr):List (Addr × Obj):=(a6u g h L).filter fun p=>decide (p.1≠d)
end L2
namespace L2
open PySem PySem.Spec PyProof.Rows
structure Mod (K:PySem.W.Frag) (mg:Str→Option Value) (base:Heap):Prop where
  kin:K.In base
  glob:base.Ns mainGlobals mg
  blt:∃ mb,base.Ns builtinsNs mb∧∀ x:Str,x ≠ "__name__" → mb x=bootBuiltins x
  nolimit:base.NoLimit
structure Cx where
  prog:Program
  w:World
  K:PySem.W.Frag
  mg:Str→Option Value
  base:Heap
  A:Around
  N:List Str
  s₀:Shared
  H₀:Hp
  env:Env
  outer:List Env
  stack:List Env
  ex:List Addr
  fn:Str→Bool
  calm:Bool
  pn:List (Addr × Obj)
  xe:Value→Shared→Prop
noncomputable def frs (l:List Env):List Addr:=l.filterMap (·.frame)
noncomputable abbrev Cx.fs (X:Cx):List Addr:=frs X.outer
noncomputable def Vis (sc:Scope) (x:Str):Prop:=sc.names.lookup x=some .local∨sc.names.lookup x=some .cell∨sc.names.lookup x=some .free
noncomputable def Loc (sc:Scope) (x:Str):Prop:=sc.names.lookup x=some .local∨sc.names.lookup x=some .cell
noncomputable def Look (env:Env) (h:Heap) (m:Str→Option Value) (x:Str) (u:Value):Prop :=
  (env.kindOf x=some .local∧m x=some u)∨((env.kindOf x=some .cell∨env.kindOf x=some .free)∧∃ c,env.cells.lookup x=some c∧h.IsCell c (some u))
structure Cx.Ok (X:Cx):Prop where
  mod:Mod X.K X.mg X.base
  kind:X.env.scope.kind=.function
  glob:X.env.globals=mainGlobals
  blt:X.env.builtins=builtinsNs
  above:X.s₀.heap.objs.size≤X.env.locals
  inj:∀ x y c,X.env.cells.lookup x=some c→X.env.cells.lookup y=some c→x=y
  has:∀ x,(X.env.kindOf x=some .cell∨X.env.kindOf x=some .free)→∃ c,X.env.cells.lookup x=some c
  cab:∀ x c,X.fn x=true→X.env.cells.lookup x=some c→X.s₀.heap.objs.size≤c
  hd:X.calm=true→X.A.handled=none
  frames:X.A.frames=some X.stack
  stk:X.stack=X.outer∨(X.stack=X.env::X.outer∧X.env.frame=some X.env.locals)
  exf:∀ b∈X.ex,b≠X.env.locals∧∀ x c,X.env.cells.lookup x=some c→c≠b
  bs:∀ b o,X.base.get? b=some o→X.s₀.heap.get? b=some o∧X.H₀ b=none
  bsz:X.base.objs.size≤X.s₀.heap.objs.size
  noex:∀ b o,X.base.get? b=some o→b∉X.ex
  exfs:∀ b∈X.ex,b∉X.fs
  Y4:X.s₀.heap.FunFrames X.base X.outer
  frf:∀ b∈X.fs,X.H₀ b=none
structure Inv (X:Cx) (pins:List (Addr × Obj)) (σ:List (Option V)) (H:Hp) (s:Shared):Prop where
  ok:X.Ok
  os:s.os=X.s₀.os
  bare:AllBare s.gens
  base:Un X.fs X.ex X.H₀ H X.s₀.heap s.heap
  loc:∃ m,s.heap.Ns X.env.locals m∧∀ (i:Nat) (x:Str) (v:V),X.N[i]? = some x→σ[i]? = some (some v)→Vis X.env.scope x→∃ u,RelV v u∧Look X.env s.heap m x u
  cell:∀ x c,X.env.cells.lookup x=some c→∃ v,s.heap.IsCell c v
  free:H X.env.locals=none
  freeC:∀ x c,X.env.cells.lookup x=some c→H c=none
  pin:∀ p∈X.pn++pins,s.heap.get? p.1=some p.2∧H p.1=none∧p.1≠X.env.locals∧p.1∉X.fs∧∀ v,p.2.data≠.cell v
  hok:HOk X.prog X.w H s.heap
  len:σ.length=X.N.length
noncomputable section
variable {X:Cx} {pins:List (Addr × Obj)} {σ:List (Option V)} {H H':Hp} {s:Shared} {h':Heap}
theorem Cx.Ok.ad5 (ok:X.Ok) {b:Addr} {o:Obj} (e:X.base.get? b=some o):b∉X.fs:=fun hb=>by
  have:=(ok.Y4.mem hb).1
  rw [e] at this; cases this
theorem Inv.bs (I:Inv X pins σ H s):∀ b o,X.base.get? b=some o→s.heap.get? b=some o∧H b=none:=fun b o e =>
  ⟨I.base.keep b o (I.ok.bs b o e).1 (I.ok.bs b o e).2 (I.ok.ad5 e) (I.ok.noex b o e),I.base.free b o (I.ok.bs b o e).1 (I.ok.bs b o e).2 (I.ok.noex b o e)⟩
theorem Inv.bk (I:Inv X pins σ H s):∀ b o,X.base.get? b=some o→s.heap.get? b=some o:=fun b o e=>(I.bs b o e).1
theorem Inv.mod (I:Inv X pins σ H s):Mod X.K X.mg X.base:=I.ok.mod
theorem Inv.kIn (I:Inv X pins σ H s):X.K.In s.heap:=I.ok.mod.kin.keeps I.bk
theorem Inv.fr (I:Inv X pins σ H s):∃ m,Fr X.base X.env.locals s.heap m :=
  let ⟨m,hn,_⟩:=I.loc
  ⟨m,hn,I.bk,Nat.le_trans I.ok.bsz I.ok.above⟩
theorem Inv.lt (I:Inv X pins σ H s):X.env.locals<s.heap.objs.size:=let ⟨_,hn,_⟩:=I.loc; hn.lt
theorem Inv.sz (I:Inv X pins σ H s):X.s₀.heap.objs.size≤s.heap.objs.size:=Nat.le_trans I.ok.above (Nat.le_of_lt I.lt)
theorem Inv.adf (I:Inv X pins σ H s) {a:Addr} (h:s.heap.objs.size≤a):a∉X.fs:=fun hb=>by
  obtain ⟨_,o,ho,_⟩:=I.ok.Y4.mem hb
  exact absurd (Nat.lt_of_lt_of_le (Heap.lt_size ho) (Nat.le_trans I.sz h)) (Nat.lt_irrefl _)
theorem Inv.cne (I:Inv X pins σ H s):∀ x c,X.env.cells.lookup x=some c→c≠X.env.locals:=fun x c e z=>by
  obtain ⟨v,o,ho,hd⟩:=I.cell x c e
  obtain ⟨m,⟨o',es,ep,ho',hd',_⟩,_⟩:=I.loc
  rw [z,ho'] at ho; cases ho; rw [hd'] at hd; cases hd
theorem Inv.Y4 (I:Inv X pins σ H s):s.heap.FunFrames X.base X.outer:=by
  have all:∀ (l:List Env),(∀ b∈frs l,b∈X.fs)→X.s₀.heap.FunFrames X.base l→s.heap.FunFrames X.base l:=by
    intro l
    induction l with
    | nil=>intro _ _; trivial
    | cons env r ih =>
      intro hs hl
      obtain ⟨hk,⟨L,o,hf,hn,ho,hd⟩,hr⟩:=hl
      have hL:L∈X.fs:=hs L (by unfold frs; rw [List.filterMap_cons,hf]; exact List.mem_cons_self)
      obtain ⟨sl,e⟩:=I.base.slot L o ho (I.ok.frf L hL) hL fun z=>I.ok.exfs L z hL
      exact ⟨hk,⟨L,_,hf,hn,e,hd⟩,ih (fun b hb=>hs b (by unfold frs; rw [List.filterMap_cons,hf]; exact List.mem_cons_of_mem _ hb)) hr⟩
  exact all X.outer (fun _ hb=>hb) I.ok.Y4
theorem Inv.stack (I:Inv X pins σ H s):s.heap.FunFrames X.base X.stack:=by
  rcases I.ok.stk with e | ⟨e,hf⟩
  · rw [e]; exact I.Y4
  · rw [e]
    obtain ⟨m,hn,_⟩:=I.loc
    refine .cons (by rw [I.ok.kind]; decide) hf hn ?_ I.Y4
    exact Heap.get?_none_of_le (Nat.le_trans I.ok.bsz I.ok.above)
theorem Inv.Wa (I:Inv X pins σ H s):∀ b∈frs X.stack,b∈X.env.locals::X.fs:=fun b hb=>by
  rcases I.ok.stk with e | ⟨e,hf⟩
  · rw [e] at hb; exact List.mem_cons_of_mem _ hb
  · rw [e] at hb
    unfold frs at hb
    rw [List.filterMap_cons,hf] at hb
    exact hb
theorem Inv.Yb (I:Inv X pins σ H s):∀ b∈frs X.stack,H b=none:=fun b hb=>by
  rcases List.mem_cons.mp (I.Wa b hb) with e | hb
  · rw [e]; exact I.free
  · obtain ⟨_,o,ho,_⟩:=I.ok.Y4.mem hb
    exact I.base.free b o ho (I.ok.frf b hb) fun z=>I.ok.exfs b z hb
theorem Inv.step {g':Array GenState} {t':Nat} {d':Drawn} {ch:List Addr} (I:Inv X pins σ H s)
    (hch:∀ b∈ch,(b∈X.ex∨X.s₀.heap.objs.size≤b)∧b≠X.env.locals∧(∀ x c,X.env.cells.lookup x=some c→c≠b)∧∀ p∈X.pn++pins,p.1≠b)
    (keep:∀ b o,b≠X.env.locals→b∉X.fs→b∉ch→s.heap.get? b=some o→H b=none→h'.get? b=some o)
    (slot:∀ b o,b≠X.env.locals→b∈X.fs→b∉ch→s.heap.get? b=some o→H b=none→∃ sl,h'.get? b=some { o with slots:=sl }) (free:∀ b o,b∉ch→s.heap.get? b=some o→H b=none→H' b=none)
    (there:∀ b o,b∉ch→s.heap.get? b=some o→∃ o',h'.get? b=some o')
    (tups:∀ b xs,H b=some (.tup xs)→H' b=some (.tup xs)) (frzs:∀ b o u,H b=some (.frz o u)→H' b=some (.frz o u)) (tbls:∀ b ps,H b=some (.tbl ps)→∃ more,H' b=some (.tbl (ps++more)))
    (ns:∀ m,s.heap.Ns X.env.locals m→h'.Ns X.env.locals m) (hok:HOk X.prog X.w H' h') (hg:AllBare g') :
    Inv X pins σ H' { s with heap:=h',gens:=g',drawn:=d',toks:=t' }:=by
  have neL:∀ b o,X.s₀.heap.get? b=some o→b≠X.env.locals:=fun b o e=>Nat.ne_of_lt (Nat.lt_of_lt_of_le (Heap.lt_size e) I.ok.above)
  have neC:∀ b o,X.s₀.heap.get? b=some o→b∉X.ex→b∉ch:=fun b o e hx hb=>by
    rcases (hch b hb).1 with z | z
    · exact hx z
    · exact absurd (Nat.lt_of_lt_of_le (Heap.lt_size e) z) (Nat.lt_irrefl _)
  have cellK:∀ x c,X.env.cells.lookup x=some c→∀ v,s.heap.IsCell c v→h'.IsCell c v:=fun x c e v z9=>by
    obtain ⟨o,ho,hd⟩:=z9
    have nch:c∉ch:=fun z=>(hch c z).2.2.1 x c e rfl
    by_cases hc:c∈X.fs
    · obtain ⟨sl,q⟩:=slot c o (I.cne x c e) hc nch ho (I.freeC x c e)
      exact ⟨_,q,hd⟩
    · exact ⟨o,keep c o (I.cne x c e) hc nch ho (I.freeC x c e),hd⟩
  refine ⟨I.ok,I.os,hg,⟨fun b o e n hb hx=>?_,fun b o e n hb hx=>?_,fun b o e n hx=>?_,fun b o e hx=>?_,fun b xs e=>tups b xs (I.base.tups b xs e),fun b o xs e=>frzs b o xs (I.base.frzs b o xs e),fun b ps e=>?_⟩,?_,fun x c e=>?_,?_,fun x c e=>?_,fun p hp=>?_,hok,I.len⟩
  · exact keep b o (neL b o e) hb (neC b o e hx) (I.base.keep b o e n hb hx) (I.base.free b o e n hx)
  · obtain ⟨sl,e1⟩:=I.base.slot b o e n hb hx
    obtain ⟨sl',e2⟩:=slot b _ (neL b o e) hb (neC b o e hx) e1 (I.base.free b o e n hx)
    exact ⟨sl',e2⟩
  · obtain ⟨o',e1⟩:=I.base.there b o e hx
    exact free b o' (neC b o e hx) e1 (I.base.free b o e n hx)
  · obtain ⟨o',e1⟩:=I.base.there b o e hx
    exact there b o' (neC b o e hx) e1
  · obtain ⟨m1,e1⟩:=I.base.tbls b ps e
    obtain ⟨m2,e2⟩:=tbls b _ e1
    exact ⟨m1++m2,by rw [e2,Array.append_assoc]⟩
  · obtain ⟨m,hn,hl⟩:=I.loc
    refine ⟨m,ns m hn,fun i x v e1 e2 e3=>?_⟩
    obtain ⟨u,r,l⟩:=hl i x v e1 e2 e3
    refine ⟨u,r,?_⟩
    rcases l with l | ⟨k,c,e,z⟩
    · exact .inl l
    · exact .inr ⟨k,c,e,cellK x c e _ z⟩
  · obtain ⟨v,z⟩:=I.cell x c e
    exact ⟨v,cellK x c e v z⟩
  · obtain ⟨m,⟨o,_,_,ho,_⟩,_⟩:=I.loc
    exact free _ o (fun z=>(hch _ z).2.1 rfl) ho I.free
  · obtain ⟨v,o,ho,hd⟩:=I.cell x c e
    exact free c o (fun z=>(hch c z).2.2.1 x c e rfl) ho (I.freeC x c e)
  · obtain ⟨e,n,ne,nf,d⟩:=I.pin p hp
    have nch:p.1∉ch:=fun z=>(hch p.1 z).2.2.2 p hp rfl
    exact ⟨keep p.1 p.2 ne nf nch e n,free p.1 p.2 nch e n,ne,nf,d⟩
theorem Inv.un {t':Nat} (I:Inv X pins σ H s) (u:Un X.fs [] H H' s.heap h') (hok:HOk X.prog X.w H' h'):Inv X pins σ H' { s with heap:=h',toks:=t' }:=by
  obtain ⟨m,⟨o,es,ep,ho,r⟩,_⟩:=id I.loc
  obtain ⟨sl,hL⟩:=u.any ho I.free (by simp)
  exact I.step (g':=s.gens) (d':=s.drawn) (ch:=[]) (fun _ z=>nomatch z) (fun b o _ hb _ e n=>u.keep b o e n hb (by simp)) (fun b o _ hb _ e n=>u.slot b o e n hb (by simp)) (fun b o _ e n=>u.free b o e n (by simp)) (fun b o _ e=>u.there b o e (by simp)) u.tups u.frzs u.tbls (fun m' hm=>by
    obtain ⟨o',es',ep',ho',r'⟩:=hm
    rw [ho] at ho'; cases ho'
    exact ⟨_,es',ep',hL,r'⟩) hok I.bare
theorem Inv.call {g':Array GenState} {t':Nat} {d':Drawn} {ch:List Addr} (I:Inv X pins σ H s) (u:Un (frs X.stack) ch H H' s.heap h') (hok:HOk X.prog X.w H' h') (hg:AllBare g')
    (hch:∀ b∈ch,(b∈X.ex∨X.s₀.heap.objs.size≤b)∧b≠X.env.locals∧(∀ x c,X.env.cells.lookup x=some c→c≠b)∧∀ p∈X.pn++pins,p.1≠b) :
    Inv X pins σ H' { s with heap:=h',gens:=g',drawn:=d',toks:=t' }:=by
  obtain ⟨m,⟨o,es,ep,ho,r⟩,_⟩:=id I.loc
  obtain ⟨sl,hL⟩:=u.any ho I.free fun z=>(hch _ z).2.1 rfl
  exact I.step (ch:=ch) hch (fun b o hL hb hc e n=>u.keep b o e n (fun z=>(List.mem_cons.mp (I.Wa b z)).elim hL hb) hc) (fun b o _ _ hc e n=>u.any e n hc) (fun b o hc e n=>u.free b o e n hc) (fun b o hc e=>u.there b o e hc) u.tups u.frzs u.tbls (fun m' hm=>by
    obtain ⟨o',es',ep',ho',r'⟩:=hm
    rw [ho] at ho'; cases ho'
    exact ⟨_,es',ep',hL,r'⟩) hok hg
theorem Inv.turned {t':Nat} {it:Addr} (I:Inv X pins σ H s) (k:∀ b o,b≠it→s.heap.get? b=some o→h'.get? b=some o) (hn:H it=none) (hL:it≠X.env.locals)
    (h1:it∈X.ex∨X.s₀.heap.objs.size≤it) (h2:∀ x c,X.env.cells.lookup x=some c→c≠it) (h3:∀ p∈X.pn++pins,p.1≠it):Inv X pins σ H { s with heap:=h',toks:=t' }:=by
  have nit:∀ b u,H b=some u→b≠it:=fun b u e z=>by rw [z,hn] at e; cases e
  refine I.step (g':=s.gens) (d':=s.drawn) (ch:=[it]) (fun b hb=>?_) (fun b o _ _ hc e _=>k b o (fun z=>hc (by simp [z])) e) (fun b o _ _ hc e _=>⟨o.slots,k b o (fun z=>hc (by simp [z])) e⟩) (fun _ _ _ _ n=>n)
    (fun b o hc e=>⟨o,k b o (fun z=>hc (by simp [z])) e⟩) (fun _ _ e=>e) (fun _ _ _ e=>e) (fun b ps e=>⟨#[],by rw [e]; simp⟩) (fun m hm=>?_) (fun b u e=>?_) I.bare
  · have e:b=it:=by simpa using hb
    subst e
    exact ⟨h1,hL,h2,h3⟩
  · obtain ⟨o,es,ep,ho,r⟩:=hm
    exact ⟨o,es,ep,k _ o (Ne.symm hL) ho,r⟩
  · refine (I.hok b u e).stay (fun c v hc q=>k c v ?_ q) (fun _ q=>q) fun _ _ q=>q
    rcases hc with z | z
    · rw [z]; exact nit b u e
    · exact nit c _ z
theorem Inv.tok (I:Inv X pins σ H s) (t:Nat):Inv X pins σ H { s with toks:=t }:=I.un (h':=s.heap) (t':=t) Un.refl I.hok
theorem Inv.kept {t':Nat} (I:Inv X pins σ H s) (k:∀ b u,s.heap.get? b=some u→h'.get? b=some u):Inv X pins σ H { s with heap:=h',toks:=t' }:=I.un (Un.kept k) (I.hok.kept k)
theorem Inv.laid {a:Addr} {o:HO} {t':Nat} (I:Inv X pins σ H s) (k:∀ b u,s.heap.get? b=some u→h'.get? b=some u) (hp:s.heap.objs.size≤a) (new:Ab X.prog X.w (upd H a o) h' a o) :
    Inv X pins σ (upd H a o) { s with heap:=h',toks:=t' }:=I.un (Un.laid k hp (I.hok.fresh hp)) (I.hok.laid k hp new)
theorem Inv.write {x e:Addr} {o:HO} {t':Nat} (I:Inv X pins σ H s) (mu:Mut (H x)) (he:e=x∨H e=some (.own x)) (k:∀ b u,b≠e→s.heap.get? b=some u→h'.get? b=some u) (heo:∃ u,h'.get? e=some u)
    (new:Ab X.prog X.w (upd H x o) h' x o):Inv X pins σ (upd H x o) { s with heap:=h',toks:=t' }:=I.un (Un.write mu he k heo) (I.hok.write mu he k heo new)
theorem Inv.Zf {pins':List (Addr × Obj)} (I:Inv X pins σ H s) (h:∀ p∈pins',s.heap.get? p.1=some p.2∧H p.1=none∧p.1≠X.env.locals∧p.1∉X.fs∧∀ v,p.2.data≠.cell v):Inv X pins' σ H s :=
  ⟨I.ok,I.os,I.bare,I.base,I.loc,I.cell,I.free,I.freeC,fun p hp=>(List.mem_append.mp hp).elim (fun z=>I.pin p (List.mem_append_left _ z)) (h p),I.hok,I.len⟩
theorem Ve {N:List Str} (hN:N.Nodup) {i j:Nat} {x:Str} (a:N[i]? = some x) (b:N[j]? = some x):i=j:=by
  obtain ⟨h1,e1⟩:=List.getElem?_eq_some_iff.mp a
  obtain ⟨h2,e2⟩:=List.getElem?_eq_some_iff.mp b
  exact (List.getElem_inj hN).mp (e1.trans e2.symm)
theorem a0s {M:Model} {A:Around} {E:Value→Shared→Prop} {i:Nat} {x:Str} {v:V} {u:Value} {Q:Unit→Shared→Prop} (I:Inv X pins σ H s) (hN:X.N.Nodup) (hi:X.N[i]? = some x) (hx:Loc X.env.scope x) (r:RelV v u)
    (h:∀ s',Inv X pins (σ.set i (some v)) H s'→(∃ a,Heap.SameBut a s.heap s'.heap∧(a=X.env.locals∨X.env.cells.lookup x=some a))→Q () s') (hf:X.fn x=true∨X.env.scope.names.lookup x=some .local:=by first | exact .inl rfl | exact .inr rfl | assumption):wpAny M A (storeName X.env x u) Q E s:=by
  obtain ⟨m,hn,hl⟩:=id I.loc
  have hcls:(X.env.scope.kind == .class||(X.env.scope.kind == .module&&X.env.locals != X.env.globals))=false:=by rw [I.ok.kind]; rfl
  have hiσ:i<σ.length:=by rw [I.len]; exact (List.getElem?_eq_some_iff.mp hi).1
  have cne:=I.cne
  have tracked:∀ {a:Addr} {h':Heap},(∃ o,s.heap.get? a=some o∧H a=none)→Heap.SameBut a s.heap h'→HOk X.prog X.w H h':=fun {a h'} ha hs b ob e=>by
    obtain ⟨_,_,hfree⟩:=ha
    refine (I.hok b ob e).stay (fun c w' hc q=>(hs.2 c ?_).trans q) (fun _ q=>q) fun _ _ q=>q
    rintro rfl
    rcases hc with rfl | hc
    · rw [hfree] at e; cases e
    · rw [hfree] at hc; cases hc
  rcases hx with hk | hk
  · refine wpAny_storeName_local hk hn (fun h' hn' hs=>?_) hcls
    obtain ⟨oL,_,_,hoL,_⟩:=id hn
    refine h _ ⟨I.ok,I.os,I.bare,⟨fun b o e n hb hx=>?_,fun b o e n hb hx=>?_,I.base.free,fun b o e hx=>?_,I.base.tups,I.base.frzs,I.base.tbls⟩,⟨_,hn',fun j y v' e1 e2 e3=>?_⟩,fun y c e=>?_,I.free,I.freeC,fun p hp=>?_,tracked ⟨oL,hoL,I.free⟩ hs,by simpa using I.len⟩ ⟨_,hs,.inl rfl⟩
    · exact (hs.2 b (Nat.ne_of_lt (Nat.lt_of_lt_of_le (Heap.lt_size e) I.ok.above))).trans (I.base.keep b o e n hb hx)
    · obtain ⟨sl,e1⟩:=I.base.slot b o e n hb hx
      exact ⟨sl,(hs.2 b (Nat.ne_of_lt (Nat.lt_of_lt_of_le (Heap.lt_size e) I.ok.above))).trans e1⟩
    · obtain ⟨o',e1⟩:=I.base.there b o e hx
      exact ⟨o',(hs.2 b (Nat.ne_of_lt (Nat.lt_of_lt_of_le (Heap.lt_size e) I.ok.above))).trans e1⟩
    · by_cases hj:j=i
      · subst hj
        rw [hi] at e1; cases e1
        rw [List.getElem?_set_self hiσ] at e2
        cases e2
        exact ⟨u,r,.inl ⟨hk,by simp⟩⟩
      · rw [List.getElem?_set_ne (Ne.symm hj)] at e2
        obtain ⟨u',r',q⟩:=hl j y v' e1 e2 e3
        refine ⟨u',r',?_⟩
        rcases q with ⟨k,e⟩ | ⟨k,c,e,z⟩
        · refine .inl ⟨k,?_⟩
          have:y≠x:=fun e=>hj (Ve hN e1 (e ▸ hi))
          simp [this,e]
        · exact .inr ⟨k,c,e,z.sameBut hs (cne y c e)⟩
    · obtain ⟨w',z⟩:=I.cell y c e
      exact ⟨w',z.sameBut hs (cne y c e)⟩
    · obtain ⟨e,n,ne,nf,d⟩:=I.pin p hp
      exact ⟨(hs.2 p.1 ne).trans e,n,ne,nf,d⟩
  · have hfn:X.fn x=true:=by
      rcases hf with z | z
      · exact z
      · rw [z] at hk; cases hk
    obtain ⟨c,hc⟩:=I.ok.has x (.inl hk)
    obtain ⟨w',z⟩:=I.cell x c hc
    refine wpAny_storeName_cell I.ok.kind hk hc z (fun h' hc' hs=>?_)
    obtain ⟨oc,hoc,hocd⟩:=id z
    refine h { s with heap:=h' } ⟨I.ok,I.os,I.bare,⟨fun b o e n hb hx=>?_,fun b o e n hb hx=>?_,I.base.free,fun b o e hx=>?_,I.base.tups,I.base.frzs,I.base.tbls⟩,⟨m,hn.sameBut hs (Ne.symm (cne x c hc)),fun j y v' e1 e2 e3=>?_⟩,fun y c' e=>?_,I.free,I.freeC,fun p hp=>?_,tracked ⟨oc,hoc,I.freeC x c hc⟩ hs,by simpa using I.len⟩ ⟨c,hs,.inr hc⟩
    · exact (hs.2 b (Nat.ne_of_lt (Nat.lt_of_lt_of_le (Heap.lt_size e) (I.ok.cab x c hfn hc)))).trans (I.base.keep b o e n hb hx)
    · obtain ⟨sl,e1⟩:=I.base.slot b o e n hb hx
      exact ⟨sl,(hs.2 b (Nat.ne_of_lt (Nat.lt_of_lt_of_le (Heap.lt_size e) (I.ok.cab x c hfn hc)))).trans e1⟩
    · obtain ⟨o',e1⟩:=I.base.there b o e hx
      exact ⟨o',(hs.2 b (Nat.ne_of_lt (Nat.lt_of_lt_of_le (Heap.lt_size e) (I.ok.cab x c hfn hc)))).trans e1⟩
    · by_cases hj:j=i
      · subst hj
        rw [hi] at e1; cases e1
        rw [List.getElem?_set_self hiσ] at e2
        cases e2
        exact ⟨u,r,.inr ⟨.inl hk,c,hc,hc'⟩⟩
      · rw [List.getElem?_set_ne (Ne.symm hj)] at e2
        obtain ⟨u',r',q⟩:=hl j y v' e1 e2 e3
        refine ⟨u',r',?_⟩
        rcases q with q | ⟨k,c',e,z'⟩
        · exact .inl q
        · refine .inr ⟨k,c',e,z'.sameBut hs ?_⟩
          rintro rfl
          exact hj (Ve hN e1 (I.ok.inj _ _ _ e hc ▸ hi))
    · by_cases hcc:c'=c
      · subst hcc; exact ⟨_,hc'⟩
      · obtain ⟨w2,z2⟩:=I.cell y c' e
        exact ⟨w2,z2.sameBut hs hcc⟩
    · obtain ⟨e,n,ne,nf,d⟩:=I.pin p hp
      refine ⟨(hs.2 p.1 ?_).trans e,n,ne,nf,d⟩
      intro q
      rw [q,hoc] at e
      have q':oc=p.2:=Option.some.inj e
      exact d w' (by rw [← q']; exact hocd)
theorem Vy {M:Model} {A:Around} {E:Value→Shared→Prop} {i:Nat} {x:Str} {v:V} {u:Value} {Q:Unit→Shared→Prop} (I:Inv X pins σ H s) (hN:X.N.Nodup) (hi:X.N[i]? = some x) (hx:Loc X.env.scope x) (r:RelV v u)
    (h:∀ s',Inv X pins (σ.set i (some v)) H s'→Q () s') (hf:X.fn x=true∨X.env.scope.names.lookup x=some .local:=by first | exact .inl rfl | exact .inr rfl | assumption):wpAny M A (storeName X.env x u) Q E s :=
  a0s I hN hi hx r (fun s' I' _=>h s' I') hf
end
noncomputable abbrev XK:=Value→Option Addr→Hp→Prop
noncomputable abbrev St:=List (Option V)
noncomputable abbrev VK:=V→Hp→Prop
noncomputable abbrev TE:=St→Hp→VK→Prop
noncomputable abbrev TT:=St→Hp→(Bool→Hp→Prop)→Prop
noncomputable abbrev TA:=St→Hp→(List V→Hp→Prop)→Prop
structure Ends where
  nx:St→Hp→Prop
  rt:VK
  bk:St→Hp→Prop:=fun _ _=>False
  ct:St→Hp→Prop:=fun _ _=>False
noncomputable abbrev TS:=Ends→St→Hp→Prop
inductive EP (X:Cx) (pins:List (Addr × Obj)) (σ:St) (Q:VK) (u:Value) (s':Shared):Prop
  | mk (v:V) (H':Hp) (I:Inv X pins σ H' s') (r:RelV v u) (q:Q v H')
noncomputable def TP (X:Cx) (pins:List (Addr × Obj)) (σ:St) (Q:Bool→Hp→Prop) (b:Bool) (s':Shared):Prop:=∃ H',Inv X pins σ H' s'∧Q b H'
inductive AP (X:Cx) (pins:List (Addr × Obj)) (σ:St) (Q:List V→Hp→Prop) (us:List Value) (s':Shared):Prop
  | mk (vs:List V) (H':Hp) (I:Inv X pins σ H' s') (r:Vals vs us) (q:Q vs H')
noncomputable def SP (X:Cx) (pins:List (Addr × Obj)) (D:Ends) (f:Flow) (s':Shared):Prop :=
  match f with
  | .next=>∃ σ' H',Inv X pins σ' H' s'∧D.nx σ' H'
  | .brk=>∃ σ' H',Inv X pins σ' H' s'∧D.bk σ' H'
  | .cont=>∃ σ' H',Inv X pins σ' H' s'∧D.ct σ' H'
  | .ret u=>∃ v σ' H',Inv X pins σ' H' s'∧RelV v u∧D.rt v H'
noncomputable def PE (X:Cx) (e:Expr) (t:TE):Prop :=
  ∀ (pins:List (Addr × Obj)) (s:Shared) (σ:St) (H:Hp) (Q:VK),Inv X pins σ H s→t σ H Q→wpAny (model X.prog X.w) X.A (eval e X.env) (EP X pins σ Q) X.xe s
noncomputable def PT (X:Cx) (e:Expr) (t:TT):Prop :=
  ∀ (pins:List (Addr × Obj)) (s:Shared) (σ:St) (H:Hp) (Q:Bool→Hp→Prop),Inv X pins σ H s→t σ H Q→wpAny (model X.prog X.w) X.A (isTrue e X.env (eval e X.env)) (TP X pins σ Q) X.xe s
noncomputable def PW (X:Cx) (e:Expr) (t:TT):Prop :=
  ∀ (whole:Sem Value) (pins:List (Addr × Obj)) (s:Shared) (σ:St) (H:Hp) (Q:Bool→Hp→Prop),Inv X pins σ H s→t σ H Q→wpAny (model X.prog X.w) X.A (isTrue e X.env whole) (TP X pins σ Q) X.xe s
theorem PW.pt {X:Cx} {e:Expr} {t:TT} (h:PW X e t):PT X e t:=h _
noncomputable def PA (X:Cx) (es:List Expr) (t:TA):Prop :=
  ∀ (pos:Pos) (pins:List (Addr × Obj)) (s:Shared) (σ:St) (H:Hp) (Q:List V→Hp→Prop),Inv X pins σ H s→t σ H Q→wpAny (model X.prog X.w) X.A (spliced (backTo pos (starEach es X.env))) (AP X pins σ Q) X.xe s
noncomputable def PS (X:Cx) (st:Stmt) (t:TS):Prop :=
  ∀ (pins:List (Addr × Obj)) (s:Shared) (σ:St) (H:Hp) (D:Ends),Inv X pins σ H s→t D σ H→wpAny (model X.prog X.w) X.A (exec st X.env) (SP X pins D) X.xe s
noncomputable def PSs (X:Cx) (st:List Stmt) (t:TS):Prop :=
  ∀ (pins:List (Addr × Obj)) (s:Shared) (σ:St) (H:Hp) (D:Ends),Inv X pins σ H s→t D σ H→wpAny (model X.prog X.w) X.A (execs st X.env) (SP X pins D) X.xe s
theorem thn {α:Type} {t:Sem α} {Q Q':α→Shared→Prop} {M:Model} {A:Around} {E:Value→Shared→Prop} {s:Shared} (h:wpAny M A t Q E s) (hQ:∀ a s,Q a s→Q' a s):wpAny M A t Q' E s:=wpAny_mono h hQ fun _ _ x=>x
end L2
namespace L2
open PySem PySem.Spec PyProof.Rows
noncomputable section
variable {X:Cx}
noncomputable def W3 (i:Nat):TE:=fun σ H Q=>∃ v,σ[i]? = some (some v)∧Q v H
noncomputable def tC (v:V):TE:=fun _ H Q=>Q v H
theorem a8l {i:Nat} {x:Str} {pos:Pos} (hN:X.N[i]? = some x) (hv:Vis X.env.scope x) (hd:(x==("__debug__" : Str))=false:=by decide) (hcd:(x==("__classdict__" : Str))=false:=by decide):PE X (.Name x pos) (W3 i):=by
  intro pins s σ H Q I h
  obtain ⟨v,e,h⟩:=h
  obtain ⟨m,hn,hl⟩:=I.loc
  obtain ⟨u,r,l⟩:=hl i x v hN e hv
  have fin:EP X pins σ Q u s:=⟨v,H,I,r,h⟩
  rcases l with ⟨hk,hm⟩ | ⟨hk,c,hc,hcell⟩
  · exact wpAny_Name (wpAny_loadName_local I.ok.kind hk hn hm fin) hd
  · rcases hk with hk | hk
    · exact wpAny_Name (wpAny_loadName_cell I.ok.kind hk hc hcell fin) hd
    · exact wpAny_Name (wpAny_loadName_free I.ok.kind hk hc hcell fin hcd) hd
theorem a9r {i j pos}:PE X (.Constant (.int i) j pos) (tC (.int i)):=fun _ _ _ H _ I h=>wpAny_Constant_int ⟨.int i,H,I.tok _,⟨_,rfl⟩,h⟩
theorem ab8 {b j pos}:PE X (.Constant (.bool b) j pos) (tC (.bl b)):=fun _ _ _ H _ I h=>Constant_bool ⟨.bl b,H,I,rfl,h⟩
theorem a8s {x j pos}:PE X (.Constant (.str x) j pos) (tC (.str x)):=fun _ _ _ H _ I h=>Calls.Constant_str ⟨.str x,H,I.tok _,⟨_,rfl⟩,h⟩
noncomputable def Gl (X:Cx) (x:Str):Prop:=X.env.kindOf x=some .globalImplicit
theorem a1p {E:Value→Shared→Prop} {pins:List (Addr × Obj)} {s:Shared} {σ:St} {H:Hp} {x:Str} {u:Value} {pos:Pos} {Q:Value→Shared→Prop} (I:Inv X pins σ H s) (hg:Gl X x) (hm:X.mg x=some u) (h:Q u s)
    (hd:(x==("__debug__" : Str))=false:=by decide):wpAny (model X.prog X.w) X.A (eval (.Name x pos) X.env) Q E s :=
  Calls.Name_function_global I.ok.kind hg (Calls.loadGlobal_global (by rw [I.ok.glob]; exact I.mod.glob.keeps I.bk) hm h) hd
theorem N8 {E:Value→Shared→Prop} {pins:List (Addr × Obj)} {s:Shared} {σ:St} {H:Hp} {x:Str} {u:Value} {pos:Pos} {Q:Value→Shared→Prop} (I:Inv X pins σ H s) (hg:Gl X x) (hm:X.mg x=none) (hv:bootBuiltins x=some u) (h:Q u s)
    (hn:x ≠ "__name__" := by decide) (hd:(x==("__debug__" : Str))=false:=by decide):wpAny (model X.prog X.w) X.A (eval (.Name x pos) X.env) Q E s:=by
  obtain ⟨mb,h1,h2⟩:=I.mod.blt
  exact Calls.Name_function_global I.ok.kind hg (Calls.loadGlobal_builtin (by rw [I.ok.glob]; exact I.mod.glob.keeps I.bk) hm (by rw [I.ok.blt]; exact h1.keeps I.bk) ((h2 x hn).trans hv) h) hd
theorem a0c {x:Str} {v:V} {u:Value} {pos:Pos} (hg:Gl X x) (hm:X.mg x=some u) (r:RelV v u) (hd:(x==("__debug__" : Str))=false:=by decide):PE X (.Name x pos) (tC v) :=
  fun _ _ _ H _ I h=>a1p I hg hm ⟨v,H,I,r,h⟩ hd
theorem a6i {x:Str} {v:V} {u:Value} {pos:Pos} (hg:Gl X x) (hm:X.mg x=none) (hv:bootBuiltins x=some u) (r:RelV v u) (hn:x ≠ "__name__" := by decide) (hd:(x==("__debug__" : Str))=false:=by decide):PE X (.Name x pos) (tC v) :=
  fun _ _ _ H _ I h=>N8 I hg hm hv ⟨v,H,I,r,h⟩ hn hd
variable {a b:Expr} {ta tb:TE} {pos:Pos}
noncomputable def tB (t:TE):TT:=fun σ H Q=>t σ H fun x H1=>∃ c,x=.bl c∧Q c H1
theorem a9g {e:Expr} {t:TE} (h:PE X e t) (he:∀ whole,isTrue e X.env whole=(do let v ← whole; standAt e.pos; holding [v] (truthy v)):=by intro _; rfl):PT X e (tB t):=by
  intro pins s σ H Q I hw
  refine isTrue_plain (thn (h pins s σ H _ I hw) fun v s1 z0=>?_) (he _)
  obtain ⟨x,H1,I1,r1,q1⟩:=z0
  obtain ⟨d,rfl,q⟩:=q1
  cases r1
  exact wpAny_truthy_bool ⟨H1,I1,q⟩
variable {tA tB':TT} {rest:List Expr}
noncomputable def ach (t u:TT):TT:=fun σ H Q=>t σ H fun c H1=>if c=true then u σ H1 Q else Q false H1
noncomputable def tOr (t u:TT):TT:=fun σ H Q=>t σ H fun c H1=>if c=true then Q true H1 else u σ H1 Q
noncomputable def ad9 (t:TT):TT:=fun σ H Q=>t σ H fun c H1=>Q (!c) H1
theorem pw_and1 (ha:PT X a tA):PW X (.BoolOp .And [a] pos) tA:=by
  intro wh pins s σ H Q I h
  refine isTrue_and (thn (ha pins s σ H Q I h) fun c s1 e=>?_)
  cases c with
  | true=>exact isTrue_and_nil e
  | false=>exact e
theorem pw_or1 (ha:PT X a tA):PW X (.BoolOp .Or [a] pos) tA:=by
  intro wh pins s σ H Q I h
  refine isTrue_or (thn (ha pins s σ H Q I h) fun c s1 e=>?_)
  cases c with
  | false=>exact isTrue_or_nil e
  | true=>exact e
theorem pw_and (ha:PT X a tA) (hb:PW X (.BoolOp .And (b::rest) pos) tB'):PW X (.BoolOp .And (a::b::rest) pos) (ach tA tB'):=by
  intro wh pins s σ H Q I h
  refine isTrue_and (thn (ha pins s σ H _ I h) fun c s1 z0=>?_)
  obtain ⟨H1,I1,q1⟩:=z0
  cases c with
  | true=>exact hb wh pins s1 σ H1 Q I1 q1
  | false=>exact ⟨H1,I1,q1⟩
theorem pw_or (ha:PT X a tA) (hb:PW X (.BoolOp .Or (b::rest) pos) tB'):PW X (.BoolOp .Or (a::b::rest) pos) (tOr tA tB'):=by
  intro wh pins s σ H Q I h
  refine isTrue_or (thn (ha pins s σ H _ I h) fun c s1 z0=>?_)
  obtain ⟨H1,I1,q1⟩:=z0
  cases c with
  | true=>exact ⟨H1,I1,q1⟩
  | false=>exact hb wh pins s1 σ H1 Q I1 q1
theorem a86 (ha:PT X a tA):PT X (.UnaryOp .Not a pos) (ad9 tA):=by
  intro pins s σ H Q I h
  exact isTrue_not (ha pins s σ H (fun c H1=>Q (!c) H1) I h)
noncomputable def tIf (t:TT) (ta tb:TE):TE:=fun σ H Q=>t σ H fun c H1=>if c=true then ta σ H1 Q else tb σ H1 Q
theorem a2v {c:Expr} (hc:PT X c tA) (ha:PE X a ta) (hb:PE X b tb):PE X (.IfExp c a b pos) (tIf tA ta tb):=by
  intro pins s σ H Q I h
  refine wpAny_IfExp (thn (hc pins s σ H _ I h) fun d s1 z0=>?_)
  obtain ⟨H1,I1,q1⟩:=z0
  cases d with
  | true=>exact ha pins s1 σ H1 Q I1 q1
  | false=>exact hb pins s1 σ H1 Q I1 q1
end
end L2
namespace L2
open PySem PySem.Spec PyProof.Rows
noncomputable def SqL (K:PySem.W.Frag) (H:Hp) (a:Addr) (xs:List V):Prop :=
  Rd H a (.lst xs) ∨
    ∃ (o:Obj) (its:Array Value) (n:Nat),K.lookup a=some o∧o.cls=.type "list" ∧ o.dict=none∧o.data=.seq its n∧its.size≤sizeLine∧Vals xs its.toList
noncomputable def SqT (K:PySem.W.Frag) (H:Hp) (a:Addr) (xs:List V):Prop :=
  Rd H a (.tup xs) ∨
    ∃ (o:Obj) (its:Array Value) (n:Nat),K.lookup a=some o∧o.cls=.type "tuple" ∧ o.dict=none∧o.data=.seq its n∧its.size≤sizeLine∧Vals xs its.toList
noncomputable def adl:Value→Option V
  | .none=>some .non
  | .bool b=>some (.bl b)
  | .int i _=>some (.int i)
  | .str x _=>some (.str x)
  | .bytes b _=>some (.byt b)
  | .float b _=>some (.flt b)
  | .ref a=>some (.ref a)
  | .type n=>some (.ty n)
  | _=>none
theorem RelV.abs {x:V} {u:Value} (r:RelV x u):adl u=some x:=by
  cases x with
  | non=>cases r; rfl
  | bl _=>cases r; rfl
  | int _=>obtain ⟨t,rfl⟩:=r; rfl
  | str _=>obtain ⟨t,rfl⟩:=r; rfl
  | byt _=>obtain ⟨t,rfl⟩:=r; rfl
  | flt _=>obtain ⟨t,rfl⟩:=r; rfl
  | ref _=>cases r; rfl
  | ty _=>cases r; rfl
theorem RelV.inj {x y:V} {u:Value} (r:RelV x u) (q:RelV y u):x=y:=Option.some.inj (r.abs.symm.trans q.abs)
theorem Vals.inj {xs ys:List V} {us:List Value} (h:Vals xs us):Vals ys us→xs=ys:=by
  induction h generalizing ys with
  | nil=>intro k; cases k; rfl
  | cons r t ih=>intro k; cases k with | cons r' t'=>rw [r.inj r',ih t']
noncomputable section
variable {X:Cx} {pins:List (Addr × Obj)} {σ:St} {H:Hp} {s:Shared} {a:Addr} {xs ys:List V}
theorem SqL.of {K:PySem.W.Frag} (h:H a=some (.lst xs)):SqL K H a xs:=.inl (.inl h)
theorem SqT.of {K:PySem.W.Frag} (h:H a=some (.tup xs)):SqT K H a xs:=.inl (.inl h)
theorem Inv.list (I:Inv X pins σ H s) (h:SqL X.K H a xs):∃ its:List Value,Vals xs its∧PlainL s.heap a its.toArray∧xs.length≤sizeLine:=by
  rcases h with h | ⟨o,its,n,hk,hc,hd,hs,hz,r⟩
  · obtain ⟨z,its,n,r,e⟩:=h.ok I.hok
    exact ⟨its,r,⟨_,n,e,rfl,rfl,rfl⟩,z⟩
  · refine ⟨its.toList,r,⟨o,n,I.kIn a o hk,hc,hd,by simpa using hs⟩,?_⟩
    have e:=r.length
    simp only [Array.length_toList] at e
    omega
theorem Inv.tuple (I:Inv X pins σ H s) (h:SqT X.K H a xs):∃ its:List Value,Vals xs its∧IsTup s.heap a its.toArray∧xs.length≤sizeLine:=by
  rcases h with h | ⟨o,its,n,hk,hc,hdn,hs,hz,r⟩
  · obtain ⟨z,its,r,p⟩:=h.ok I.hok
    exact ⟨its,r,p.is,z⟩
  · refine ⟨its.toList,r,⟨o,I.kIn a o hk,hc,n,by simpa using hs⟩,?_⟩
    have e:=r.length
    simp only [Array.length_toList] at e
    omega
theorem Inv.a96 (I:Inv X pins σ H s) (h:SqT X.K H a xs):∃ its:List Value,Vals xs its∧a2b s.heap a its.toArray∧xs.length≤sizeLine:=by
  rcases h with h | ⟨o,its,n,hk,hc,hdn,hs,hz,r⟩
  · obtain ⟨z,its,r,p⟩:=h.ok I.hok
    exact ⟨its,r,p,z⟩
  · refine ⟨its.toList,r,⟨o,I.kIn a o hk,hc,hdn,n,by simpa using hs⟩,?_⟩
    have e:=r.length
    simp only [Array.length_toList] at e
    omega
theorem Inv.a4f (I:Inv X pins σ H s) (h:SqL X.K H a xs) (h':SqL X.K H a ys):xs=ys:=by
  obtain ⟨its,r,⟨o,n,e,_,_,d⟩,_⟩:=I.list h
  obtain ⟨its',r',⟨o',n',e',_,_,d'⟩,_⟩:=I.list h'
  rw [e] at e'; cases e'
  rw [d] at d'
  injection d' with d1 _
  have:its=its':=by simpa using congrArg Array.toList d1
  subst this
  exact r.inj r'
theorem Inv.Yg (I:Inv X pins σ H s) (h:SqT X.K H a xs) (h':SqT X.K H a ys):xs=ys:=by
  obtain ⟨its,r,⟨o,e,_,n,d⟩,_⟩:=I.tuple h
  obtain ⟨its',r',⟨o',e',_,n',d'⟩,_⟩:=I.tuple h'
  rw [e] at e'; cases e'
  rw [d] at d'
  injection d' with d1 _
  have:its=its':=by simpa using congrArg Array.toList d1
  subst this
  exact r.inj r'
end
noncomputable abbrev Cx.wish (X:Cx) (E:Value→Shared→Prop):Cx:={ X with xe:=E }
noncomputable abbrev Cx.nox (X:Cx):Cx:=X.wish fun _ _=>False
theorem Cx.Ok.wish {X:Cx} (ok:X.Ok) (E:Value→Shared→Prop):(X.wish E).Ok :=
  ⟨ok.mod,ok.kind,ok.glob,ok.blt,ok.above,ok.inj,ok.has,ok.cab,ok.hd,ok.frames,ok.stk,ok.exf,ok.bs,ok.bsz,ok.noex,ok.exfs,ok.Y4,ok.frf⟩
theorem Cx.Ok.Ft {X:Cx} {E:Value→Shared→Prop} (ok:(X.wish E).Ok):X.Ok :=
  ⟨ok.mod,ok.kind,ok.glob,ok.blt,ok.above,ok.inj,ok.has,ok.cab,ok.hd,ok.frames,ok.stk,ok.exf,ok.bs,ok.bsz,ok.noex,ok.exfs,ok.Y4,ok.frf⟩
noncomputable section
variable {X:Cx} {pins:List (Addr × Obj)} {σ:St} {H:Hp} {s:Shared} {E:Value→Shared→Prop}
theorem Inv.wish (I:Inv X pins σ H s) (E:Value→Shared→Prop):Inv (X.wish E) pins σ H s:=⟨I.ok.wish E,I.os,I.bare,I.base,I.loc,I.cell,I.free,I.freeC,I.pin,I.hok,I.len⟩
theorem Inv.Ft (I:Inv (X.wish E) pins σ H s):Inv X pins σ H s:=⟨I.ok.Ft,I.os,I.bare,I.base,I.loc,I.cell,I.free,I.freeC,I.pin,I.hok,I.len⟩
theorem SP.Ft {D:Ends} {f:Flow} {s':Shared} (h:SP (X.wish E) pins D f s'):SP X pins D f s':=by
  cases f with
  | next=>obtain ⟨σ',H',I,q⟩:=h; exact ⟨σ',H',I.Ft,q⟩
  | brk=>obtain ⟨σ',H',I,q⟩:=h; exact ⟨σ',H',I.Ft,q⟩
  | cont=>obtain ⟨σ',H',I,q⟩:=h; exact ⟨σ',H',I.Ft,q⟩
  | ret u=>obtain ⟨v,σ',H',I,r,q⟩:=h; exact ⟨v,σ',H',I.Ft,r,q⟩
theorem PE.nox {e:Expr} {t:TE} (h:PE X.nox e t):PE X e t:=fun pins s σ H Q I hw =>
  wpAny_mono (h pins s σ H Q (I.wish _) hw) (fun _ _ z7=>by obtain ⟨v,H',I',r,q⟩:=z7; exact ⟨v,H',I'.Ft,r,q⟩) fun _ _ z=>False.elim z
theorem PT.nox {e:Expr} {t:TT} (h:PT X.nox e t):PT X e t:=fun pins s σ H Q I hw =>
  wpAny_mono (h pins s σ H Q (I.wish _) hw) (fun _ _ z7=>by obtain ⟨H',I',q⟩:=z7; exact ⟨H',I'.Ft,q⟩) fun _ _ z=>False.elim z
theorem PSs.nox {st:List Stmt} {t:TS} (h:PSs X.nox st t):PSs X st t:=fun pins s σ H D I hw =>
  wpAny_mono (h pins s σ H D (I.wish _) hw) (fun _ _ q=>q.Ft) fun _ _ z=>False.elim z
end
noncomputable section
variable {X:Cx} {st:Stmt} {rest:List Stmt} {t u:TS} {e:Expr} {te:TE} {pos:Pos}
noncomputable def aay:TS:=fun D σ H=>D.nx σ H
noncomputable def acq (t u:TS):TS:=fun D σ H=>t { D with nx:=u D } σ H
theorem Yn:PSs X [] aay:=fun _ _ σ H _ I h=>wpAny_execs_nil ⟨σ,H,I,h⟩
theorem Np (h1:PS X st t) (h2:PSs X rest u):PSs X (st::rest) (acq t u):=by
  intro pins s σ H D I h
  refine wpAny_execs_cons (thn (h1 pins s σ H { D with nx:=u D } I h) fun f s1 q=>?_)
  cases f with
  | next =>
    obtain ⟨σ',H',I',q⟩:=q
    exact h2 pins s1 σ' H' D I' q
  | ret v=>exact q
  | brk=>exact q
  | cont=>exact q
theorem Tp (h1:PS X st t):PSs X [st] t:=by
  intro pins s σ H D I h
  refine wpAny_execs_cons (thn (h1 pins s σ H D I h) fun f s1 q=>?_)
  cases f with
  | next=>exact wpAny_execs_nil q
  | ret v=>exact q
  | brk=>exact q
  | cont=>exact q
theorem Inv.quiet {pins:List (Addr × Obj)} {σ:St} {H:Hp} {s:Shared} (I:Inv X pins σ H s):interactive X.env=false:=by simp [interactive,I.ok.kind]
noncomputable def a3k (te:TE):TS:=fun D σ H=>te σ H fun _ H1=>D.nx σ H1
theorem wk (he:PE X e te) (hs:swapsWith e none pos.line X.env=pure false:=by rfl):PS X (.Expr e pos) (a3k te):=by
  intro pins s σ H D I h
  exact wpAny_Expr_any (thn (he pins s σ H _ I h) fun v s1 z7=>by obtain ⟨x,H1,I1,r1,q1⟩:=z7; exact ⟨σ,H1,I1,q1⟩) I.quiet hs
noncomputable def acv (te:TE):TS:=fun D σ H=>te σ H D.rt
theorem Yr (he:PE X e te):PS X (.Return (some e) pos) (acv te):=by
  intro pins s σ H D I h
  exact wpAny_Return_some (thn (he pins s σ H _ I h) fun v s1 z7=>by obtain ⟨x,H1,I1,r1,q1⟩:=z7; exact ⟨x,σ,H1,I1,r1,q1⟩)
noncomputable def ade (c:TT) (t u:TS):TS:=fun D σ H=>c σ H fun b H1=>if b=true then t D σ H1 else u D σ H1
theorem a9p {c:Expr} {a b:List Stmt} {tc:TT} (hc:PT X c tc) (ha:PSs X a t) (hb:PSs X b u):PS X (.If c a b pos) (ade tc t u):=by
  intro pins s σ H D I h
  refine wpAny_If (thn (hc pins s σ H _ I h) fun d s1 z0=>?_)
  obtain ⟨H1,I1,q1⟩:=z0
  cases d with
  | true=>exact ha pins s1 σ H1 D I1 q1
  | false=>exact hb pins s1 σ H1 D I1 q1
end
noncomputable abbrev TG:=V→St→Hp→(St→Hp→Prop)→Prop
noncomputable abbrev TGs:=List V→St→Hp→(St→Hp→Prop)→Prop
noncomputable def PG (X:Cx) (target:Expr) (t:TG):Prop :=
  ∀ (pins:List (Addr × Obj)) (s:Shared) (σ:St) (H:Hp) (v:V) (u:Value) (Q:St→Hp→Prop),Inv X pins σ H s→RelV v u→t v σ H Q →
    wpAny (model X.prog X.w) X.A (assign target X.env u) (fun _ s'=>∃ σ' H',Inv X pins σ' H' s'∧Q σ' H') X.xe s
noncomputable def PGs (X:Cx) (ts:List Expr) (t:TGs):Prop :=
  ∀ (pins:List (Addr × Obj)) (s:Shared) (σ:St) (H:Hp) (vs:List V) (us:List Value) (Q:St→Hp→Prop),Inv X pins σ H s→Vals vs us→t vs σ H Q →
    wpAny (model X.prog X.w) X.A (assignInOrder ((assignEach ts X.env).map (·.2)) us) (fun _ s'=>∃ σ' H',Inv X pins σ' H' s'∧Q σ' H') X.xe s
noncomputable section
variable {X:Cx} {pos:Pos}
noncomputable def Qf (i:Nat):TG:=fun v σ H Q=>Q (σ.set i (some v)) H
theorem j8 {i:Nat} {x:Str} (hN:X.N.Nodup) (hi:X.N[i]? = some x) (hx:Loc X.env.scope x) (hf:X.fn x=true∨X.env.scope.names.lookup x=some .local:=by first | exact .inl rfl | exact .inr rfl | assumption):PG X (.Name x pos) (Qf i):=by
  intro pins s σ H v u Q I r h
  exact wpAny_assign_Name (Vy I hN hi hx r (fun s' I'=>⟨_,H,I',h⟩) hf)
noncomputable def ac6:TGs:=fun vs σ H Q=>vs=[]∧Q σ H
noncomputable def a8x (t:TG) (u:TGs):TGs:=fun vs σ H Q=>∃ v r,vs=v::r∧t v σ H fun σ' H'=>u r σ' H' Q
theorem yd:PGs X [] ac6:=by
  intro pins s σ H vs us Q I r h
  obtain ⟨e,h⟩:=h
  subst e
  cases r
  exact assignInOrder_nil ⟨σ,H,I,h⟩
theorem jt {e:Expr} {es:List Expr} {t:TG} {u:TGs} (h1:PG X e t) (h2:PGs X es u)
    (hs:(assignEach (e::es) X.env).map (·.2)=assign e X.env::(assignEach es X.env).map (·.2):=by rfl):PGs X (e::es) (a8x t u):=by
  intro pins s σ H vs us Q I r h
  obtain ⟨v,vr,e1,h⟩:=h
  subst e1
  cases r with
  | cons r rr =>
    rw [hs]
    refine assignInOrder_cons (thn (h1 pins s σ H _ _ _ I r h) fun _ s1 z0=>?_)
    obtain ⟨σ1,H1,I1,q1⟩:=z0
    exact h2 pins s1 σ1 H1 _ _ Q I1 rr q1
noncomputable def acd (K:PySem.W.Frag) (n:Nat) (t:TGs):TG:=fun v σ H Q=>∃ a xs,v=.ref a∧SqT K H a xs∧xs.length=n∧t xs σ H Q
theorem Al {es:List Expr} {k:Nat} {t:TGs} {n:Nat} (hc:X.calm=true) (h:PGs X es t)
    (hn:(assignEach es X.env).length=n:=by rfl) (hst:(assignEach es X.env).findIdx? (·.1)=none:=by rfl):PG X (.Tuple es k pos) (acd X.K n t):=by
  intro pins s σ H v u Q I r hw
  obtain ⟨a,xs,e1,hq,hl,hw⟩:=hw
  subst e1
  cases r
  obtain ⟨its,rv,ht,hz⟩:=I.tuple hq
  refine assign_Tuple_tuple (I.ok.hd hc) ht (by simp [hn,← hl,rv.length]) hst fun h' hx=>?_
  have I1:Inv X pins σ H { s with heap:=h' }:=I.kept (t':=s.toks) fun b o e=>hx b o (Nat.ne_of_lt (Heap.lt_size e)) e
  exact h pins _ σ H xs _ Q I1 (by simpa using rv) hw
noncomputable def a7l (te:TE) (g:TG):TS:=fun D σ H=>te σ H fun x H1=>g x σ H1 D.nx
theorem Zo {tg e:Expr} {te:TE} {g:TG} (he:PE X e te) (hg:PG X tg g) (hs:swapsWithSole [tg] e pos.line X.env=pure false:=by rfl) (hw:swappedStores [tg] e X.env=pure none:=by rfl)
    (h1:(assignEach [tg] X.env).map (·.2)=[assign tg X.env]:=by rfl):PS X (.Assign [tg] e pos) (a7l te g):=by
  intro pins s σ H D I h
  refine wpAny_Assign_stores (thn (he pins s σ H _ I h) fun v s1 z0=>?_) hs hw
  obtain ⟨x,H1,I1,r1,q1⟩:=z0
  rw [h1]
  exact thn (hg pins s1 σ H1 x v _ I1 r1 q1) fun _ s2 q=>q
theorem kj {i:Nat} {x:Str} {e:Expr} {te:TE} {pos':Pos} (hN:X.N.Nodup) (hi:X.N[i]? = some x) (hx:Loc X.env.scope x) (he:PE X e te) (hs:swapsWith e (some (.Name x pos')) pos.line X.env=pure false:=by rfl) (hf:X.fn x=true∨X.env.scope.names.lookup x=some .local:=by first | exact .inl rfl | exact .inr rfl | assumption) :
    PS X (.Assign [.Name x pos'] e pos) (a7l te (Qf i)):=by
  intro pins s σ H D I h
  refine wpAny_Assign_Name (thn (he pins s σ H _ I h) fun v s1 z0=>?_) hs
  obtain ⟨y,H1,I1,r1,q1⟩:=z0
  exact Vy I1 hN hi hx r1 (fun s2 I2=>⟨_,H1,I2,q1⟩) hf
end
noncomputable section
variable {X:Cx} {pos:Pos}
end
structure It where
  go:Nat→Hp→Prop
  yld:Nat→Hp→V→Hp→Prop
  stop:Nat→Hp→Prop
noncomputable def Wh (X:Cx) (pins:List (Addr × Obj)) (H:Hp) (b:Addr):Prop :=
  H b=none∧b≠X.env.locals∧b∉X.fs∧(b∈X.ex∨X.s₀.heap.objs.size≤b)∧(∀ x c,X.env.cells.lookup x=some c→c≠b)∧∀ p∈X.pn++pins,p.1≠b
theorem Inv.aa4 {X:Cx} {pins:List (Addr × Obj)} {σ:St} {H H':Hp} {s:Shared} {b:Addr} (I:Inv X pins σ H s) (hb:s.heap.objs.size≤b) (hn:H' b=none):Wh X pins H' b:=by
  refine ⟨hn,Nat.ne_of_gt (Nat.lt_of_lt_of_le I.lt hb),I.adf hb,.inr (Nat.le_trans I.sz hb),fun x c e z=>?_,fun p hp z=>?_⟩
  · obtain ⟨v,q⟩:=I.cell x c e
    exact absurd (Nat.lt_of_lt_of_le q.lt (by rw [z]; exact hb)) (Nat.lt_irrefl _)
  · exact absurd (Nat.lt_of_lt_of_le (Heap.lt_size (I.pin p hp).1) (by rw [z]; exact hb)) (Nat.lt_irrefl _)
structure Turn (P:Program) (w:World) (K:PySem.W.Frag) (tg:Expr) (J:It) (fp:List Addr) (it:Addr) (tn:Nat→Heap→Prop):Prop where
  mem:it∈fp
  obj:∀ i h,tn i h→∀ b∈fp,∃ o,h.get? b=some o∧∀ v,o.data≠.cell v
  keep:∀ i h h',tn i h→(∀ b∈fp,∀ o,h.get? b=some o→h'.get? b=some o)→tn i h'
  item:∀ (X:Cx),X.prog=P→X.w=w→X.K=K→X.calm=true→∀ (i:Nat) (pins:List (Addr × Obj)) (s:Shared) (σ:St) (H:Hp) (E:Value→Shared→Prop),Inv X pins σ H s→(∀ b∈fp,Wh X pins H b)→tn i s.heap→J.go i H →
    wpAny (model P w) X.A (pyNext (.ref it)) (fun r s1=>∃ u,r=some u ∧
      wpAny (model P w) X.A (letOwnedTupleGo tg (.ref it) u) (fun _ s2=>∃ x H',Inv X pins σ H' s2∧RelV x u∧J.yld i H x H'∧tn (i+1) s2.heap∧∀ b∈fp,H' b=none) E s1) E s
  done:∀ (X:Cx),X.prog=P→X.w=w→X.K=K→X.calm=true→∀ (i:Nat) (pins:List (Addr × Obj)) (s:Shared) (σ:St) (H:Hp) (E:Value→Shared→Prop),Inv X pins σ H s→(∀ b∈fp,Wh X pins H b)→tn i s.heap→J.stop i H →
    wpAny (model P w) X.A (pyNext (.ref it)) (fun r s1=>r=none∧Inv X pins σ H s1) E s
  self:∀ (A:Around) (i:Nat) (s:Shared) (Q:Value→Shared→Prop) (E:Value→Shared→Prop),tn i s.heap→Q (.ref it) s→wpAny (model P w) A (pyIter (.ref it)) Q E s
noncomputable abbrev TI:=St→Hp→(It→Hp→Prop)→Prop
noncomputable def PIE (X:Cx) (pins:List (Addr × Obj)) (σ:St) (tg:Expr) (R:It→Hp→Prop) (itv:Value) (s2:Shared):Prop :=
  ∃ (it:Addr) (fp:List Addr) (tn:Nat→Heap→Prop) (J:It) (H':Hp),itv=.ref it∧Inv X pins σ H' s2∧Turn X.prog X.w X.K tg J fp it tn∧tn 0 s2.heap∧(∀ b∈fp,Wh X pins H' b)∧R J H'
noncomputable def PI (X:Cx) (tg iter:Expr) (wi:TI):Prop :=
  ∀ (pins:List (Addr × Obj)) (s:Shared) (σ:St) (H:Hp) (R:It→Hp→Prop),Inv X pins σ H s→wi σ H R →
    wpAny (model X.prog X.w) X.A (eval iter X.env) (fun v s1=>wpAny (model X.prog X.w) X.A (pyIter v) (PIE X pins σ tg R) X.xe s1) X.xe s
theorem a69 {M:Model} {A:Around} {E:Value→Shared→Prop} {s:Shared} {tg:Expr} {it:Addr} {u:Value} {o:Obj} {n:String} {vs:Array Value} {Q:Unit→Shared→Prop} (ho:s.heap.get? it=some o) (hc:o.cls=.type n) (hd:o.data=.fields vs)
    (hn:["enumerate","zip","dict_itemiterator","dict_reverseitemiterator","odict_iterator","itertools.zip_longest","itertools.pairwise"].contains n=false) (hQ:Q () s):wpAny M A (letOwnedTupleGo tg (.ref it) u) Q E s:=by
  unfold letOwnedTupleGo
  cases tg <;> first
    | exact wpAny_pure hQ
    | (cases u <;> first
        | exact wpAny_pure hQ
        | (refine wpAny_bind (wpAny_load ho ?_)
           rw [hc,hd]
           show wpAny M A (if (["enumerate","zip","dict_itemiterator","dict_reverseitemiterator","odict_iterator","itertools.zip_longest","itertools.pairwise"].contains n&&vs[0]? == some (rawInt _))=true then _ else _) Q E s
           rw [if_neg (by intro h; rw [hn,Bool.false_and] at h; cases h)]
           exact wpAny_pure hQ))
noncomputable def Itl (K:PySem.W.Frag) (a:Addr):It :=
  ⟨fun i H=>∃ xs x,SqL K H a xs∧xs[i]? = some x,fun i H x H'=>H'=H∧∀ xs,SqL K H a xs→xs[i]? = some x,fun i H=>∃ xs,SqL K H a xs∧xs.length≤i⟩
noncomputable def Itt (K:PySem.W.Frag) (a:Addr):It :=
  ⟨fun i H=>∃ xs x,SqT K H a xs∧xs[i]? = some x,fun i H x H'=>H'=H∧∀ xs,SqT K H a xs→xs[i]? = some x,fun i H=>∃ xs,SqT K H a xs∧xs.length≤i⟩
noncomputable def Itr (lo:Int) (n:Nat):It:=⟨fun i _=>i<n,fun i H x H'=>H'=H∧x=.int (lo+i),fun i _=>n≤i⟩
theorem a00 {P:Program} {w:World} {K:PySem.W.Frag} {tg:Expr} (a it:Addr):Turn P w K tg (Itl K a) [it] it (fun i h=>h.IsListIter it a i) where
  mem:=by simp
  obj:=fun i h st b hb=>by
    have e:b=it:=by simpa using hb
    subst e
    obtain ⟨o,e,c,d⟩:=st
    exact ⟨o,e,fun v z=>by rw [d] at z; cases z⟩
  keep:=fun i h h' st k=>st.at fun o e=>k it (by simp) o e
  item:=by
    intro X hP hw hK hc i pins s σ H E I hf st hg
    subst hP hw hK
    obtain ⟨xs,x,hq,hx⟩:=hg
    obtain ⟨its,rv,p,hz⟩:=I.list hq
    obtain ⟨u,hu,ru⟩:=rv.get hx
    obtain ⟨f0,f1,f2,f3,f4,f5⟩:=hf it (by simp)
    refine wpAny_pyNext_list_item st p.isList (x:=u) (by simpa using hu) fun h' st' sb=>?_
    have I1:Inv X pins σ H { s with heap:=h' }:=I.turned (t':=s.toks) (fun b o hb e=>(sb.2 b hb).trans e) f0 f1 f3 f4 f5
    obtain ⟨o,e,c,d⟩:=id st'
    exact ⟨u,rfl,a69 (s:={ s with heap:=h' }) e c d (by decide) ⟨x,H,I1,ru,⟨rfl,fun ys hy=>by rw [I.a4f hy hq]; exact hx⟩,st',fun b hb=>(hf b hb).1⟩⟩
  done:=by
    intro X hP hw hK hc i pins s σ H E I hf st hg
    subst hP hw hK
    obtain ⟨xs,hq,hx⟩:=hg
    obtain ⟨its,rv,p,hz⟩:=I.list hq
    obtain ⟨f0,f1,f2,f3,f4,f5⟩:=hf it (by simp)
    have hl:=rv.length
    exact wpAny_pyNext_list_end (I.ok.hd hc) st p.isList (by simp; omega) fun h' eb=>⟨rfl,I.turned (t':=s.toks) (fun b o hb e=>eb b o hb e) f0 f1 f3 f4 f5⟩
  self:=fun _ _ _ _ _ st h=>wpAny_pyIter_listiter st h
theorem Xm {P:Program} {w:World} {K:PySem.W.Frag} {tg:Expr} (a it:Addr):Turn P w K tg (Itt K a) [it] it (fun i h=>h.IsTupleIter it a i) where
  mem:=by simp
  obj:=fun i h st b hb=>by
    have e:b=it:=by simpa using hb
    subst e
    obtain ⟨o,e,c,d⟩:=st
    exact ⟨o,e,fun v z=>by rw [d] at z; cases z⟩
  keep:=fun i h h' st k=>st.at fun o e=>k it (by simp) o e
  item:=by
    intro X hP hw hK hc i pins s σ H E I hf st hg
    subst hP hw hK
    obtain ⟨xs,x,hq,hx⟩:=hg
    obtain ⟨its,rv,p,hz⟩:=I.tuple hq
    obtain ⟨u,hu,ru⟩:=rv.get hx
    obtain ⟨f0,f1,f2,f3,f4,f5⟩:=hf it (by simp)
    refine wpAny_pyNext_tuple_item st (show s.heap.IsTuple a its.toArray from p) (x:=u) (by simpa using hu) fun h' st' sb=>?_
    have I1:Inv X pins σ H { s with heap:=h' }:=I.turned (t':=s.toks) (fun b o hb e=>(sb.2 b hb).trans e) f0 f1 f3 f4 f5
    obtain ⟨o,e,c,d⟩:=id st'
    exact ⟨u,rfl,a69 (s:={ s with heap:=h' }) e c d (by decide) ⟨x,H,I1,ru,⟨rfl,fun ys hy=>by rw [I.Yg hy hq]; exact hx⟩,st',fun b hb=>(hf b hb).1⟩⟩
  done:=by
    intro X hP hw hK hc i pins s σ H E I hf st hg
    subst hP hw hK
    obtain ⟨xs,hq,hx⟩:=hg
    obtain ⟨its,rv,p,hz⟩:=I.tuple hq
    obtain ⟨f0,f1,f2,f3,f4,f5⟩:=hf it (by simp)
    have hl:=rv.length
    exact wpAny_pyNext_tuple_end (I.ok.hd hc) st (show s.heap.IsTuple a its.toArray from p) (by simp; omega) fun h' eb=>⟨rfl,I.turned (t':=s.toks) (fun b o hb e=>eb b o hb e) f0 f1 f3 f4 f5⟩
  self:=fun _ _ _ _ _ st h=>wpAny_pyIter_tupleiter st h
theorem X4 {P:Program} {w:World} {K:PySem.W.Frag} {tg:Expr} (it:Addr) (lo:Int) (n:Nat):Turn P w K tg (Itr lo n) [it] it (fun i h=>IsRangeIter h it (lo+(i:Nat) * 1) ((n:Int) - (i:Nat)) 1) where
  mem:=by simp
  obj:=fun i h st b hb=>by
    have e:b=it:=by simpa using hb
    subst e
    exact ⟨_,st,fun v z=>by
      have z':Data.fields _=Data.cell v:=z
      cases z'⟩
  keep:=fun i h h' st k=>k it (by simp) _ st
  item:=by
    intro X hP hw hK hc i pins s σ H E I hf st hg
    subst hP hw hK
    obtain ⟨f0,f1,f2,f3,f4,f5⟩:=hf it (by simp)
    have W:=Walks.range (prog:=X.prog) (w:=X.w) (I.ok.hd hc) it lo 1 n
    refine W.item i s _ _ hg st fun v h' tk hv st' kk=>?_
    obtain ⟨t,rfl⟩:=hv
    have I1:Inv X pins σ H { s with heap:=h',toks:=tk }:=I.turned (fun b o hb e=>kk b o (by simpa using hb) e) f0 f1 f3 f4 f5
    refine ⟨_,rfl,a69 (s:={ s with heap:=h',toks:=tk }) (n := "range_iterator") st' rfl rfl (by decide) ⟨.int (lo+i),H,I1,⟨t,?_⟩,⟨rfl,rfl⟩,st',fun b hb=>(hf b hb).1⟩⟩
    rw [Int.mul_one]
  done:=by
    intro X hP hw hK hc i pins s σ H E I hf st hg
    subst hP hw hK
    obtain ⟨f0,f1,f2,f3,f4,f5⟩:=hf it (by simp)
    exact wpAny_pyNext_range_end (I.ok.hd hc) st (by have:n≤i:=hg; omega) fun h' eb=>⟨rfl,I.turned (t':=s.toks) (fun b o hb e=>eb b o hb e) f0 f1 f3 f4 f5⟩
  self:=fun _ _ _ _ _ st h=>wpAny_pyIter_rangeiter st h
end L2
namespace L2
open PySem PySem.Spec PyProof.Rows
noncomputable section
variable {X:Cx} {tg:Expr}
theorem Vb {pins:List (Addr × Obj)} {σ:St} {H:Hp} {s:Shared} {R:It→Hp→Prop} {E:Value→Shared→Prop} {lo hi:Int} {t u v:Tok} {tk:Nat} (I:Inv X pins σ H s) (h1:-(2 ^ 62)≤lo) (h2:lo<2 ^ 62) (h3:-(2 ^ 62)≤hi) (h4:hi<2 ^ 62)
    (q:R (Itr lo (hi - lo).toNat) H):wpAny (model X.prog X.w) X.A (pyIter (.ref s.heap.objs.size)) (PIE X pins σ tg R) E { s with heap:=s.heap.push { cls:=.type "range",data:=.fields #[.int lo t,.int hi u,.int 1 v] },toks:=tk }:=by
  refine wpAny_pyIter_range (IsRange.new ..) (small_one h1 h2 h3 h4) ?_
  have I1:Inv X pins σ H { s with heap:=s.heap.push { cls:=.type "range",data:=.fields #[.int lo t,.int hi u,.int 1 v] },toks:=tk }:=I.kept fun b o e=>Heap.get?_push_of_some _ e
  refine ⟨(s.heap.push { cls:=.type "range",data:=.fields #[.int lo t,.int hi u,.int 1 v] }).objs.size,[(s.heap.push { cls:=.type "range",data:=.fields #[.int lo t,.int hi u,.int 1 v] }).objs.size],_,_,H,rfl,
    I1.kept (t':=tk) fun b o e=>Heap.get?_push_of_some _ e,X4 _ lo (hi - lo).toNat,?_,fun b hb=>?_,q⟩
  · have e1:lo+((0:Nat):Int) * 1=lo:=by simp
    have e2:(((hi - lo).toNat:Nat):Int) - ((0:Nat):Int)=Builtin.Range.rangeSize lo hi 1:=by rw [rangeSize_one]; split <;> omega
    show IsRangeIter _ _ (lo+((0:Nat):Int) * 1) ((((hi - lo).toNat:Nat):Int) - ((0:Nat):Int)) 1
    rw [e1,e2]
    exact Heap.get?_push_size _ rfl
  · have e:b=(s.heap.push { cls:=.type "range",data:=.fields #[.int lo t,.int hi u,.int 1 v] }).objs.size:=by simpa using hb
    subst e
    exact I1.aa4 (Nat.le_refl _) (I1.hok.fresh (Nat.le_refl _))
noncomputable def aai (ta:TA):TI:=fun σ H R=>ta σ H fun vs H1=>∃ j:Int,vs=[.int j]∧-(2 ^ 62)≤j∧j<2 ^ 62∧R (Itr 0 j.toNat) H1
noncomputable def ab0 (ta:TA):TI:=fun σ H R=>ta σ H fun vs H1=>∃ i j:Int,vs=[.int i,.int j]∧(-(2 ^ 62)≤i∧i<2 ^ 62∧-(2 ^ 62)≤j∧j<2 ^ 62)∧R (Itr i (j - i).toNat) H1
theorem a1o {a:Expr} {ta:TA} {p pos:Pos} (hg:Gl X "range") (hm:X.mg "range" = none) (ha:PA X [a] ta) (hs:starEach [a] X.env=[(false,eval a X.env)]:=by rfl):PI X tg (.Call (.Name "range" p) [a] [] pos) (aai ta):=by
  intro pins s σ H R I h
  refine Call_ (N8 I hg hm boot_range (PyProof.Rows.callWith_type1 (thn (ha pos pins s σ H _ I h) fun us s1 z0=>?_) hs rfl))
  obtain ⟨vs,H1,I1,r1,q1⟩:=z0
  obtain ⟨j,e,q1,q2,q⟩:=q1
  subst e
  cases r1 with
  | cons r rr =>
    cases rr
    obtain ⟨t,rfl⟩:=r
    exact call_range_1 (Vb I1 (by omega) (by omega) q1 q2 (by simpa using q))
theorem Z6 {a b:Expr} {ta:TA} {p pos:Pos} (hg:Gl X "range") (hm:X.mg "range" = none) (ha:PA X [a,b] ta) (hs:starEach [a,b] X.env=[(false,eval a X.env),(false,eval b X.env)]:=by rfl) (hs2:starEach [b] X.env=[(false,eval b X.env)]:=by rfl) :
    PI X tg (.Call (.Name "range" p) [a,b] [] pos) (ab0 ta):=by
  intro pins s σ H R I h
  refine Call_ (N8 I hg hm boot_range (PyProof.Rows.callWith_type1 (thn (ha pos pins s σ H _ I h) fun us s1 z0=>?_) (by rw [hs,hs2]) (by rw [hs2]; rfl)))
  obtain ⟨vs,H1,I1,r1,q1⟩:=z0
  obtain ⟨i,j,e,⟨q1,q2,q3,q4⟩,q⟩:=q1
  subst e
  cases r1 with
  | cons r rr =>
    cases rr with
    | cons r' rr =>
      cases rr
      obtain ⟨t,rfl⟩:=r
      obtain ⟨t',rfl⟩:=r'
      exact call_range_2 (Vb I1 q1 q2 q3 q4 q)
noncomputable def ad6 (wi:TI) (g:TG) (tb:TS):TS:=fun D σ H=>wi σ H fun J H1=>∃ W:Nat→Nat→St→Hp→Prop,(∃ m,W 0 m σ H1)∧∀ i m σ H,W i m σ H →
  (J.stop i H∧D.nx σ H)∨(J.go i H∧∃ N:St→Hp→Prop,(∀ σ' H',N σ' H'→∃ m',m'<m∧W (i+1) m' σ' H')∧∀ x H',J.yld i H x H'→g x σ H' fun σ2 H2=>tb { D with nx:=N,ct:=N,bk:=D.nx } σ2 H2)
noncomputable def Rr (fp:List Addr) (h:Heap):List (Addr × Obj):=fp.filterMap fun b=>(h.get? b).map fun o=>(b,o)
theorem Cz {fp:List Addr} {h:Heap} {b:Addr} {o:Obj} (hb:b∈fp) (e:h.get? b=some o):(b,o)∈Rr fp h:=List.mem_filterMap.mpr ⟨b,hb,by rw [e]; rfl⟩
theorem Zq {fp:List Addr} {h:Heap} {p:Addr × Obj} (hp:p∈Rr fp h):p.1∈fp∧h.get? p.1=some p.2:=by
  obtain ⟨b,hb,e⟩:=List.mem_filterMap.mp hp
  cases q:h.get? b with
  | none=>rw [q] at e; cases e
  | some o =>
    rw [q] at e
    have e':(b,o)=p:=Option.some.inj e
    subst e'
    exact ⟨hb,q⟩
theorem Inv.pinned {pins:List (Addr × Obj)} {σ:St} {H:Hp} {s:Shared} {fp:List Addr} (I:Inv X pins σ H s) (hf:∀ b∈fp,Wh X pins H b) (ho:∀ b∈fp,∃ o,s.heap.get? b=some o∧∀ v,o.data≠.cell v):Inv X (pins++Rr fp s.heap) σ H s :=
  I.Zf fun p hp=>(List.mem_append.mp hp).elim (fun z=>I.pin p (List.mem_append_right _ z)) fun z=>by
    obtain ⟨hb,e⟩:=Zq z
    obtain ⟨f0,f1,f2,_⟩:=hf p.1 hb
    obtain ⟨o,e',d⟩:=ho p.1 hb
    rw [e] at e'; cases e'
    exact ⟨e,f0,f1,f2,d⟩
theorem Inv.Hl {pins pl:List (Addr × Obj)} {σ:St} {H:Hp} {s:Shared} (I:Inv X (pins++pl) σ H s):Inv X pins σ H s:=I.Zf fun p hp=>I.pin p (List.mem_append_right _ (List.mem_append_left _ hp))
theorem a8w {iter:Expr} {body:List Stmt} {wi:TI} {g:TG} {tb:TS} {pos:Pos} (hp:PassesOwn (model X.prog X.w) X.A X.env X.xe) (hc:X.calm=true) (hi:PI X tg iter wi) (hg:PG X tg g) (hb:PSs X body tb)
    (hs:∀ x,foldedSetIterable iter X.env x=pure x:=by intro _; rfl):PS X (.For tg iter body [] pos) (ad6 wi g tb):=by
  intro pins s σ H D I h
  refine wpAny_For (thn (hi pins s σ H _ I h) fun v s1 h1=>thn h1 fun itv s2 h2=>?_) hs
  obtain ⟨it,fp,tn,J,H2,e,I2,T,st2,f2,W,⟨m0,w0⟩,turn⟩:=h2
  subst e
  have stat:∀ {H':Hp},(∀ b∈fp,H' b=none)→∀ b∈fp,Wh X pins H' b:=fun hn b hb=>⟨hn b hb,(f2 b hb).2⟩
  refine codeAny_forLoop_any (fun n s'=>∃ i σ' H',Inv X pins σ' H' s'∧tn i s'.heap∧(∀ b∈fp,H' b=none)∧W i n σ' H') ?_ m0 ⟨0,σ,H2,I2,st2,fun b hb=>(f2 b hb).1,w0⟩
  rintro n s3 ⟨i,σ3,H3,I3,st3,fr3,w3⟩
  rcases turn i n σ3 H3 w3 with ⟨stop,qn⟩ | ⟨go,N,hN,step⟩
  · refine wpAny_passesOwn hp (thn (T.done X rfl rfl rfl hc i pins s3 σ3 H3 X.xe I3 (stat fr3) st3 stop) fun r s4 z0=>?_)
    obtain ⟨hr,I4⟩:=z0
    subst hr
    exact wpAny_execs_nil ⟨σ3,H3,I4,qn⟩
  · refine wpAny_passesOwn hp (thn (T.item X rfl rfl rfl hc i pins s3 σ3 H3 X.xe I3 (stat fr3) st3 go) fun r s4 z0=>?_)
    obtain ⟨u,hr,h4⟩:=z0
    subst hr
    refine wpAny_passesOwn hp (thn h4 fun _ s5 z0=>?_)
    obtain ⟨x,H5,I5,r5,y5,st5,fr5⟩:=z0
    have I5':=I5.pinned (stat fr5) (T.obj _ _ st5)
    refine wpAny_passesOwn hp (thn (hg _ s5 σ3 H5 x u _ I5' r5 (step x H5 y5)) fun _ s6 z0=>?_)
    obtain ⟨σ6,H6,I6,q6⟩:=z0
    refine wpAny_passesOwn hp (thn (hb _ s6 σ6 H6 _ I6 q6) fun f s7 q7=>?_)
    have again:∀ {σ7:St} {H7:Hp},Inv X (pins++Rr fp s5.heap) σ7 H7 s7→N σ7 H7→∃ m,m<n∧∃ i σ' H',Inv X pins σ' H' s7∧tn i s7.heap∧(∀ b∈fp,H' b=none)∧W i m σ' H':=fun {σ7 H7} I7 n7=>by
      obtain ⟨m',hm,w7⟩:=hN σ7 H7 n7
      refine ⟨m',hm,i+1,σ7,H7,I7.Hl,T.keep _ _ _ st5 fun b hb o e=>(I7.pin (b,o) (List.mem_append_right _ (List.mem_append_right _ (Cz hb e)))).1,fun b hb=>?_,w7⟩
      obtain ⟨o,e,d⟩:=T.obj _ _ st5 b hb
      exact (I7.pin (b,o) (List.mem_append_right _ (List.mem_append_right _ (Cz hb e)))).2.1
    cases f with
    | next=>obtain ⟨σ7,H7,I7,n7⟩:=q7; exact again I7 n7
    | cont=>obtain ⟨σ7,H7,I7,n7⟩:=q7; exact again I7 n7
    | brk=>obtain ⟨σ7,H7,I7,q7⟩:=q7; exact ⟨σ7,H7,I7.Hl,q7⟩
    | ret v=>obtain ⟨x7,σ7,H7,I7,r7,q7⟩:=q7; exact ⟨x7,σ7,H7,I7.Hl,r7,q7⟩
end
end L2
namespace L2
open PySem PySem.Spec PyProof.Rows
noncomputable abbrev R2:=V→V→Hp→VK→Prop
noncomputable def OpR (X:Cx) (f:Value→Value→Sem Value) (r:R2):Prop :=
  ∀ (pins:List (Addr × Obj)) (s:Shared) (σ:St) (H:Hp) (x y:V) (v u:Value) (Q:VK),Inv X pins σ H s→RelV x v→RelV y u→r x y H Q →
    wpAny (model X.prog X.w) X.A (f v u) (EP X pins σ Q) X.xe s
noncomputable def UnR (X:Cx) (f:Value→Sem Value) (r:V→Hp→VK→Prop):Prop :=
  ∀ (pins:List (Addr × Obj)) (s:Shared) (σ:St) (H:Hp) (x:V) (v:Value) (Q:VK),Inv X pins σ H s→RelV x v→r x H Q →
    wpAny (model X.prog X.w) X.A (f v) (EP X pins σ Q) X.xe s
noncomputable def Dz (X:Cx) (f:Value) (r:List V→Hp→VK→Prop):Prop :=
  ∀ (pins:List (Addr × Obj)) (s:Shared) (σ:St) (H:Hp) (xs:List V) (us:List Value) (Q:VK),Inv X pins σ H s→Vals xs us→r xs H Q →
    wpAny (model X.prog X.w) X.A (call f us) (EP X pins σ Q) X.xe s
noncomputable def tOp (r:R2) (ta tb:TE):TE:=fun σ H Q=>ta σ H fun x H1=>tb σ H1 fun y H2=>r x y H2 Q
noncomputable def tUn (r:V→Hp→VK→Prop) (ta:TE):TE:=fun σ H Q=>ta σ H fun x H1=>r x H1 Q
noncomputable def rI (C:Int→Int→Prop) (g:Int→Int→V):R2:=fun x y H Q=>∃ i j,x=.int i∧y=.int j∧C i j∧Q (g i j) H
noncomputable def rI0 (g:Int→Int→V):R2:=fun x y H Q=>∃ i j,x=.int i∧y=.int j∧Q (g i j) H
noncomputable def rU (g:Int→V):V→Hp→VK→Prop:=fun x H Q=>∃ i,x=.int i∧Q (g i) H
noncomputable section
variable {X:Cx} {a b c:Expr} {ta tb tc:TE} {pos:Pos}
theorem abo (ha:PE X a ta) (hb:PE X b tb) {pins:List (Addr × Obj)} {s:Shared} {σ:St} {H:Hp} {R:V→V→Hp→Prop} (I:Inv X pins σ H s)
    (h:ta σ H fun x H1=>tb σ H1 fun y H2=>R x y H2) {Q:Value→Shared→Prop} {f:Value→Value→Sem Value}
    (hf:∀ v u s2 x y H2,Inv X pins σ H2 s2→RelV x v→RelV y u→R x y H2→wpAny (model X.prog X.w) X.A (f v u) Q X.xe s2) :
    wpAny (model X.prog X.w) X.A (eval a X.env) (fun v s₁=>wpAny (model X.prog X.w) X.A (eval b X.env) (fun u s₂=>wpAny (model X.prog X.w) X.A (f v u) Q X.xe s₂) X.xe s₁) X.xe s:=by
  refine thn (ha pins s σ H _ I h) fun v s1 z0=>?_
  obtain ⟨x,H1,I1,r1,q1⟩:=z0
  refine thn (hb pins s1 σ H1 _ I1 q1) fun u s2 z0=>?_
  obtain ⟨y,H2,I2,r2,q2⟩:=z0
  exact hf v u s2 x y H2 I2 r1 r2 q2
theorem a5u {op:Operator} {r:R2} (ho:OpR X (binaryOp op) r) (ha:PE X a ta) (hb:PE X b tb):PE X (.BinOp a op b pos) (tOp r ta tb):=by
  intro pins s σ H Q I h
  exact wpAny_BinOp (abo ha hb I h fun v u s2 x y H2 I2 rx ry q=>ho pins s2 σ H2 x y v u Q I2 rx ry q)
theorem abk {op:UnaryOp} {r:V→Hp→VK→Prop} (ho:UnR X (unaryOp op) r) (ha:PE X a ta):PE X (.UnaryOp op a pos) (tUn r ta):=by
  intro pins s σ H Q I h
  exact UnaryOp_ (thn (ha pins s σ H _ I h) fun v s1 z7=>by obtain ⟨x,H1,I1,r1,q1⟩:=z7; exact ho pins s1 σ H1 x v Q I1 r1 q1)
theorem opI {f:Value→Value→Sem Value} {C:Int→Int→Prop} {g:Int→Int→Int}
    (rule:∀ (i j:Int) (t u:Tok) (s:Shared) (Q:Value→Shared→Prop) (E:Value→Shared→Prop),C i j→Q (.int (g i j) s.toks) { s with toks:=s.toks+1 }→wpAny (model X.prog X.w) X.A (f (.int i t) (.int j u)) Q E s) :
    OpR X f (rI C fun i j=>.int (g i j)):=by
  intro pins s σ H x y v u Q I rx ry h
  obtain ⟨i,j,rfl,rfl,hc,q⟩:=h
  obtain ⟨t,rfl⟩:=rx
  obtain ⟨t',rfl⟩:=ry
  exact rule i j t t' s _ _ hc ⟨.int (g i j),H,I.tok _,⟨_,rfl⟩,q⟩
theorem ac8 {f:Value→Value→Sem Value} {g:Int→Int→Int}
    (rule:∀ (i j:Int) (t u:Tok) (s:Shared) (Q:Value→Shared→Prop) (E:Value→Shared→Prop),Q (.int (g i j) s.toks) { s with toks:=s.toks+1 }→wpAny (model X.prog X.w) X.A (f (.int i t) (.int j u)) Q E s) :
    OpR X f (rI0 fun i j=>.int (g i j)):=by
  intro pins s σ H x y v u Q I rx ry h
  obtain ⟨i,j,rfl,rfl,q⟩:=h
  obtain ⟨t,rfl⟩:=rx
  obtain ⟨t',rfl⟩:=ry
  exact rule i j t t' s _ _ ⟨.int (g i j),H,I.tok _,⟨_,rfl⟩,q⟩
theorem adk {f:Value→Value→Sem Value} {g:Int→Int→Bool}
    (rule:∀ (i j:Int) (t u:Tok) (s:Shared) (Q:Value→Shared→Prop) (E:Value→Shared→Prop),Q (.bool (g i j)) s→wpAny (model X.prog X.w) X.A (f (.int i t) (.int j u)) Q E s) :
    OpR X f (rI0 fun i j=>.bl (g i j)):=by
  intro pins s σ H x y v u Q I rx ry h
  obtain ⟨i,j,rfl,rfl,q⟩:=h
  obtain ⟨t,rfl⟩:=rx
  obtain ⟨t',rfl⟩:=ry
  exact rule i j t t' s _ _ ⟨.bl (g i j),H,I,rfl,q⟩
noncomputable def acs (i j:Int):Prop:=0≤j∧j≤1000000∧i.natAbs<2 ^ 64
noncomputable def abf (i j:Int):Prop:=(-(2 ^ 64)<i∧i<2 ^ 64)∨(-(2 ^ 64)<j∧j<2 ^ 64)
theorem abf.ok {i j:Int} (h:abf i j):IntMulOk i j:=by
  rcases h with ⟨h1,h2⟩ | ⟨h1,h2⟩
  · exact .of_left (intBits_le_64 h1 h2)
  · exact .of_right (intBits_le_64 h1 h2)
theorem a8u:OpR X (binaryOp .Add) (rI0 fun i j=>.int (i+j)):=ac8 fun _ _ _ _ _ _ _ q=>add_int q
theorem a80:OpR X (binaryOp .Sub) (rI0 fun i j=>.int (i - j)):=ac8 fun _ _ _ _ _ _ _ q=>sub_int q
theorem a7y:OpR X (binaryOp .Mult) (rI abf fun i j=>.int (i * j)):=opI fun _ _ _ _ _ _ _ hc q=>mul_int q hc.ok
theorem a83:OpR X (binaryOp .Mod) (rI (fun _ j=>0<j) fun i j=>.int (i%j)):=opI fun i j _ _ _ _ _ hc q=>by
  have h1:(0:Int)<j:=hc
  exact mod_int' (by omega) (by rw [Int.fmod_eq_emod_of_nonneg i (by omega)]; exact q)
theorem a9i:OpR X (binaryOp .Pow) (rI acs fun i j=>.int (i ^ j.toNat)):=opI fun _ _ _ _ _ _ _ hc q=>pow_int_small hc.1 hc.2.1 hc.2.2 q
theorem unI {f:Value→Sem Value} {g:Int→Int}
    (rule:∀ (i:Int) (t:Tok) (s:Shared) (Q:Value→Shared→Prop) (E:Value→Shared→Prop),Q (.int (g i) s.toks) { s with toks:=s.toks+1 }→wpAny (model X.prog X.w) X.A (f (.int i t)) Q E s) :
    UnR X f (rU fun i=>.int (g i)):=by
  intro pins s σ H x v Q I rx h
  obtain ⟨i,rfl,q⟩:=h
  obtain ⟨t,rfl⟩:=rx
  exact rule i t s _ _ ⟨.int (g i),H,I.tok _,⟨_,rfl⟩,q⟩
theorem a8h:UnR X (unaryOp .USub) (rU fun i=>.int (-i)):=unI fun _ _ _ _ _ q=>neg_int q
end
noncomputable def Rk:V→V→Bool
  | .non,.non=>true | .non,.int _=>true | .int _,.non=>true | .non,.bl _=>true | .bl _,.non=>true | .non,.str _=>true | .str _,.non=>true
  | .int _,.int _=>true | .bl _,.bl _=>true | .str _,.str _=>true | .byt _,.byt _=>true
  | .int _,.str _=>true | .str _,.int _=>true | .bl _,.str _=>true | .str _,.bl _=>true
  | _,_=>false
noncomputable section
variable {X:Cx} {a b c:Expr} {ta tb tc:TE} {pos:Pos}
theorem abl:OpR X (compareOp .Lt) (rI0 fun i j=>.bl (decide (i<j))):=adk fun _ _ _ _ _ _ _ q=>lt_int q
theorem OpR.or {f:Value→Value→Sem Value} {r r':R2} (h:OpR X f r) (h':OpR X f r'):OpR X f (fun x y H Q=>r x y H Q∨r' x y H Q):=by
  intro pins s σ H x y v u Q I rx ry q
  rcases q with q | q
  · exact h pins s σ H x y v u Q I rx ry q
  · exact h' pins s σ H x y v u Q I rx ry q
theorem n8 (b:Expr) {op:CmpOp} (h:op≠.In:=by decide) (h2:op≠.NotIn:=by decide):behindInMarks op b=false:=by
  have e1:(op==CmpOp.In)=false:=by cases op <;> first | rfl | exact absurd rfl h
  have e2:(op==CmpOp.NotIn)=false:=by cases op <;> first | rfl | exact absurd rfl h2
  cases b <;> simp [behindInMarks,e1,e2]
theorem a6y {op:CmpOp} {r:R2} (ho:OpR X (compareOp op) r) (ha:PE X a ta) (hb:PE X b tb) (hm:behindInMarks op b=false):PE X (.Compare a [op] [b] pos) (tOp r ta tb):=by
  intro pins s σ H Q I h
  exact wpAny_Compare1 (abo ha hb I h fun v u s2 x y H2 I2 rx ry q=>ho pins s2 σ H2 x y v u Q I2 rx ry q) hm
noncomputable def a8r (t:TE):TT:=fun σ H Q=>t σ H fun x H'=>∃ k,x=.bl k∧Q k H'
theorem Z8 {op:CmpOp} {r:R2} (ho:OpR X (compareOp op) r) (ha:PE X a ta) (hb:PE X b tb) (hm:behindInMarks op b=false):PT X (.Compare a [op] [b] pos) (a8r (tOp r ta tb)):=by
  intro pins s σ H Q I h
  refine wpAny_isTrue_Compare1 (thn (ha pins s σ H _ I h) fun v s1 ⟨x,H1,I1,r1,q1⟩=>thn (hb pins s1 σ H1 _ I1 q1) fun u s2 ⟨y,H2,I2,r2,q2⟩ =>
    thn (ho pins s2 σ H2 x y v u _ I2 r1 r2 q2) fun c s3 ⟨z,H3,I3,r3,k,e,q3⟩=>?_) hm
  subst e
  cases r3
  exact wpAny_truthy_bool ⟨H3,I3,q3⟩
theorem Qx:(sizeLine:Nat)<2 ^ 63:=by rw [sizeLine_eq]; decide
theorem Wu:OpR X (binaryOp .Add) (fun x y H Q=>∃ i j,x=.str i∧y=.str j∧i.length+j.length≤sizeLine∧Q (.str (i++j)) H):=by
  intro pins s σ H x y v u Q I rx ry h
  obtain ⟨i,j,rfl,rfl,hz,q⟩:=h
  obtain ⟨t,rfl⟩:=rx
  obtain ⟨t',rfl⟩:=ry
  exact add_str (fun t' tk=>⟨.str (i++j),H,I.tok _,⟨_,rfl⟩,q⟩) hz
theorem vals1 {x:V} {us:List Value} (r:Vals [x] us):∃ u,us=[u]∧RelV x u:=by
  cases r with
  | cons r1 r2=>cases r2; exact ⟨_,rfl,r1⟩
theorem a2m:Dz X (.builtin "abs") (fun xs H Q=>∃ i,xs=[.int i]∧Q (.int (if i<0 then -i else i)) H):=by
  intro pins s σ H xs us Q I r h
  obtain ⟨i,rfl,q⟩:=h
  obtain ⟨u,rfl,t,rfl⟩:=vals1 r
  exact call_abs_int fun u tk=>⟨.int (if i<0 then -i else i),H,I.tok _,⟨_,rfl⟩,q⟩
theorem Rc:Dz X (.type "int") (fun xs H Q=>(∃ i,xs=[.int i]∧Q (.int i) H)∨∃ k,xs=[.bl k]∧Q (.int (if k then 1 else 0)) H):=by
  intro pins s σ H xs us Q I r h
  rcases h with ⟨i,rfl,q⟩ | ⟨k,rfl,q⟩
  · obtain ⟨u,rfl,t,rfl⟩:=vals1 r
    exact call_int_int ⟨.int i,H,I,⟨_,rfl⟩,q⟩
  · obtain ⟨u,rfl,r1⟩:=vals1 r
    cases r1
    exact call_int_bool ⟨.int (if k then 1 else 0),H,I.tok _,⟨_,rfl⟩,q⟩
end
end L2
namespace L2
open PySem PySem.Spec PyProof.Rows
structure abt (h:Heap) (x dx C:Addr) (mA:Str→Option Value):Prop where
  obj:h.get? x=some (PySem.W.instObj C dx)
  ns:h.Ns1 dx mA
  ne:dx≠x
theorem a0o {h:Heap} {dx:Addr} {mA:Str→Option Value} (n:h.Ns1 dx mA):∃ od,h.get? dx=some od∧∀ name,PySem.W.lookIn name od=some (mA name):=by
  obtain ⟨o,es,ep,ho,hd,hk,_,hm⟩:=n
  refine ⟨o,ho,fun name=>?_⟩
  have e:=hm name
  unfold nsFind findBy at e
  rw [← Array.find?_toList] at e
  unfold PySem.W.lookIn
  rw [hd]
  dsimp only
  split
  · rename_i y q
    rw [q] at e
    exact congrArg some e
  · rename_i q
    rw [q] at e
    have a:es.toList.any (·.refKey)=false:=by
      rw [List.any_eq_false]
      intro y hy
      obtain ⟨z,t,hkey⟩:=hk y (Array.mem_toList_iff.mp hy)
      simp [DictEntry.refKey,hkey]
    have a':¬ es.toList.any (·.refKey)=true:=by rw [a]; exact Bool.false_ne_true
    rw [if_neg a']
    exact congrArg some e
theorem abt.look {h:Heap} {x dx C:Addr} {mA:Str→Option Value} (I:abt h x dx C mA):∃ od,PySem.W.InstAt h x (PySem.W.instObj C dx) C (some od)∧∀ name,PySem.W.lookIn name od=some (mA name) :=
  let ⟨od,ho,hl⟩:=a0o I.ns
  ⟨od,⟨I.obj,rfl,rfl,ho⟩,hl⟩
noncomputable section
variable {prog:Program} {w:World} {A:Around} {E:Value→Shared→Prop} {s:Shared} {K:PySem.W.Frag} {x dx C f:Addr} {mA:Str→Option Value} {name:Str} {v:Value}
end
theorem Px.some_of {v:V} {o:Option Value} (r:Px (some v) o):∃ u,o=some u∧RelV v u:=by
  cases o with
  | none=>exact (show False from r).elim
  | some u=>exact ⟨u,rfl,r⟩
theorem Px.none_of {o:Option Value} (r:Px none o):o=none:=by
  cases o with
  | none=>rfl
  | some u=>exact (show False from r).elim
noncomputable section
variable {P:Program} {w:World} {H H':Hp} {h h':Heap} {a C dx:Addr} {fs fs':List (Str × V)}
theorem a6l (hok:HOk P w H h) (e:H a=some (.ins C dx fs)):∃ mA,abt h a dx C mA∧(∀ f,Px (fs.lookup f) (mA f))∧PySem.Within mA (fs.map (·.1))∧fs.length≤1000∧H dx=some (.own a):=by
  obtain ⟨d,z,ne,ob,mA,n,r,q⟩:=(show Ab P w H h a (.ins C dx fs) from hok a _ e)
  exact ⟨mA,⟨ob,n,ne⟩,r,q,z,d⟩
end
structure Cls (K:PySem.W.Frag) (C:Addr):Prop where
  pg:PySem.W.plainGet K C Str.empty=true
  hd:PySem.W.hasDictIn K C=true
  po:PySem.W.plainOver K C=true
  sa:PySem.W.findIn K (.ref C) "__setattr__" = some (some (.builtin "object.__setattr__"))
theorem Cls.get {K:PySem.W.Frag} {C:Addr} (c:Cls K C) (f:Str):PySem.W.plainGet K C f=true:=c.pg
structure Con (K:PySem.W.Frag) (C:Addr) (f:Str) (v:V) (u:Value):Prop where
  at_:PySem.W.findIn K (.ref C) f=some (some u)
  rel:RelV v u
  get:PySem.W.specialIn K u "__get__" = some none
  cp:PySem.W.copiedNames.contains f=false
structure Meth (K:PySem.W.Frag) (C:Addr) (m:Str) (f:Addr):Prop where
  at_:PySem.W.findIn K (.ref C) m=some (some (.ref f))
  fn:PySem.W.isFn K (.ref f)=true
  kp:PySem.W.keepIn K (.ref f)=true
noncomputable section
variable {X:Cx} {pins:List (Addr × Obj)} {σ:St} {H:Hp} {s:Shared} {a C dx:Addr} {fs:List (Str × V)} {f:Str} {v:V} {A:Around} {E:Value→Shared→Prop}
end
noncomputable section
variable {X:Cx} {o e value:Expr} {f:Str} {pos pos' tpos:Pos} {ta tv:TE}
end
noncomputable section
variable {X:Cx} {pins:List (Addr × Obj)} {σ:St} {H:Hp} {s:Shared} {A:Around} {E:Value→Shared→Prop} {Q:Value→Shared→Prop} {c:Value} {b:Bool}
inductive Y5 (K:PySem.W.Frag) (H:Hp):V→Value→Prop where
  | non:Y5 K H .non (.type "NoneType")
  | bl (x:Bool):Y5 K H (.bl x) (.type "bool")
  | int (i:Int):Y5 K H (.int i) (.type "int")
  | str (x:Str):Y5 K H (.str x) (.type "str")
  | flt (x:UInt64):Y5 K H (.flt x) (.type "float")
  | lst {a:Addr} {xs:List V} (e:H a=some (.lst xs)):Y5 K H (.ref a) (.type "list")
  | frz {a:Addr} {o:Obj} {xs:List V} (e:H a=some (.frz o (.lst xs))):Y5 K H (.ref a) (.type "list")
  | tup {a:Addr} {xs:List V} (e:H a=some (.tup xs)):Y5 K H (.ref a) (.type "tuple")
  | dK {a:Addr} {kvs:List (Key × V)} (e:H a=some (.dK kvs)):Y5 K H (.ref a) (.type "dict")
  | dT {a:Addr} {kvs:List (List Key × V)} (e:H a=some (.dT kvs)):Y5 K H (.ref a) (.type "dict")
  | ins {a C dx:Addr} {fs:List (Str × V)} (e:H a=some (.ins C dx fs)) (cl:Cls K C) (ha:PySem.W.findIn K (.ref C) "__class__" = some (some (.builtin "object.__class__")))
      (hn:PySem.W.specialIn K (.builtin "object.__class__") "__get__" = some (some (.builtin "getset_descriptor.__get__"))) (htk:PySem.W.takesIn K (.builtin "object.__class__")=some true)
      (hm:PySem.W.mroIn K C (.type "object")=some true):Y5 K H (.ref a) (.ref C)
theorem Gu {x:V} {u t:Value} (I:Inv X pins σ H s) (rx:RelV x u) (ty:Y5 X.K H x t) (e:PySem.W.kitOne X.K t c=some b) (h:∀ tk,Q (.bool b) { s with toks:=tk }) :
    wpAny (model X.prog X.w) A (call (.builtin "isinstance") [u,c]) Q E s:=by
  cases ty with
  | non=>cases (show u=Value.none from rx); exact PySem.W.kia_one PySem.W.kitx_none I.kIn True.intro e (fun z=>nomatch z) h
  | bl y=>cases (show u=Value.bool y from rx); exact PySem.W.kia_one PySem.W.kitx_bool I.kIn True.intro e (fun z=>nomatch z) h
  | int i=>obtain ⟨t,q⟩:=(show ∃ t,u=Value.int i t from rx); cases q; exact PySem.W.kia_one PySem.W.kitx_int I.kIn True.intro e (fun z=>nomatch z) h
  | str y=>obtain ⟨t,q⟩:=(show ∃ t,u=Value.str y t from rx); cases q; exact PySem.W.kia_one PySem.W.kitx_str I.kIn True.intro e (fun z=>nomatch z) h
  | flt y=>obtain ⟨t,q⟩:=(show ∃ t,u=Value.float y t from rx); cases q; exact PySem.W.kia_one PySem.W.kitx_float I.kIn True.intro e (fun z=>nomatch z) h
  | @lst a xs ea =>
    cases (show u=Value.ref a from rx)
    obtain ⟨_,_,n,_,h1⟩:=(show Ab X.prog X.w H s.heap a (.lst xs) from I.hok a _ ea)
    exact PySem.W.kia_one PySem.W.kitx_list I.kIn ⟨_,h1,rfl⟩ e (fun z=>nomatch z) h
  | @frz a ob xs ea =>
    cases (show u=Value.ref a from rx)
    obtain ⟨_,_,_,n,_,h1⟩:=(show Ab X.prog X.w H s.heap a (.frz ob (.lst xs)) from I.hok a _ ea)
    exact PySem.W.kia_one PySem.W.kitx_list I.kIn ⟨_,h1,rfl⟩ e (fun z=>nomatch z) h
  | @tup a xs ea =>
    cases (show u=Value.ref a from rx)
    obtain ⟨_,_,_,p⟩:=(show Ab X.prog X.w H s.heap a (.tup xs) from I.hok a _ ea)
    obtain ⟨o,h1,h2,_⟩:=p
    exact PySem.W.kia_one PySem.W.kitx_tuple I.kIn ⟨o,h1,h2⟩ e (fun z=>nomatch z) h
  | @dK a kvs ea =>
    cases (show u=Value.ref a from rx)
    obtain ⟨_,_,vs,_,p⟩:=(show Ab X.prog X.w H s.heap a (.dK kvs) from I.hok a _ ea)
    obtain ⟨o,es,ep,h1,h2,_⟩:=p
    exact PySem.W.kia_one PySem.W.kitx_dict I.kIn ⟨o,h1,h2.1⟩ e (fun z=>nomatch z) h
  | @dT a kvs ea =>
    cases (show u=Value.ref a from rx)
    obtain ⟨_,_,xs,_,o,es,ep,h1,h2,_⟩:=(show Ab X.prog X.w H s.heap a (.dT kvs) from I.hok a _ ea)
    exact PySem.W.kia_one PySem.W.kitx_dict I.kIn ⟨o,h1,h2.1⟩ e (fun z=>nomatch z) h
  | @ins a C dx fs ea cl ha hn htk hm =>
    cases (show u=Value.ref a from rx)
    obtain ⟨mA,O,_⟩:=a6l I.hok ea
    obtain ⟨od,J,_⟩:=O.look
    exact PySem.W.kia_one (PySem.W.kitx_own (cl.get _) cl.hd ha hn htk hm) I.kIn J e (fun z=>nomatch z) h
end
end L2
namespace L2
open PySem PySem.Spec PyProof.Rows
structure K3 (k:Nat) (A:Around):Prop where
  hd:A.handled=none
  dp:A.depth+3 * k+5<recursionLimit
  un:A.units+16 * k+200<cLine
theorem K3.mono {j k:Nat} {A:Around} (r:K3 k A) (h:j≤k):K3 j A:=⟨r.hd,by have:=r.dp; omega,by have:=r.un; omega⟩
theorem K3.deeper {k:Nat} {A:Around} (r:K3 (k+1) A) (env:Env):K3 k (A.deeper env) :=
  ⟨r.hd,by have:=r.dp; show A.depth+1+3 * k+5<_; omega,by have:=r.un; show A.units+3+16 * k+200<_; omega⟩
theorem K3.depth {k:Nat} {A:Around} (r:K3 k A):A.depth<recursionLimit:=by have:=r.dp; omega
theorem K3.units {k:Nat} {A:Around} (r:K3 k A):A.units+64<cLine:=by have:=r.un; omega
noncomputable def a8g:TA:=fun _ H Q=>Q [] H
noncomputable def Wv (ta:TE) (tr:TA):TA:=fun σ H Q=>ta σ H fun x H1=>tr σ H1 fun xs H2=>Q (x::xs) H2
noncomputable section
variable {X:Cx} {e:Expr} {es:List Expr} {te:TE} {t:TA} {pos:Pos}
theorem w6:PA X [] a8g:=fun _ _ _ _ H Q I h=>Calls.spliced_nil ⟨[],H,I,.nil,h⟩
theorem qw (ha:PE X e te) (hr:PA X es t) (hs:starEach (e::es) X.env=(false,eval e X.env)::starEach es X.env:=by rfl):PA X (e::es) (Wv te t):=by
  intro pos pins s σ H Q I h
  rw [hs]
  show wpAny _ _ (spliced ((false,eval e X.env)::backTo pos (starEach es X.env))) _ _ s
  refine Calls.spliced_cons (thn (ha pins s σ H _ I h) fun u s1 z0=>?_)
  obtain ⟨x,H1,I1,r1,q1⟩:=z0
  exact thn (hr pos pins s1 σ H1 _ I1 q1) fun us s2 ⟨xs,H2,I2,r2,q2⟩=>⟨x::xs,H2,I2,.cons r1 r2,q2⟩
noncomputable def acw (t:TA):TE:=fun σ H Q=>t σ H fun xs H1=>xs.length≤sizeLine∧∀ p,H1 p=none→Q (.ref p) (upd H1 p (.tup xs))
noncomputable def acn (t:TA):TE:=fun σ H Q=>t σ H fun xs H1=>xs.length≤sizeLine∧∀ p,H1 p=none→Q (.ref p) (upd H1 p (.lst xs))
theorem a4n {x1} (h:PA X es t):PE X (.Tuple es x1 pos) (acw t):=by
  intro pins s σ H Q I hq
  refine wpAny_Tuple_spliced (thn (h pos pins s σ H _ I hq) fun us s1 ⟨xs,H1,I1,r,z,q⟩=>⟨by rw [← r.length]; exact z,?_⟩)
  have hf:H1 s1.heap.objs.size=none:=I1.hok.fresh (Nat.le_refl _)
  refine ⟨.ref s1.heap.objs.size,upd H1 s1.heap.objs.size (.tup xs),I1.laid (t':=s1.toks) (fun b u e=>Heap.get?_push_of_some _ e) (Nat.le_refl _) ?_,rfl,q _ hf⟩
  exact ⟨z,us,r,⟨_,Heap.get?_push_size _ rfl,rfl,rfl,_,rfl⟩⟩
theorem a5n (h:PA X es t):PE X (.List es pos) (acn t):=by
  intro pins s σ H Q I hq
  refine wpAny_List_spliced (thn (h pos pins s σ H _ I hq) fun us s1 ⟨xs,H1,I1,r,z,q⟩=>⟨by rw [← r.length]; exact z,?_⟩)
  have hf:H1 s1.heap.objs.size=none:=I1.hok.fresh (Nat.le_refl _)
  refine ⟨.ref s1.heap.objs.size,upd H1 s1.heap.objs.size (.lst xs),I1.laid (t':=s1.toks) (fun b u e=>Heap.get?_push_of_some _ e) (Nat.le_refl _) ?_,rfl,q _ hf⟩
  exact ⟨z,us,0,r,Heap.get?_push_size _ rfl⟩
end
noncomputable abbrev Sp:=List V→Hp→VK→XK→Prop
noncomputable abbrev CXT:=List Env→Hp→Shared→XK→Value→Shared→Prop
structure aa2 (P:Program) (w:World) (K:PySem.W.Frag) (mg:Str→Option Value) (base:Heap) (A:Around) (outer:List Env) (s:Shared) (H:Hp):Prop where
  frames:A.frames=some outer
  mod:Mod K mg base
  bs:∀ b o,base.get? b=some o→s.heap.get? b=some o∧H b=none
  bsz:base.objs.size≤s.heap.objs.size
  Y4:s.heap.FunFrames base outer
  frf:∀ b∈frs outer,H b=none
  hok:HOk P w H s.heap
  bare:AllBare s.gens
noncomputable def CE (outer:List Env) (P:Program) (w:World) (H:Hp) (s:Shared) (Q:VK) (u:Value) (s':Shared):Prop :=
  ∃ v H',s'.os=s.os∧AllBare s'.gens∧Un (frs outer) [] H H' s.heap s'.heap∧HOk P w H' s'.heap∧RelV v u∧Q v H'
noncomputable def CR (CX:CXT) (outer:List Env) (P:Program) (w:World) (H:Hp) (s:Shared) (Q:VK) (E:XK) (r:Result) (s':Shared):Prop :=
  match r with
  | .ok (.ret u)=>CE outer P w H s Q u s'
  | .ok _=>False
  | .error e=>CX outer H s E e s'
structure zy (P:Program) (w:World) (K:PySem.W.Frag) (mg:Str→Option Value) (base:Heap) (CX:CXT) (k:Nat) (f:Addr) (fd:FuncData) (ps:List Str) (sp:Sp):Prop where
  len:∀ vs H Q E,sp vs H Q E→vs.length=ps.length
  run:∀ (A:Around) (outer:List Env) (s:Shared) (H:Hp) (args:Args) (us:List Value) (vs:List V) (Q:VK) (E:XK),K3 k A→aa2 P w K mg base A outer s H→BindsTo s fd args (ps.zip us)→Vals vs us→sp vs H Q E →
    codeAny (model P w) A (.call (.ref f) args) (CR CX outer P w H s Q E) s
theorem zy.mono {P:Program} {w:World} {K:PySem.W.Frag} {mg:Str→Option Value} {base:Heap} {CX:CXT} {j k:Nat} {f:Addr} {fd:FuncData} {ps:List Str} {sp:Sp} (F:zy P w K mg base CX j f fd ps sp) (h:j≤k) :
    zy P w K mg base CX k f fd ps sp:=⟨F.len,fun A outer s H args us vs Q E hr=>F.run A outer s H args us vs Q E (hr.mono h)⟩
theorem zy.imp {P:Program} {w:World} {K:PySem.W.Frag} {mg:Str→Option Value} {base:Heap} {CX:CXT} {k:Nat} {f:Addr} {fd:FuncData} {ps:List Str} {sp sp':Sp} (F:zy P w K mg base CX k f fd ps sp)
    (h:∀ vs H Q E,sp' vs H Q E→sp vs H Q E):zy P w K mg base CX k f fd ps sp' :=
  ⟨fun vs H Q E q=>F.len vs H Q E (h _ _ _ _ q),fun A outer s H args us vs Q E hr he hb hv hs=>F.run A outer s H args us vs Q E hr he hb hv (h _ _ _ _ hs)⟩
noncomputable section
variable {X:Cx} {pins:List (Addr × Obj)} {σ:St} {H:Hp} {s s':Shared}
theorem Inv.env0 (I:Inv X pins σ H s):aa2 X.prog X.w X.K X.mg X.base X.A X.stack s H :=
  ⟨I.ok.frames,I.ok.mod,I.bs,Nat.le_trans I.ok.bsz I.sz,I.stack,I.Yb,I.hok,I.bare⟩
theorem Inv.after {Q:VK} {u:Value} (I:Inv X pins σ H s) (h:CE X.stack X.prog X.w H s Q u s'):EP X pins σ Q u s':=by
  obtain ⟨v,H',os,bare,un,hok,r,q⟩:=h
  obtain ⟨hh,g,d,t,os'⟩:=s'
  obtain rfl:os'=s.os:=os
  exact ⟨v,H',I.call (h':=hh) (g':=g) (d':=d) (t':=t) (ch:=[]) un hok bare (fun b z=>absurd z (by simp)),r,q⟩
end
noncomputable def aap (sp:Sp) (dvs:List V) (E:XK) (t:TA):TE:=fun σ H Q=>t σ H fun vs H1=>sp (vs++dvs) H1 Q E
noncomputable def Binds (K:PySem.W.Frag) (fd:FuncData) (ps:List Str) (ds:List Value):Prop :=
  ∀ (s:Shared) (us:List Value),K.In s.heap→(us++ds).length=ps.length→BindsTo s fd ⟨us,[]⟩ (ps.zip (us++ds))
theorem Binds.all {K:PySem.W.Frag} {fd:FuncData} {ps:List Str} (h:∀ us:List Value,us.length=ps.length→bindArgs fd ⟨us,[]⟩=pure (ps.zip us)):Binds K fd ps []:=fun s us _ hl=>by
  rw [List.append_nil] at hl ⊢
  exact .of_eq (h us hl)
noncomputable def Passes (CX:CXT) (X:Cx) (E:XK):Prop:=∀ (pins:List (Addr × Obj)) (σ:St) (H:Hp) (s:Shared) (e:Value) (s':Shared),Inv X pins σ H s→CX X.stack H s E e s'→X.xe e s'
noncomputable section
variable {X:Cx} {CX:CXT} {k:Nat} {f C:Addr} {fd:FuncData} {ps:List Str} {sp:Sp} {dvs:List V} {ds:List Value} {E:XK} {x m:Str} {p pos apos:Pos} {e o:Expr} {es:List Expr} {ta:TE} {t:TA}
theorem aa0 {pins:List (Addr × Obj)} {σ:St} {H:Hp} {s:Shared} {Q:VK} {us:List Value} {vs:List V} (F:zy X.prog X.w X.K X.mg X.base CX k f fd ps sp) (hr:K3 k X.A) (hb:Binds X.K fd ps ds) (hd:Vals dvs ds) (hx:Passes CX X E)
    (I:Inv X pins σ H s) (r:Vals vs us) (h:sp (vs++dvs) H Q E):wpAny (model X.prog X.w) X.A (call (.ref f) us) (EP X pins σ Q) X.xe s:=by
  have r2:Vals (vs++dvs) (us++ds):=r.append hd
  have hl:(us++ds).length=ps.length:=by rw [← r2.length]; exact F.len _ _ _ _ h
  refine wpAny_call (codeAny_mono (F.run X.A X.stack s H ⟨us,[]⟩ (us++ds) (vs++dvs) Q E hr I.env0 (hb s us I.kIn hl) r2 h) fun r s' hq=>?_)
  cases r with
  | error e=>exact hx pins σ H s e s' I hq
  | ok fl =>
    cases fl with
    | ret u=>exact I.after hq
    | next=>exact False.elim hq
    | brk=>exact False.elim hq
    | cont=>exact False.elim hq
theorem Yz (F:zy X.prog X.w X.K X.mg X.base CX k f fd ps sp) (hr:K3 k X.A) (hg:Gl X x) (hm:X.mg x=some (.ref f)) (hk:PySem.W.keepIn X.K (.ref f)=true) (hb:Binds X.K fd ps ds) (hd:Vals dvs ds) (hx:Passes CX X E)
    (ha:PA X (e::es) t) (hdb:(x==("__debug__" : Str))=false:=by decide) (he:starEach (e::es) X.env=(false,eval e X.env)::starEach es X.env:=by rfl) (hpl:(backTo pos (starEach es X.env)).any (·.1)=false:=by rfl) :
    PE X (.Call (.Name x p) (e::es) [] pos) (aap sp dvs E t):=by
  intro pins s σ H Q I h
  refine wpAny_Call_Name_kw (a1p I hg hm ?_ hdb)
  refine PySem.W.callWith_K (h₀:=X.base) I.ok.mod.kin hk (thn (ha pos pins s σ H _ I h) fun us s1 ⟨vs,H1,I1,r,q⟩=>⟨I1.kIn,?_⟩) he hpl
  exact aa0 F hr hb hd hx I1 r q
structure Mk (K:PySem.W.Frag) (C f:Addr):Prop where
  makes:PySem.W.makesIn K C=true
  init:PySem.W.findIn K (.ref C) "__init__" = some (some (.ref f))
  fn:PySem.W.isFn K (.ref f)=true
  kp:PySem.W.keepIn K (.ref C)=true
end
noncomputable section
variable {X:Cx} {CX:CXT} {k:Nat} {f C:Addr} {fd:FuncData} {ps ks:List Str} {sp:Sp} {E:XK} {x m:Str} {p pos apos kpos:Pos} {e o:Expr} {es:List Expr} {kws:List Keyword} {te ta:TE} {t tk:TA} {nm:Option Str}
structure acg (K:PySem.W.Frag) (fd:FuncData) (ps ks:List Str) (g:List Value→List Value→List Value) (gV:List V→List V→List V):Prop where
  to:∀ (s:Shared) (us ws:List Value),K.In s.heap→(g us ws).length=ps.length→BindsTo s fd ⟨us,ks.zip ws⟩ (ps.zip (g us ws))
  rel:∀ {vs:List V} {us:List Value} {zs:List V} {ws:List Value},Vals vs us→Vals zs ws→Vals (gV vs zs) (g us ws)
variable {g:List Value→List Value→List Value} {gV:List V→List V→List V}
end
structure jx (N P:List Str) (sc:Scope):Prop where
  kind:sc.kind=.function
  co:sc.isCoroutine=false
  gen:sc.isGenerator=false
  nd:N.Nodup
  pre:N.take P.length=P
  par:∀ x∈P,sc.names.lookup x=some .local∨sc.names.lookup x=some .cell
  nofree:∀ y∈sc.names,y.2≠.free
theorem Rb {kindOf:Str→Option NameKind} {x:Str}:∀ {binds:List (Str × Value)} {m:Str→Option Value},(∀ v,(x,v)∉binds)→bindL kindOf binds m x=m x
  | [],_,_=>rfl
  | (n,v)::r,m,h=>by
    unfold bindL
    rw [Rb fun w hw=>h w (List.mem_cons_of_mem _ hw)]
    split
    · have:x≠n:=by rintro rfl; exact h v List.mem_cons_self
      simp [this]
    · rfl
theorem S8 {kindOf:Str→Option NameKind} {x:Str}:∀ {binds:List (Str × Value)} {m:Str→Option Value},(∀ v,(x,v)∉binds)→bindC kindOf binds m x=m x
  | [],_,_=>rfl
  | (n,v)::r,m,h=>by
    unfold bindC
    rw [S8 fun w hw=>h w (List.mem_cons_of_mem _ hw)]
    split
    · rfl
    · have:x≠n:=by rintro rfl; exact h v List.mem_cons_self
      simp [this]
theorem Qk {kindOf:Str→Option NameKind} {x:Str} {v:Value}:∀ {P:List Str} {vs:List Value} {i:Nat} {m:Str→Option Value},P.Nodup→P[i]? = some x→vs[i]? = some v→kindOf x=some .local →
    bindL kindOf (P.zip vs) m x=some v
  | [],_,_,_,_,h,_,_=>by simp at h
  | _::_,[],_,_,_,_,h,_=>by simp at h
  | p::P,w::vs,0,m,nd,h1,h2,hk=>by
    simp at h1 h2; subst h1; subst h2
    show bindL kindOf ((p,w)::P.zip vs) m p=_
    unfold bindL
    rw [Rb fun v hv=>(List.nodup_cons.mp nd).1 (List.of_mem_zip hv).1,if_pos hk]
    simp
  | p::P,w::vs,i+1,m,nd,h1,h2,hk=>by
    show bindL kindOf ((p,w)::P.zip vs) m x=_
    unfold bindL
    exact Qk (i:=i) (List.nodup_cons.mp nd).2 (by simpa using h1) (by simpa using h2) hk
theorem Rz {kindOf:Str→Option NameKind} {x:Str} {v:Value}:∀ {P:List Str} {vs:List Value} {i:Nat} {m:Str→Option Value},P.Nodup→P[i]? = some x→vs[i]? = some v→kindOf x≠some .local →
    bindC kindOf (P.zip vs) m x=some v
  | [],_,_,_,_,h,_,_=>by simp at h
  | _::_,[],_,_,_,_,h,_=>by simp at h
  | p::P,w::vs,0,m,nd,h1,h2,hk=>by
    simp at h1 h2; subst h1; subst h2
    show bindC kindOf ((p,w)::P.zip vs) m p=_
    unfold bindC
    rw [S8 fun v hv=>(List.nodup_cons.mp nd).1 (List.of_mem_zip hv).1,if_neg hk]
    simp
  | p::P,w::vs,i+1,m,nd,h1,h2,hk=>by
    show bindC kindOf ((p,w)::P.zip vs) m x=_
    unfold bindC
    exact Rz (i:=i) (List.nodup_cons.mp nd).2 (by simpa using h1) (by simpa using h2) hk
noncomputable def start (N:List Str) (vs:List V):St:=vs.map some++List.replicate (N.length - vs.length) none
noncomputable def a4t (CX:CXT) (P:Program) (w:World) (K:PySem.W.Frag) (mg:Str→Option Value) (base:Heap) (N:List Str) (qual:Str) (scope:Scope) (f:Addr) (cd:Value) (A:Around) (outer:List Env) (s:Shared) (H:Hp) (E:XK):Cx where
  prog:=P
  w:=w
  K:=K
  mg:=mg
  base:=base
  A:=A.deeper (envOfC qual scope s.heap.objs.size f cd)
  N:=N
  s₀:=s
  H₀:=H
  env:=envOfC qual scope s.heap.objs.size f cd
  outer:=outer
  stack:=envOfC qual scope s.heap.objs.size f cd::outer
  ex:=[]
  calm:=true
  fn:=fun _=>true
  pn:=[]
  xe:=fun e s'=>wpAny (model P w) (A.deeper (envOfC qual scope s.heap.objs.size f cd)) (leaving (envOfC qual scope s.heap.objs.size f cd) e) (fun _ s''=>CX outer H s E e s'') (fun e' s''=>CX outer H s E e' s'') s'
theorem Vh {sc:Scope} {n:Nat} {x:Str} (h:sc.names.lookup x=some .cell):∃ c,(cellsFrom n sc.names []).lookup x=some c:=by
  have q:=PySem.W.cellsFrom_some sc.names n [] (.inl h)
  exact Option.isSome_iff_exists.mp q
theorem Zu {CX:CXT} {P:Program} {w:World} {K:PySem.W.Frag} {mg:Str→Option Value} {base:Heap} {N ps:List Str} {qual:Str} {scope:Scope} {f:Addr} {cd:Value} {A:Around} {outer:List Env} {s s1:Shared} {H:Hp} {E:XK} {us:List Value} {vs:List V}
    (S:jx N ps scope) (hd:A.handled=none) (e0:aa2 P w K mg base A outer s H) (hl:vs.length=ps.length) (r:Vals vs us)
    (x:InCallC s s.heap.objs.size (bindL (envOfC qual scope s.heap.objs.size f cd).kindOf (ps.zip us) fun _=>none) (cellsFrom (s.heap.objs.size+1) scope.names []) (bindC (envOfC qual scope s.heap.objs.size f cd).kindOf (ps.zip us) fun _=>none) s1) :
    Inv (a4t CX P w K mg base N qual scope f cd A outer s H E) [] (start N vs) H s1:=by
  have hpl:ps.length≤N.length:=by have:=congrArg List.length S.pre; rw [List.length_take] at this; omega
  obtain ⟨h1,tk,rfl,hk⟩:=x.done
  have noA:∀ b:Addr,b∉(a4t CX P w K mg base N qual scope f cd A outer s H E).ex:=fun b z=>absurd (show b∈([]:List Addr) from z) (by simp)
  refine ⟨⟨e0.mod,S.kind,rfl,rfl,Nat.le_refl _,fun y z c h1 h2=>?_,fun y hy=>?_,fun y c _ h=>?_,fun _=>hd,Around.frames_deeper e0.frames,.inr ⟨rfl,rfl⟩,fun b z=>absurd z (noA b),e0.bs,e0.bsz,fun b _ _=>noA b,fun b z=>absurd z (noA b),e0.Y4,e0.frf⟩,
    rfl,e0.bare,Un.kept hk,⟨_,x.toInCall.ns,fun i y v h1 h2 h3=>?_⟩,fun y c h=>⟨_,x.cell y c h⟩,e0.hok.fresh (Nat.le_refl _),fun y c h=>?_,fun p hp=>absurd (show p∈([]:List (Addr × Obj)) from hp) (by simp),e0.hok.kept hk,?_⟩
  · exact name_of_addr x.apart (PySem.mem_of_lookup h1) (PySem.mem_of_lookup h2)
  · have hy:scope.names.lookup y=some .cell∨scope.names.lookup y=some .free:=hy
    rcases hy with hy | hy
    · exact Vh hy
    · exact absurd rfl (S.nofree _ (PySem.mem_of_lookup hy))
  · exact Nat.le_of_lt (x.above y c (PySem.mem_of_lookup h))
  · have hi:i<vs.length:=by
      unfold start at h2
      by_cases hi:i<vs.length
      · exact hi
      · rw [List.getElem?_append_right (by simpa using hi)] at h2
        rw [List.getElem?_replicate] at h2
        split at h2 <;> cases h2
    have ha:vs[i]? = some v:=by
      unfold start at h2
      rw [List.getElem?_append_left (by simpa using hi),List.getElem?_map] at h2
      cases e:vs[i]? with
      | none=>rw [e] at h2; cases h2
      | some a=>rw [e] at h2; cases h2; rfl
    obtain ⟨u,hu,rv⟩:=r.get ha
    have hp:ps[i]? = some y:=by
      rw [← S.pre,List.getElem?_take_of_lt (by omega)]; exact h1
    have ndP:ps.Nodup:=by rw [← S.pre]; exact S.nd.sublist (List.take_sublist _ _)
    refine ⟨u,rv,?_⟩
    rcases S.par y (List.mem_of_getElem? hp) with k | k
    · exact .inl ⟨k,Qk ndP hp hu k⟩
    · obtain ⟨c,e⟩:=Vh (n:=s.heap.objs.size+1) k
      refine .inr ⟨.inl k,c,e,?_⟩
      have q:=x.cell y c e
      rw [Rz ndP hp hu (by show scope.names.lookup y≠_; rw [k]; decide)] at q
      exact q
  · exact e0.hok.fresh (Nat.le_of_lt (x.above y c (PySem.mem_of_lookup h)))
  · unfold start
    show _=N.length
    rw [List.length_append,List.length_map,List.length_replicate]
    omega
theorem aad {CX:CXT} {P:Program} {w:World} {K:PySem.W.Frag} {mg:Str→Option Value} {base:Heap} {k:Nat} {f:Addr} {name qual:Str} {params:Arguments} {body:List Stmt} {scope:Scope} {dV kV doc pm cdv ct oc:Value} {an od:Option Addr}
    {osl:Array (Option Value)} {N ps:List Str} {sp:Sp} (lk:K.lookup f=some ⟨oc,od,.func (PySem.W.fnOf name qual params body scope dV kV doc pm an cdv ct),osl⟩) (hcd:PySem.W.codeIn K cdv qual=true) (S:jx N ps scope)
    (len:∀ vs H Q E,sp vs H Q E→vs.length=ps.length)
    (hbody:∀ (A:Around) (outer:List Env) (s:Shared) (H:Hp) (vs:List V) (Q:VK) (E:XK),K3 k (A.deeper (envOfC qual scope s.heap.objs.size f cdv))→sp vs H Q E →
      ∃ t,PSs (a4t CX P w K mg base N qual scope f cdv A outer s H E) body t∧t { nx:=fun _ H'=>Q .non H',rt:=Q } (start N vs) H) :
    zy P w K mg base CX (k+1) f (PySem.W.fnOf name qual params body scope dV kV doc pm an cdv ct) ps sp:=by
  refine ⟨len,fun A outer s H args us vs Q E hr e0 hb r hsp=>?_⟩
  have hl:=len _ _ _ _ hsp
  have KX:K.In s.heap:=e0.mod.kin.keeps fun b o e=>(e0.bs b o e).1
  have lim:s.heap.NoLimit:=e0.mod.nolimit.keeps fun b o e=>(e0.bs b o e).1
  have hkind:∀ y∈ps.zip us,scope.names.lookup y.1=some .local∨(scope.names.lookup y.1=some .cell∧((cellsFrom (s.heap.objs.size+1) scope.names []).lookup y.1).isSome=true):=fun ⟨n,v⟩ hy=>by
    rcases S.par n (List.of_mem_zip hy).1 with q | q
    · exact .inl q
    · exact .inr ⟨q,PySem.W.cellsFrom_some _ _ _ (.inl q)⟩
  refine codeAny_call_function hr.depth (KX _ _ lk) rfl S.co S.gen rfl (PySem.W.codeRec_of KX hcd) (hb _ _ _ _ ?_)
  refine wpAny_newFunctionEnv_cells S.kind hkind fun env he s1 x=>?_
  subst he
  refine ⟨lim.keeps x.toInCall.keep,codeAny_func ?_⟩
  obtain ⟨t,ht,hq⟩:=hbody A outer s H vs Q E (hr.deeper _) hsp
  have I:Inv (a4t CX P w K mg base N qual scope f cdv A outer s H E) [] (start N vs) H s1:=Zu S hr.hd e0 hl r x
  refine wpAny_mono (ht [] s1 (start N vs) H _ I hq) (fun fl s' hs=>?_) fun e s' hs=>hs
  have fin:∀ {σ':St} {H':Hp} {v:V} {u:Value},Inv (a4t CX P w K mg base N qual scope f cdv A outer s H E) [] σ' H' s'→RelV v u→Q v H'→CE outer P w H s Q u s' :=
    fun {σ' H' v u} J rv q=>⟨v,H',J.os,J.bare,J.base,J.hok,rv,q⟩
  cases fl with
  | ret u =>
    obtain ⟨v,σ',H',J,rv,q⟩:=hs
    exact fin J rv q
  | next =>
    obtain ⟨σ',H',J,q⟩:=hs
    exact fin (v:=V.non) (u:=Value.none) J rfl q
  | brk =>
    obtain ⟨_,_,_,q⟩:=hs
    exact False.elim q
  | cont =>
    obtain ⟨_,_,_,q⟩:=hs
    exact False.elim q
end L2
namespace L2
open PySem PySem.Spec PyProof.Rows
noncomputable section
variable {X:Cx} {x:Str} {p pos:Pos} {e:Expr} {es:List Expr} {t:TA} {id T:String} {r:List V→Hp→VK→Prop}
noncomputable def tCB (r:List V→Hp→VK→Prop) (t:TA):TE:=fun σ H Q=>t σ H fun vs H1=>r vs H1 Q
theorem yt (hc:Dz X (.builtin id) r) (hg:Gl X x) (hm:X.mg x=none) (hv:bootBuiltins x=some (.builtin id)) (ha:PA X (e::es) t) (hn:x ≠ "__name__" := by decide) (hdb:(x==("__debug__" : Str))=false:=by decide)
    (he:starEach (e::es) X.env=(false,eval e X.env)::starEach es X.env:=by rfl) (hpl:(backTo pos (starEach es X.env)).any (·.1)=false:=by rfl):PE X (.Call (.Name x p) (e::es) [] pos) (tCB r t):=by
  intro pins s σ H Q I h
  refine wpAny_Call_Name_kw (N8 I hg hm hv ?_ hn hdb)
  exact PyProof.Rows.callWith_builtin1 (thn (ha pos pins s σ H _ I h) fun us s1 z7=>by obtain ⟨vs,H1,I1,r1,q1⟩:=z7; exact hc pins s1 σ H1 vs us Q I1 r1 q1) he hpl
theorem qt (hc:Dz X (.type T) r) (hg:Gl X x) (hm:X.mg x=none) (hv:bootBuiltins x=some (.type T)) (ha:PA X (e::es) t) (hn:x ≠ "__name__" := by decide) (hdb:(x==("__debug__" : Str))=false:=by decide)
    (he:starEach (e::es) X.env=(false,eval e X.env)::starEach es X.env:=by rfl) (hpl:(backTo pos (starEach es X.env)).any (·.1)=false:=by rfl):PE X (.Call (.Name x p) (e::es) [] pos) (tCB r t):=by
  intro pins s σ H Q I h
  refine wpAny_Call_Name_kw (N8 I hg hm hv ?_ hn hdb)
  exact PyProof.Rows.callWith_type1 (thn (ha pos pins s σ H _ I h) fun us s1 z7=>by obtain ⟨vs,H1,I1,r1,q1⟩:=z7; exact hc pins s1 σ H1 vs us Q I1 r1 q1) he hpl
end
end L2
end
noncomputable section
set_option linter.all false
set_option maxRecDepth 100000
namespace HT
open PySem PyProof.Rows
noncomputable section
open PySem.SeqAt
open PySem.AutoSeq1 (wpAny_loadPart')
open PySem.MeetsSeq PySem.MeetsSeq2 PySem.MeetsSeq3
end
noncomputable section
variable {prog:Program} {w:World} {A:Around} {E:Value→Shared→Prop} {s:Shared}
theorem a6p {t b:Addr} {vs ws:List Value} {Q:Value→Shared→Prop} (ht:IsTup s.heap t vs.toArray) (hb:IsTup s.heap b ws.toArray) (hv:vs≠[])
    (h1:ws=[]→Q (.ref t) s) (h2:ws≠[]→Q (.ref s.heap.objs.size) { s with heap:=s.heap.push { cls:=.type "tuple",data:=.seq (vs++ws).toArray } })
    (hsz:vs.length+ws.length≤sizeLine):wpAny (model prog w) A (binaryOp .Add (.ref t) (.ref b)) Q E s:=by
  obtain ⟨⟨cls,dd,data,sl⟩,ho,hc,n,hd⟩:=id ht
  obtain ⟨⟨cls2,dd2,data2,sl2⟩,ho2,hc2,n2,hd2⟩:=id hb
  simp only at hc hd hc2 hd2
  subst hc hd hc2 hd2
  have e:vs.toArray++ws.toArray=(vs++ws).toArray:=by simp
  by_cases hw:ws=[]
  · exact concat_meets ⟨_,ho,rfl⟩ ⟨_,ho2,rfl⟩ noFill_tuple_add seq_tuple_add PySem.F.slot_tuple_add PySem.F.entry_tuple_add (PySem.F.args_tuple_add_2 _ _)
      (tuple_addW1 t b vs.toArray ws.toArray n n2 dd dd2 sl sl2 (by simpa using hv) (by simp [hw])) ⟨ho,ho2,h1 hw⟩
  · refine concat_meets ⟨_,ho,rfl⟩ ⟨_,ho2,rfl⟩ noFill_tuple_add seq_tuple_add PySem.F.slot_tuple_add PySem.F.entry_tuple_add (PySem.F.args_tuple_add_2 _ _)
      (tuple_addW2 t b vs.toArray ws.toArray n n2 dd dd2 sl sl2 (by simpa using hv) (by simpa using hw) (by rw [List.size_toArray,List.size_toArray]; exact hsz)) ⟨ho,ho2,?_⟩
    rw [e]
    exact h2 hw
noncomputable def sIx (n d:Nat):Option Int→Nat
  | none=>d
  | some v=>if v<0 then (v+(n:Int)).toNat else min v.toNat n
theorem a8q (n d:Nat) (hd:d≤n) (o:Option Int):sIx n d o≤n:=by
  cases o with
  | none=>exact hd
  | some v =>
    show (if v<0 then (v+(n:Int)).toNat else min v.toNat n)≤n
    by_cases hv:v<0
    · rw [if_pos hv]; omega
    · rw [if_neg hv]; exact Nat.min_le_right _ _
theorem Yk (v:Int) (n d:Nat):(if v<0 then max (v+(n:Int)) 0 else min v (n:Int))=((sIx n d (some v):Nat):Int):=by
  show (if v<0 then max (v+(n:Int)) 0 else min v (n:Int))=(((if v<0 then (v+(n:Int)).toNat else min v.toNat n):Nat):Int)
  by_cases hv:v<0
  · simp only [if_pos hv]; omega
  · simp only [if_neg hv]; omega
theorem Wx (lo hi:Option Int) (n:Nat):Builtin.Slice.sliceAdjust lo hi 1 (n:Int)=(((sIx n 0 lo:Nat):Int),((sIx n n hi:Nat):Int)):=by
  have h1:¬ ((1:Int)<0):=by omega
  unfold Builtin.Slice.sliceAdjust
  simp only [h1,if_false]
  refine Prod.ext ?_ ?_
  · cases lo with
    | none=>rfl
    | some v=>exact Yk v n 0
  · cases hi with
    | none=>rfl
    | some v=>exact Yk v n n
theorem Xd (i j:Nat):Builtin.Slice.slicePlaces (i:Int) (j:Int) 1=j - i:=by
  unfold Builtin.Slice.slicePlaces
  have h1:(1:Int) > 0:=by omega
  simp only [h1,if_true,Int.ediv_one]
  split <;> omega
theorem Nf {v:Value} {o:Option Int} {Q:Option Int→Shared→Prop} (p:IsPart v o) (h:Q o s):wpAny (model prog w) A (Builtin.Slice.slicePartIndex v) Q E s:=by
  cases p with
  | none=>exact slicePart_none h
  | int i t=>exact slicePart_int h
theorem Du {sl:Addr} {vl vu:Value} {lo hi:Option Int} {n:Nat} {Q:Int × Int × Nat→Shared→Prop} (hs:s.heap.IsSliceOf sl vl vu .none) (pl:IsPart vl lo) (pu:IsPart vu hi)
    (h:Q (((sIx n 0 lo:Nat):Int),1,sIx n n hi - sIx n 0 lo) s):wpAny (model prog w) A (Builtin.Slice.sliceApplied (.ref sl) (pure (n:Int))) Q E s:=by
  obtain ⟨os,hos,hcs,hds⟩:=id hs
  unfold Builtin.Slice.sliceApplied Builtin.Slice.sliceFields
  refine wpAny_bind (wpAny_bind (wpAny_field hos hds (x:=vl) rfl (wpAny_bind (wpAny_field hos hds (x:=vu) rfl (wpAny_bind (wpAny_field hos hds (x:=.none) rfl (wpAny_pure ?_)))))))
  refine wpAny_bind (slicePart_none ?_)
  show wpAny _ _ (if ((1:Int)==0)=true then _ else _) _ _ s
  rw [if_neg (by decide)]
  refine wpAny_bind (Nf pl (wpAny_bind (Nf pu (wpAny_bind (wpAny_pure ?_)))))
  show wpAny _ _ (match Builtin.Slice.sliceAdjust lo hi 1 (n:Int) with | (lo,hi)=>pure (lo,(1:Int),Builtin.Slice.slicePlaces lo hi 1)) _ _ s
  rw [Wx lo hi n]
  show wpAny _ _ (pure (((sIx n 0 lo:Nat):Int),(1:Int),Builtin.Slice.slicePlaces ((sIx n 0 lo:Nat):Int) ((sIx n n hi:Nat):Int) 1)) _ _ s
  rw [Xd]
  exact wpAny_pure h
theorem a3l (xs:Array Value) (i k:Nat):((List.range k).filterMap fun (m:Nat)=>xs[((i:Int)+(m:Int) * 1).toNat]?).toArray=((xs.toList.drop i).take k).toArray:=by
  have e:(fun (m:Nat)=>xs[((i:Int)+(m:Int) * 1).toNat]?)=fun m=>xs[i+m]?:=by
    funext m
    have:((i:Int)+(m:Int) * 1).toNat=i+m:=by omega
    rw [this]
  rw [e]
  have:=pick_run xs i k
  rw [List.filterMap_map] at this
  have e2:((fun x=>xs[x]?) ∘ fun x=>i+x)=fun m=>xs[i+m]?:=rfl
  rw [e2] at this
  rw [this]
theorem Ih {t sl:Addr} {items:Array Value} {vl vu:Value} {lo hi:Option Int} {Q:Value→Shared→Prop} (ht:IsTup s.heap t items) (hs:s.heap.IsSliceOf sl vl vu .none) (pl:IsPart vl lo) (pu:IsPart vu hi)
    (hw:¬ (sIx items.size 0 lo=0∧sIx items.size items.size hi=items.size))
    (h:Q (.ref s.heap.objs.size) { s with heap:=s.heap.push { cls:=.type "tuple",data:=.seq ((items.toList.drop (sIx items.size 0 lo)).take (sIx items.size items.size hi - sIx items.size 0 lo)).toArray } })
    (hsz:items.size≤sizeLine):wpAny (model prog w) A (getItem (.ref t) (.ref sl)) Q E s:=by
  have htake:sizeOk (.seq ((items.toList.drop (sIx items.size 0 lo)).take (sIx items.size items.size hi - sIx items.size 0 lo)).toArray):=by
    show ((items.toList.drop (sIx items.size 0 lo)).take (sIx items.size items.size hi - sIx items.size 0 lo)).toArray.size≤sizeLine
    rw [List.size_toArray,List.length_take,List.length_drop,Array.length_toList]
    omega
  have hj:sIx items.size items.size hi≤items.size:=a8q _ _ (Nat.le_refl _) hi
  obtain ⟨os,hos,hcs,hds⟩:=id hs
  have hTs:s.TypeIs (.ref sl) "slice" := ⟨os,hos,hcs⟩
  unfold getItem
  try with_reducible refine wpAny_holding ?_
  first | refine wpAny_bind (wpAny_pure ?_) | skip
  refine wpAny_bind (wpAny_sequenceKey ht.typeIs (by decide) ?_)
  refine wpAny_bind (wpAny_callSpecial?_slot (name:=Str.ofString "__getitem__") ht.typeIs PyProof.Rows.slot_tuple_getitem
    (wpAny_call_entry PyProof.Rows.slot_tuple_getitem ht.typeIs entry_tuple_getitem ?_ (args_tuple_getitem _ _)))
  show wpAny _ _ (Builtin.Tuple.tupleItemsOf (.ref t) >>= _) _ _ s
  refine wpAny_bind (tupleItemsOf_ ht ?_)
  refine wpAny_bind (wpAny_typeOf hTs ?_)
  rw [if_pos (by decide)]
  refine wpAny_bind (Du hs pl pu ?_)
  have hno:¬ ((((sIx items.size 0 lo:Nat):Int)==0&&(1:Int)==1&&(sIx items.size items.size hi - sIx items.size 0 lo)==items.size)=true):=by
    intro q
    rw [Bool.and_eq_true,Bool.and_eq_true] at q
    have q1:((sIx items.size 0 lo:Nat):Int)=0:=eq_of_beq q.1.1
    have q2:sIx items.size items.size hi - sIx items.size 0 lo=items.size:=eq_of_beq q.2
    exact hw ⟨by omega,by omega⟩
  show wpAny _ _ (if (((sIx items.size 0 lo:Nat):Int)==0&&(1:Int)==1&&(sIx items.size items.size hi - sIx items.size 0 lo)==items.size)=true then _ else _) _ _ s
  rw [if_neg hno,a3l]
  first
    | exact wpAny_bind (m:=Builtin.Tuple.tupleExact _) (wpAny_newObj_type (wpAny_pure ⟨_,rfl,wpAny_pure h⟩) htake)
    | exact wpAny_bind (m:=Builtin.Tuple.tupleExact _) (wpAny_newObj_type (wpAny_bind (wpAny_pure (wpAny_pure ⟨_,rfl,wpAny_pure h⟩))) htake)
    | exact wpAny_bind (wpAny_bind (m:=Builtin.Tuple.tupleExact _) (wpAny_newObj_type (wpAny_pure (wpAny_pure ⟨_,rfl,wpAny_pure h⟩)) htake))
    | exact wpAny_bind (wpAny_bind (m:=Builtin.Tuple.tupleExact _) (wpAny_newObj_type (wpAny_pure ⟨_,rfl,wpAny_pure h⟩) htake))
end
end HT
namespace L2
open PySem PySem.Spec PyProof.Rows
noncomputable abbrev TO:=St→Hp→(Option Int→Hp→Prop)→Prop
noncomputable def PO (X:Cx) (e:Option Expr) (t:TO):Prop :=
  ∀ (pins:List (Addr × Obj)) (s:Shared) (σ:St) (H:Hp) (Q:Option Int→Hp→Prop),Inv X pins σ H s→t σ H Q →
    wpAny (model X.prog X.w) X.A (evalPart e X.env) (fun u s'=>∃ o H',Inv X pins σ H' s'∧IsPart u o∧Q o H') X.xe s
noncomputable def a73:TO:=fun _ H Q=>Q none H
noncomputable def aar (t:TE):TO:=fun σ H Q=>t σ H fun x H1=>∃ i,x=.int i∧Q (some i) H1
noncomputable section
variable {X:Cx} {e:Expr} {te:TE} {lo hi:Option Expr} {tl th:TO} {pos p2:Pos}
theorem a6f:PO X none a73:=by
  intro pins s σ H Q I h
  rw [evalPart_none]
  exact wpAny_pure ⟨none,H,I,.none,h⟩
theorem a6o (h:PE X e te):PO X (some e) (aar te):=by
  intro pins s σ H Q I hw
  rw [evalPart_some]
  refine thn (h pins s σ H _ I hw) fun u s1 z0=>?_
  obtain ⟨x,H1,I1,r1,q1⟩:=z0
  obtain ⟨i,rfl,q⟩:=q1
  obtain ⟨t,rfl⟩:=r1
  exact ⟨some i,H1,I1,.int i t,q⟩
noncomputable def SlR (X:Cx) (r:V→Option Int→Option Int→Hp→VK→Prop):Prop :=
  ∀ (pins:List (Addr × Obj)) (s:Shared) (σ:St) (H:Hp) (x:V) (v vl vu:Value) (lo hi:Option Int) (sl:Addr) (Q:VK),Inv X pins σ H s→RelV x v→s.heap.IsSliceOf sl vl vu .none→IsPart vl lo→IsPart vu hi→r x lo hi H Q →
    ∃ T id,typeLookup (.type T) "__getitem__" = pure (some (.builtin id))∧s.TypeIs v T∧wpAny (model X.prog X.w) X.A (getItem v (.ref sl)) (EP X pins σ Q) X.xe s
theorem SlR.or {r r':V→Option Int→Option Int→Hp→VK→Prop} (h:SlR X r) (h':SlR X r'):SlR X (fun x lo hi H Q=>r x lo hi H Q∨r' x lo hi H Q):=by
  intro pins s σ H x v vl vu lo hi sl Q I rx hs pl pu q
  rcases q with q | q
  · exact h pins s σ H x v vl vu lo hi sl Q I rx hs pl pu q
  · exact h' pins s σ H x v vl vu lo hi sl Q I rx hs pl pu q
noncomputable def tSl (r:V→Option Int→Option Int→Hp→VK→Prop) (te:TE) (tl th:TO):TE:=fun σ H Q=>te σ H fun x H1=>tl σ H1 fun l H2=>th σ H2 fun u H3=>r x l u H3 Q
theorem a3d {r:V→Option Int→Option Int→Hp→VK→Prop} (hr:SlR X r) (he:PE X e te) (hl:PO X lo tl) (hu:PO X hi th):PE X (.Subscript e (.Slice lo hi none p2) pos) (tSl r te tl th):=by
  intro pins s σ H Q I h
  refine Subscript_ (thn (he pins s σ H _ I h) fun v s1 z0=>?_)
  obtain ⟨x,H1,I1,r1,q1⟩:=z0
  refine wpAny_Slice (thn (hl pins s1 σ H1 _ I1 q1) fun vl s2 ⟨l,H2,I2,pl,q2⟩=>thn (hu pins s2 σ H2 _ I2 q2) fun vu s3 ⟨u,H3,I3,pu,q3⟩=>?_)
  rw [evalPart_none]
  refine wpAny_pure ?_
  have I4:Inv X pins σ H3 { s3 with heap:=s3.heap.push { cls:=.type "slice",data:=.fields #[vl,vu,.none] } }:=I3.kept (t':=s3.toks) fun b ob q=>Heap.get?_push_of_some _ q
  obtain ⟨T,id,hT,ht,hg⟩:=hr pins { s3 with heap:=s3.heap.push { cls:=.type "slice",data:=.fields #[vl,vu,.none] } } σ H3 x v vl vu l u s3.heap.objs.size Q I4 r1 (Heap.IsSliceOf.new ..) pl pu q3
  show wpAny (model X.prog X.w) X.A (subscriptTail e (.Slice lo hi none p2) v (.ref s3.heap.objs.size)) (EP X pins σ Q) X.xe { s3 with heap:=s3.heap.push { cls:=.type "slice",data:=.fields #[vl,vu,.none] } }
  exact tail_any (ops:=[.ref s3.heap.objs.size,v]) ht hT hg (by with_unfolding_all rfl)
noncomputable def a6b (xs:List V) (lo hi:Option Int):List V:=(xs.drop (HT.sIx xs.length 0 lo)).take (HT.sIx xs.length xs.length hi - HT.sIx xs.length 0 lo)
theorem Tg (xs:List V) (lo hi:Option Int):(a6b xs lo hi).length≤xs.length:=by
  unfold a6b
  rw [List.length_take,List.length_drop]
  omega
noncomputable def ad3 (K:PySem.W.Frag):V→Option Int→Option Int→Hp→VK→Prop:=fun x lo hi H Q=>∃ a xs,x=.ref a∧SqT K H a xs ∧
  ¬ (HT.sIx xs.length 0 lo=0∧HT.sIx xs.length xs.length hi=xs.length)∧∀ p,H p=none→Q (.ref p) (upd H p (.tup (a6b xs lo hi)))
theorem a8i:SlR X (ad3 X.K):=by
  intro pins s σ H x v vl vu lo hi sl Q I rx hs pl pu h
  obtain ⟨a,xs,rfl,hx,hw,q⟩:=h
  cases rx
  obtain ⟨its,r,ht,hz⟩:=I.tuple hx
  have hlen:its.toArray.size=xs.length:=by rw [List.size_toArray]; exact r.length.symm
  refine ⟨"tuple",_,PyProof.Rows.slot_tuple_getitem.lookup,ht.typeIs,?_⟩
  refine HT.Ih ht hs pl pu (by rw [hlen]; exact hw) ?_ (by rw [hlen]; exact hz)
  rw [hlen]
  refine ⟨.ref s.heap.objs.size,_,I.laid (t':=s.toks) (o:=.tup (a6b xs lo hi)) (fun b ob q=>Heap.get?_push_of_some _ q) (Nat.le_refl _) ?_,rfl,q _ (I.hok.fresh (Nat.le_refl _))⟩
  exact ⟨Nat.le_trans (Tg xs lo hi) hz,_,(r.drop (HT.sIx xs.length 0 lo)).take (HT.sIx xs.length xs.length hi - HT.sIx xs.length 0 lo),a2b.new _ _⟩
noncomputable def aas (K:PySem.W.Frag):R2:=fun x y H Q=>∃ a b xs ys,x=.ref a∧y=.ref b∧SqT K H a xs∧SqT K H b ys∧xs≠[]∧xs.length+ys.length≤sizeLine ∧
  (ys=[]→Q (.ref a) H)∧(ys≠[]→∀ p,H p=none→Q (.ref p) (upd H p (.tup (xs++ys))))
theorem Vals.V1 {xs:List V} {us:List Value} (r:Vals xs us):us=[]↔xs=[]:=by
  cases r with
  | nil=>simp
  | cons _ _=>simp
theorem a6d:OpR X (binaryOp .Add) (aas X.K):=by
  intro pins s σ H x y v u Q I rx ry h
  obtain ⟨a,b,xs,ys,rfl,rfl,ha,hb,hx,hz,q1,q2⟩:=h
  cases rx
  cases ry
  obtain ⟨its,r1,p1,_⟩:=I.tuple ha
  obtain ⟨its2,r2,p2,_⟩:=I.tuple hb
  refine HT.a6p p1 p2 (fun z=>hx (r1.V1.mp z)) (fun z=>⟨.ref a,H,I,rfl,q1 (r2.V1.mp z)⟩) (fun z=>?_) (by rw [← r1.length,← r2.length]; exact hz)
  refine ⟨.ref s.heap.objs.size,_,I.laid (t':=s.toks) (o:=.tup (xs++ys)) (fun b ob q=>Heap.get?_push_of_some _ q) (Nat.le_refl _) ?_,rfl,q2 (fun w=>z (r2.V1.mpr w)) _ (I.hok.fresh (Nat.le_refl _))⟩
  exact ⟨by rw [List.length_append]; exact hz,_,r1.append r2,a2b.new _ _⟩
end
end L2
namespace L2
open PySem PySem.Spec PyProof.Rows
noncomputable def ixN (n:Nat) (i:Int):Option Nat:=if 0≤i then (if i<n then some i.toNat else none) else if -(n:Int)≤i then some (i+n).toNat else none
noncomputable def atI {α:Type} (xs:List α) (i:Int):Option α:=(ixN xs.length i).bind fun j=>xs[j]?
theorem a6c {n:Nat} {i:Int} {j:Nat} (h:ixN n i=some j):seqIndex? i n=some j∧j<n∧-(n:Int)≤i∧i<n:=by
  unfold ixN at h
  by_cases h0:0≤i
  · rw [if_pos h0] at h
    by_cases h1:i<n
    · rw [if_pos h1] at h
      have e:i.toNat=j:=Option.some.inj h
      exact ⟨by rw [seqIndex_of h0 h1,e],by omega,by omega,h1⟩
    · rw [if_neg h1] at h; cases h
  · rw [if_neg h0] at h
    by_cases h1:-(n:Int)≤i
    · rw [if_pos h1] at h
      have e:(i+n).toNat=j:=Option.some.inj h
      exact ⟨by rw [seqIndex_neg (by omega) h1,e],by omega,h1,by omega⟩
    · rw [if_neg h1] at h; cases h
theorem Tj {α:Type} {xs:List α} {i:Int} {v:α} (h:atI xs i=some v):∃ j,seqIndex? i xs.length=some j∧xs[j]? = some v∧j<xs.length∧-(xs.length:Int)≤i∧i<xs.length:=by
  unfold atI at h
  cases e:ixN xs.length i with
  | none=>rw [e] at h; cases h
  | some j =>
    rw [e] at h
    obtain ⟨h1,h2,h3,h4⟩:=a6c e
    exact ⟨j,h1,h,h2,h3,h4⟩
noncomputable def Uc (b:Expr):Prop:=∀ o i,subscripted b false o i=operate [o,i] (getItem o i)
noncomputable def IxR (X:Cx) (r:R2):Prop :=
  ∀ (value slice:Expr) (pins:List (Addr × Obj)) (s:Shared) (σ:St) (H:Hp) (x y:V) (v u:Value) (Q:VK),Inv X pins σ H s→RelV x v→RelV y u→r x y H Q →
    subscripted slice false v u=operate [v,u] (getItem v u)→wpAny (model X.prog X.w) X.A (subscriptTail value slice v u) (EP X pins σ Q) X.xe s
noncomputable def MtR (X:Cx) (id:String) (r:V→List V→Hp→VK→Prop):Prop :=
  ∀ (pins:List (Addr × Obj)) (s:Shared) (σ:St) (H:Hp) (x:V) (xs:List V) (v:Value) (us:List Value) (Q:VK),Inv X pins σ H s→RelV x v→Vals xs us→r x xs H Q →
    wpAny (model X.prog X.w) X.A (call (.builtin id) (v::us)) (EP X pins σ Q) X.xe s
noncomputable section
variable {X:Cx} {a b:Expr} {ta tb:TE} {pos:Pos}
theorem IxR.or {r r':R2} (h:IxR X r) (h':IxR X r'):IxR X (fun x y H Q=>r x y H Q∨r' x y H Q):=by
  intro value slice pins s σ H x y v u Q I rx ry q hs
  rcases q with q | q
  · exact h value slice pins s σ H x y v u Q I rx ry q hs
  · exact h' value slice pins s σ H x y v u Q I rx ry q hs
theorem MtR.or {id:String} {r r':V→List V→Hp→VK→Prop} (h:MtR X id r) (h':MtR X id r'):MtR X id (fun x xs H Q=>r x xs H Q∨r' x xs H Q):=by
  intro pins s σ H x xs v us Q I rx rs q
  rcases q with q | q
  · exact h pins s σ H x xs v us Q I rx rs q
  · exact h' pins s σ H x xs v us Q I rx rs q
theorem a8p {r:R2} (hr:IxR X r) (ha:PE X a ta) (hb:PE X b tb) (hs:Uc b):PE X (.Subscript a b pos) (tOp r ta tb):=by
  intro pins s σ H Q I h
  exact Subscript_ (abo ha hb I h fun v u s2 x y H2 I2 rx ry q=>hr a b pins s2 σ H2 x y v u Q I2 rx ry q (hs _ _))
noncomputable def ad0 (K:PySem.W.Frag):R2:=fun x y H Q=>∃ p xs i v,x=.ref p∧y=.int i∧SqL K H p xs∧atI xs i=some v∧Q v H
noncomputable def aci (K:PySem.W.Frag):R2:=fun x y H Q=>∃ p xs i v,x=.ref p∧y=.int i∧SqT K H p xs∧atI xs i=some v∧Q v H
noncomputable def acj:R2:=fun x y H Q=>∃ z i c,x=.str z∧y=.int i∧z.length≤sizeLine∧atI z.cps.toList i=some c∧Q (.str ⟨#[c]⟩) H
theorem Zk:IxR X (ad0 X.K):=by
  intro value slice pins s σ H x y v u Q I rx ry h hs
  obtain ⟨p,xs,i,z,rfl,rfl,hq,he,q⟩:=h
  cases rx
  obtain ⟨t,rfl⟩:=ry
  obtain ⟨its,r,pl,hz⟩:=I.list hq
  obtain ⟨j,h1,h2,h3,h4,h5⟩:=Tj he
  obtain ⟨w,ew,rw'⟩:=r.get h2
  have hl:=r.length
  have hn:=Qx
  have fin:EP X pins σ Q w s:=⟨z,H,I,rw',q⟩
  by_cases h0:0≤i
  · have hj:i.toNat=j:=by
      rw [seqIndex_of h0 h5] at h1
      exact Option.some.inj h1
    exact item_listR pl.isList h0 (by omega) (by rw [hj]; simpa using ew) fin hs
  · have hj:(i+(its.toArray.size:Int)).toNat=j:=by
      rw [seqIndex_neg (by omega) h4] at h1
      rw [List.size_toArray,← hl]
      exact Option.some.inj h1
    exact subscriptTail_builtinR (x:=w) pl.isList.typeIs slot_list_getitem.lookup
      (wpAny_getItem_list_neg (Q:=fun r s'=>r=w∧EP X pins σ Q r s') pl.isList (by omega) (by rw [List.size_toArray] <;> omega) (by omega) (by rw [hj]; simpa using ew) ⟨rfl,fin⟩) hs
theorem a92:IxR X (aci X.K):=by
  intro value slice pins s σ H x y v u Q I rx ry h hs
  obtain ⟨p,xs,i,z,rfl,rfl,hq,he,q⟩:=h
  cases rx
  obtain ⟨t,rfl⟩:=ry
  obtain ⟨its,r,pl,hz⟩:=I.tuple hq
  obtain ⟨j,h1,h2,h3,h4,h5⟩:=Tj he
  obtain ⟨w,ew,rw'⟩:=r.get h2
  have hl:=r.length
  have hn:=Qx
  have fin:EP X pins σ Q w s:=⟨z,H,I,rw',q⟩
  exact subscriptTail_builtinR (x:=w) pl.typeIs slot_tuple_getitem.lookup
    (getItem_tuple (j:=j) (Q:=fun r s'=>r=w∧EP X pins σ Q r s') pl (by omega) (by omega) (by rw [List.size_toArray,← hl]; exact h1) (by simpa using ew) ⟨rfl,fin⟩) hs
theorem a8t:IxR X acj:=by
  intro value slice pins s σ H x y v u Q I rx ry h hs
  obtain ⟨z,i,c,rfl,rfl,hz,he,q⟩:=h
  obtain ⟨t,rfl⟩:=rx
  obtain ⟨t',rfl⟩:=ry
  obtain ⟨j,h1,h2,h3,h4,h5⟩:=Tj he
  have hl:z.cps.toList.length=z.length:=by simp [Str.length]
  rw [hl] at h1 h4 h5
  have hn:=Qx
  exact tail_any (typeIs_str s z t) slot_str_getitem.lookup (getItem_str (c:=c) (by
    have e1:decide (i < -(2 ^ 63:Int))=false:=decide_eq_false (by omega)
    have e2:decide (i ≥ 2 ^ 63)=false:=decide_eq_false (by omega)
    rw [e1,e2,Bool.or_false]) (by rw [h1]; simpa using h2) ⟨.str ⟨#[c]⟩,H,I.tok _,⟨_,rfl⟩,q⟩) hs
theorem Inv.lst {pins:List (Addr × Obj)} {σ:St} {H:Hp} {s:Shared} {p:Addr} {xs:List V} (I:Inv X pins σ H s) (h:H p=some (.lst xs)) :
    ∃ (its:List Value) (n:Nat),Vals xs its∧s.heap.get? p=some { cls:=.type "list",data:=.seq its.toArray n }∧xs.length≤sizeLine:=by
  obtain ⟨z,its,n,r,e⟩:=I.hok p _ h
  exact ⟨its,n,r,e,z⟩
theorem Eh:Dz X (.builtin "len") (fun xs H Q=>∃ p ys,xs=[.ref p]∧(SqL X.K H p ys∨SqT X.K H p ys)∧Q (.int ys.length) H):=by
  intro pins s σ H xs us Q I r h
  obtain ⟨p,ys,rfl,hq,q⟩:=h
  obtain ⟨u,rfl,rx⟩:=vals1 r
  cases rx
  have hn:=Qx
  rcases hq with hq | hq
  · obtain ⟨its,r',pl,hz⟩:=I.list hq
    have hlen:=r'.length
    exact Calls.call_len_list pl.isList (by simp only [List.size_toArray] <;> omega) ⟨.int ys.length,H,I.tok _,⟨s.toks+1,by rw [List.size_toArray,hlen]⟩,q⟩
  · obtain ⟨its,r',pl,hz⟩:=I.tuple hq
    have hlen:=r'.length
    exact len_tuple pl (by simp only [List.size_toArray] <;> omega) ⟨.int ys.length,H,I.tok _,⟨s.toks+1,by rw [List.size_toArray,hlen]⟩,q⟩
theorem Qv:Dz X (.builtin "len") (fun xs H Q=>∃ z,xs=[.str z]∧z.length≤sizeLine∧Q (.int z.length) H):=by
  intro pins s σ H xs us Q I r h
  obtain ⟨z,rfl,hz,q⟩:=h
  obtain ⟨u,rfl,t,rfl⟩:=vals1 r
  have hn:=Qx
  exact len_str (by omega) ⟨.int z.length,H,I.tok _,⟨_,rfl⟩,q⟩
theorem Dz.or {f:Value} {r r':List V→Hp→VK→Prop} (h:Dz X f r) (h':Dz X f r'):Dz X f (fun xs H Q=>r xs H Q∨r' xs H Q):=by
  intro pins s σ H xs us Q I rs q
  rcases q with q | q
  · exact h pins s σ H xs us Q I rs q
  · exact h' pins s σ H xs us Q I rs q
theorem Ht:Dz X (.type "tuple") (fun xs H Q=>∃ p ys,xs=[.ref p]∧((SqL X.K H p ys∧∀ l,H l=none→Q (.ref l) (upd H l (.tup ys)))∨(SqT X.K H p ys∧Q (.ref p) H))):=by
  intro pins s σ H xs us Q I r h
  obtain ⟨p,ys,rfl,h⟩:=h
  obtain ⟨u,rfl,rx⟩:=vals1 r
  cases rx
  rcases h with ⟨hq,q⟩ | ⟨hq,q⟩
  · obtain ⟨its,r',pl,hz⟩:=I.list hq
    have hlen:=r'.length
    refine call_tuple_list pl.isList (fun h' kp=>?_) (by simp only [List.size_toArray] <;> omega)
    have I1:Inv X pins σ H { s with heap:=h' }:=I.kept (t':=s.toks) kp
    have I2:Inv X pins σ (upd H h'.objs.size (.tup ys)) { s with heap:=h'.push { cls:=.type "tuple",data:=.seq its.toArray } } :=
      I1.laid (t':=s.toks) (fun b o e=>Heap.get?_push_of_some _ e) (Nat.le_refl _) (show Ab X.prog X.w _ _ _ (.tup ys) from ⟨hz,its,r',a2b.new _ _⟩)
    exact ⟨.ref h'.objs.size,_,I2,rfl,q _ (I1.hok.fresh (Nat.le_refl _))⟩
  · obtain ⟨its,r',pl,hz⟩:=I.tuple hq
    exact call_tuple_same pl ⟨.ref p,H,I,rfl,q⟩
noncomputable def tyV (K:PySem.W.Frag) (T:String) (x:V) (H:Hp):Prop:=match x with
  | .str _=>T = "str"
  | .int _=>T = "int"
  | .ref p=>(T = "list" ∧ ∃ xs,SqL K H p xs)∨(T = "tuple" ∧ ∃ o,K.lookup p=some o∧o.cls=.type "tuple" ∧ o.dict=none) ∨
      (T = "dict" ∧ ((∃ kvs,H p=some (.dK kvs))∨∃ kvs,H p=some (.dT kvs)))∨(T = "set" ∧ ∃ S n,H p=some (.set S n))
  | _=>False
theorem a4q {pins:List (Addr × Obj)} {σ:St} {H:Hp} {s:Shared} {T:String} {x:V} {v:Value} (I:Inv X pins σ H s) (r:RelV x v) (ty:tyV X.K T x H) :
    s.TypeIs v T∧∀ a,v=.ref a→∃ ob,s.heap.get? a=some ob∧ob.dict=none:=by
  cases x with
  | str z =>
    obtain ⟨t,rfl⟩:=r
    cases (show T = "str" from ty)
    exact ⟨typeIs_str s z t,fun _ e=>nomatch e⟩
  | int i =>
    obtain ⟨t,rfl⟩:=r
    cases (show T = "int" from ty)
    exact ⟨typeIs_int s i t,fun _ e=>nomatch e⟩
  | ref p =>
    cases r
    rcases ty with ⟨rfl,xs,hq⟩ | ⟨rfl,o,hk,hc,hd⟩ | ⟨rfl,hk⟩ | ⟨rfl,S,n,hk⟩
    · obtain ⟨its,_,pl,_⟩:=I.list hq
      refine ⟨pl.isList.typeIs,fun a e=>?_⟩
      cases e
      obtain ⟨o,n,e,c,hd,_⟩:=pl
      exact ⟨o,e,hd⟩
    · refine ⟨⟨o,I.kIn p o hk,hc⟩,fun a e=>?_⟩
      cases e
      exact ⟨o,I.kIn _ o hk,hd⟩
    · have z:∃ o,s.heap.get? p=some o∧o.ExactDict:=by
        rcases hk with ⟨kvs,hk⟩ | ⟨kvs,hk⟩
        · obtain ⟨_,_,_,_,o,_,_,e,ex,_⟩:=I.hok p _ hk
          exact ⟨o,e,ex⟩
        · obtain ⟨_,_,_,_,o,_,_,e,ex,_⟩:=I.hok p _ hk
          exact ⟨o,e,ex⟩
      obtain ⟨o,e,ex⟩:=z
      refine ⟨⟨o,e,ex.1⟩,fun a e2=>?_⟩
      cases e2
      exact ⟨o,e,ex.2.1⟩
    · obtain ⟨o,_,_,_,e,ex,_⟩:=I.hok p _ hk
      refine ⟨⟨o,e,ex.1⟩,fun a e2=>?_⟩
      cases e2
      exact ⟨o,e,ex.2.1⟩
  | _=>exact False.elim ty
noncomputable def ace (K:PySem.W.Frag) (T:String) (r:V→List V→Hp→VK→Prop) (to:TE):TE:=fun σ H Q=>to σ H fun x H1=>tyV K T x H1∧r x [] H1 Q
noncomputable def tBM (K:PySem.W.Frag) (T:String) (r:V→List V→Hp→VK→Prop) (to:TE) (t:TA):TE:=fun σ H Q=>to σ H fun x H1=>tyV K T x H1∧t σ H1 fun xs H2=>r x xs H2 Q
variable {o e:Expr} {es:List Expr} {to:TE} {t:TA} {name:Str} {apos cpos:Pos} {T id:String} {r:V→List V→Hp→VK→Prop}
theorem a89 (pa:PlainAttrs T) (slot:Slot T name id) (hty:typeOf (.builtin id)=pure (.type "method_descriptor")) (hm:MtR X id r) (ho:PE X o to)
    (hbase:attributeBase o name X.env (eval o X.env)=eval o X.env:=by rfl) (hline:(apos.endLine==cpos.line)=true:=by rfl):PE X (.Call (.Attribute o name apos) [] [] cpos) (ace X.K T r to):=by
  intro pins s σ H Q I h
  refine wpAny_Call_method0_late hbase hline (thn (ho pins s σ H _ I h) fun v s1 z0=>?_)
  obtain ⟨x,H1,I1,r1,ty,q1⟩:=z0
  obtain ⟨h1,h2⟩:=a4q I1 r1 ty
  exact ⟨T,id,pa,slot,hty,h1,h2,Calls.callWith_builtin rfl (PySem.evalArgs_none (hm pins s1 σ H1 x [] v [] Q I1 r1 .nil q1))⟩
theorem Eo (pa:PlainAttrs T) (slot:Slot T name id) (hty:typeOf (.builtin id)=pure (.type "method_descriptor")) (hm:MtR X id r) (ho:PE X o to) (ha:PA X (e::es) t)
    (hbase:attributeBase o name X.env (eval o X.env)=eval o X.env:=by rfl)
    (hfew:((backTo cpos (starEach (e::es) X.env)).all (fun x=>!x.1)&&(backToKw cpos (keywordEach [] X.env)).all (fun x=>x.1.isSome)
      && decide ((e::es).length+([]:List Keyword).length+(if ([]:List Keyword).isEmpty then 0 else 1)<30))=true:=by rfl)
    (hline:(apos.endLine==cpos.line)=true:=by rfl) (hs:starEach (e::es) X.env=(false,eval e X.env)::starEach es X.env:=by rfl) (hplain:(backTo cpos (starEach es X.env)).any (·.1)=false:=by rfl) :
    PE X (.Call (.Attribute o name apos) (e::es) [] cpos) (tBM X.K T r to t):=by
  intro pins s σ H Q I h
  refine wpAny_Call_method_late hbase hfew hline rfl (thn (ho pins s σ H _ I h) fun v s1 z0=>?_)
  obtain ⟨x,H1,I1,r1,ty,q1⟩:=z0
  obtain ⟨h1,h2⟩:=a4q I1 r1 ty
  refine ⟨T,id,pa,slot,hty,h1,h2,?_⟩
  have hA:=ha cpos pins s1 σ H1 _ I1 q1
  rw [hs] at hA ⊢
  refine Calls.callWith_builtin (by show (false||(backTo cpos (starEach es X.env)).any (·.1))=false; rw [hplain] <;> rfl) (Calls.evalArgs_plain ?_)
  exact thn hA fun us s2 ⟨vs,H2,I2,r2,q2⟩=>hm pins s2 σ H2 x vs v us Q I2 r1 r2 q2
end
end L2
namespace L2
open PySem PySem.Spec PyProof.Rows
noncomputable def MtM (X:Cx) (id:String) (r:V→List V→Hp→VK→Prop):Prop :=
  ∀ (pins:List (Addr × Obj)) (s:Shared) (σ:St) (H:Hp) (x:V) (xs:List V) (v:Value) (us:List Value) (Q:VK),Inv X pins σ H s→RelV x v→Vals xs us→r x xs H Q →
    wpAny (model X.prog X.w) X.A (call (.builtin id) (v::us)) (EP X pins σ Q) X.xe s
theorem Vals.one {x:V} {us:List Value} (h:Vals [x] us):∃ u,us=[u]∧RelV x u:=by
  cases h with
  | cons r t=>cases t; exact ⟨_,rfl,r⟩
theorem Vals.two {x y:V} {us:List Value} (h:Vals [x,y] us):∃ u v,us=[u,v]∧RelV x u∧RelV y v:=by
  cases h with
  | cons r t=>obtain ⟨v,e,q⟩:=Vals.one t; exact ⟨_,v,congrArg _ e,r,q⟩
theorem Vals.zero:∀ {us:List Value},Vals [] us→us=[]
  | _,.nil=>rfl
theorem Vals.reverse {xs:List V} {us:List Value} (h:Vals xs us):Vals xs.reverse us.reverse:=by
  induction h with
  | nil=>exact .nil
  | cons r t ih=>rw [List.reverse_cons,List.reverse_cons]; exact Vals.append ih (.cons r .nil)
theorem Vals.rep {xs:List V} {us:List Value} (h:Vals xs us):∀ k:Nat,Vals (List.replicate k xs).flatten (List.replicate k us).flatten
  | 0=>.nil
  | k+1=>by
    rw [List.replicate_succ,List.replicate_succ,List.flatten_cons,List.flatten_cons]
    exact Vals.append h (Vals.rep h k)
noncomputable section
variable {X:Cx} {pins:List (Addr × Obj)} {σ:St} {H:Hp} {s:Shared} {l b:Addr} {xs ys zs:List V}
theorem Inv.aaz {its its':List Value} {n:Nat} {f:Array Value→Array Value} {t':Nat} (I:Inv X pins σ H s) (hH:H l=some (.lst xs))
    (e:s.heap.get? l=some { cls:=.type "list",data:=.seq its.toArray n }) (hf:f its.toArray=its'.toArray) (hv:Vals ys its') (hz:ys.length≤sizeLine) :
    Inv X pins σ (upd H l (.lst ys)) { s with heap:=s.heap.update l (Obj.mapSeq f),toks:=t' }:=by
  have q:=PySem.IsL.update e f
  rw [hf] at q
  refine I.write (x:=l) (e:=l) (by rw [hH]; exact trivial) (.inl rfl) (fun b' u hb hu=>(Heap.get?_update_other s.heap (Obj.mapSeq f) (Ne.symm hb)).trans hu) ⟨_,q⟩ ?_
  exact ⟨hz,its',_,hv,q⟩
theorem Inv.acu {its:List Value} {t':Nat} (I:Inv X pins σ H s) (hv:Vals ys its) (hz:ys.length≤sizeLine) :
    Inv X pins σ (upd H s.heap.objs.size (.lst ys)) { s with heap:=s.heap.push { cls:=.type "list",data:=.seq its.toArray },toks:=t' } :=
  I.laid (fun _ _ q=>Heap.get?_push_of_some _ q) (Nat.le_refl _) ⟨hz,its,0,hv,Heap.get?_push_size _ rfl⟩
theorem Inv.fresh (I:Inv X pins σ H s):H s.heap.objs.size=none:=I.hok.fresh (Nat.le_refl _)
theorem Inv.aag (I:Inv X pins σ H s) (hH:H l=some (.lst xs)):xs.length≤sizeLine∧∃ (its:List Value) (n:Nat),Vals xs its∧xs.length=its.length∧s.heap.get? l=some { cls:=.type "list",data:=.seq its.toArray n }:=by
  obtain ⟨z,its,n,r,e⟩:=I.hok l _ hH
  exact ⟨z,its,n,r,r.length,e⟩
theorem a3w {n:Nat} (h:n≤sizeLine):Builtin.List.listTooLong n=false:=by
  unfold Builtin.List.listTooLong
  exact decide_eq_false (by omega)
end
noncomputable section
variable {X:Cx}
noncomputable def a05:V→List V→Hp→VK→Prop:=fun x vs H Q=>∃ l xs y,x=.ref l∧vs=[y]∧H l=some (.lst xs)∧xs.length<sizeLine∧Q .non (upd H l (.lst (xs++[y])))
theorem xu:MtM X "list.append" a05:=by
  intro pins s σ H x vs v us Q I rx rv h
  obtain ⟨l,xs,y,rfl,rfl,hH,hz,q⟩:=h
  cases rx
  obtain ⟨u,rfl,ru⟩:=rv.one
  obtain ⟨z,its,n,r,hl,e⟩:=I.aag hH
  refine call_meets F.slot_list_append ⟨_,e,rfl⟩ F.entry_list_append (F.args_list_append_2 _ _) (PySem.list_append l its.toArray n u (by rw [List.size_toArray]; omega)) ⟨e,?_⟩
  refine ⟨.non,_,I.aaz (its':=its++[u]) hH e (by simp) (r.append (.cons ru .nil)) ?_,rfl,q⟩
  rw [List.length_append,List.length_singleton]
  omega
noncomputable def Wi:V→List V→Hp→VK→Prop:=fun x vs H Q=>∃ l xs,x=.ref l∧vs=[]∧H l=some (.lst xs)∧Q .non (upd H l (.lst xs.reverse))
theorem X3:MtM X "list.reverse" Wi:=by
  intro pins s σ H x vs v us Q I rx rv h
  obtain ⟨l,xs,rfl,rfl,hH,q⟩:=h
  cases rx
  have hus:=rv.zero
  subst hus
  obtain ⟨z,its,n,r,hl,e⟩:=I.aag hH
  refine call_meets F.slot_list_reverse ⟨_,e,rfl⟩ F.entry_list_reverse (F.args_list_reverse_1 _) (AutoSeq1.list_reverse_list_0 l its.toArray n (by rw [List.size_toArray]; omega)) ⟨e,?_⟩
  refine ⟨.non,_,I.aaz (its':=its.reverse) hH e (by simp) r.reverse ?_,rfl,q⟩
  rw [List.length_reverse]
  omega
end
noncomputable section
variable {prog:Program} {w:World} {A:Around} {E:Value→Shared→Prop} {s:Shared}
end
noncomputable section
variable {X:Cx}
end
end L2
end
noncomputable section
set_option linter.all false
set_option maxRecDepth 100000
namespace L2
open PySem PySem.Spec PyProof.Rows
noncomputable section
variable {κ:Type} [DecidableEq κ]
noncomputable def Ls (kvs:List (κ × V)) (k:κ):Option V:=(kvs.find? fun kv=>decide (kv.1=k)).map (·.2)
noncomputable def putK (kvs:List (κ × V)) (k:κ) (v:V):List (κ × V) :=
  if (kvs.any fun kv=>decide (kv.1=k))=true then kvs.map (fun kv=>if kv.1=k then (kv.1,v) else kv) else kvs++[(k,v)]
noncomputable def a7x (kvs:List (κ × V)) (k:κ):List (κ × V):=kvs.filter fun kv=>decide (kv.1≠k)
theorem Hq {p:κ × V} {r:List (κ × V)} {k:κ} (e:p.1=k):Ls (p::r) k=some p.2:=by simp [Ls,List.find?_cons,e]
theorem Gz {p:κ × V} {r:List (κ × V)} {k:κ} (e:¬ p.1=k):Ls (p::r) k=Ls r k:=by simp [Ls,List.find?_cons,e]
theorem Vj (k:κ):∀ kvs:List (κ × V),(kvs.any fun kv=>decide (kv.1=k))=(Ls kvs k).isSome
  | []=>rfl
  | p::r=>by
    rw [List.any_cons]
    by_cases e:p.1=k
    · simp only [Hq e,decide_eq_true e,Bool.true_or,Option.isSome_some]
    · rw [Gz e,decide_eq_false e,Bool.false_or]; exact Vj k r
theorem Ks (kvs:List (κ × V)) (k:κ) (v:V):(putK kvs k v).length≤kvs.length+1:=by
  unfold putK
  split
  · rw [List.length_map]; omega
  · rw [List.length_append,List.length_cons,List.length_nil]; omega
theorem Px.Ed {o:Option V} {u:Option Value} (r:Px o u):o.isSome=u.isSome:=by
  cases o with
  | none=>cases u with
    | none=>rfl
    | some _=>exact (show False from r).elim
  | some _=>cases u with
    | none=>exact (show False from r).elim
    | some _=>rfl
theorem Px.getD {o:Option V} {u:Option Value} {d:V} {d':Value} (r:Px o u) (rd:RelV d d'):RelV (o.getD d) (u.getD d'):=by
  cases o with
  | none=>cases u with
    | none=>exact rd
    | some _=>exact (show False from r).elim
  | some _=>cases u with
    | none=>exact (show False from r).elim
    | some _=>exact r
theorem KV.val {kvs:List (κ × V)} {vs:List (κ × Value)} (r:KV kvs vs) (k:κ):Px (Ls kvs k) (valueAt vs k):=by
  unfold KV at r
  induction r with
  | nil=>exact True.intro
  | @cons p q ps qs h t ih =>
    obtain ⟨h1,h2⟩:=h
    by_cases e:p.1=k
    · have e':q.1=k:=h1.symm.trans e
      have b:valueAt (q::qs) k=some q.2:=by simp [valueAt,List.find?_cons,e']
      rw [Hq e,b]; exact h2
    · have e':¬ q.1=k:=fun z=>e (h1.trans z)
      have b:valueAt (q::qs) k=valueAt qs k:=by simp [valueAt,List.find?_cons,e']
      rw [Gz e,b]; exact ih
theorem KV.any {kvs:List (κ × V)} {vs:List (κ × Value)} (r:KV kvs vs) (k:κ):(kvs.any fun kv=>decide (kv.1=k))=vs.any fun kv=>decide (kv.1=k):=by
  unfold KV at r
  induction r with
  | nil=>rfl
  | cons h t ih=>rw [List.any_cons,List.any_cons,ih,h.1]
theorem KV.repl {kvs:List (κ × V)} {vs:List (κ × Value)} (r:KV kvs vs) (k:κ) {y:V} {u:Value} (ry:RelV y u) :
    KV (kvs.map fun kv=>if kv.1=k then (kv.1,y) else kv) (vs.map fun kv=>if kv.1=k then (kv.1,u) else kv):=by
  unfold KV at r ⊢
  induction r with
  | nil=>exact .nil
  | @cons p q ps qs h t ih =>
    rw [List.map_cons,List.map_cons]
    refine .cons ?_ ih
    obtain ⟨h1,h2⟩:=h
    by_cases e:p.1=k
    · rw [if_pos e,if_pos (h1.symm.trans e)]; exact ⟨h1,ry⟩
    · rw [if_neg e,if_neg (fun z=>e (h1.trans z))]; exact ⟨h1,h2⟩
theorem KV.put {kvs:List (κ × V)} {vs:List (κ × Value)} (r:KV kvs vs) (k:κ) {y:V} {u:Value} (ry:RelV y u):KV (putK kvs k y) (stored vs k u):=by
  unfold putK stored
  rw [r.any k]
  by_cases e:(vs.any fun kv=>decide (kv.1=k))=true
  · rw [if_pos e,if_pos e]; exact r.repl k ry
  · rw [if_neg e,if_neg e]; exact Paired.snoc r ⟨rfl,ry⟩
theorem KV.drop {kvs:List (κ × V)} {vs:List (κ × Value)} (r:KV kvs vs) (k:κ):KV (a7x kvs k) (without vs k):=by
  unfold KV at r ⊢
  unfold a7x without
  induction r with
  | nil=>exact .nil
  | @cons p q ps qs h t ih =>
    obtain ⟨h1,h2⟩:=h
    rw [List.filter_cons,List.filter_cons]
    by_cases e:p.1=k
    · have a:¬ decide (p.1≠k)=true:=by simp [e]
      have b:¬ decide (q.1≠k)=true:=by simp [h1.symm.trans e]
      rw [if_neg a,if_neg b]; exact ih
    · have e':¬ q.1=k:=fun z=>e (h1.trans z)
      have a:decide (p.1≠k)=true:=by simp [e]
      have b:decide (q.1≠k)=true:=by simp [e']
      rw [if_pos a,if_pos b]; exact .cons ⟨h1,h2⟩ ih
theorem KV.keys {kvs:List (κ × V)} {vs:List (κ × Value)} (r:KV kvs vs):kvs.map (·.1)=vs.map (·.1):=by
  unfold KV at r
  induction r with
  | nil=>rfl
  | cons h t ih=>rw [List.map_cons,List.map_cons,ih,h.1]
theorem KV.length {kvs:List (κ × V)} {vs:List (κ × Value)} (r:KV kvs vs):kvs.length=vs.length:=Paired.length r
end
theorem Sd {P:Program} {w:World} {k:Key} {u:Value} (r:RelV (kV k) u):(qu P w).is k u=true:=by
  cases k with
  | inl i=>obtain ⟨t,e⟩:=(show ∃ t,u=Value.int i t from r); subst e; exact T3 P w i t
  | inr x=>obtain ⟨t,e⟩:=(show ∃ t,u=Value.str x t from r); subst e; exact Tz P w x t
theorem Jp {P:Program} {w:World}:∀ {ks:List Key} {us:List Value},Vals (ks.map kV) us→ItemsAre (qu P w) ks us
  | [],_,r=>by rw [List.map_nil] at r; cases r; exact .nil
  | k::ks,_,r=>by
    rw [List.map_cons] at r
    cases r with
    | cons h t=>exact .cons (Sd h) (Jp t)
noncomputable abbrev KT (H:Hp):List (List Key × V)→List (List Key × Addr × Value)→Prop:=Paired fun p q=>p.1=q.1∧H q.2.1=some (.tup (p.1.map kV))∧RelV p.2 q.2.2
theorem KT.val {H:Hp} {kvs:List (List Key × V)} {xs:List (List Key × Addr × Value)} (r:KT H kvs xs) (k:List Key):Px (Ls kvs k) ((atKey xs k).map (·.2)):=by
  induction r with
  | nil=>exact True.intro
  | @cons p q ps qs h t ih =>
    obtain ⟨h1,_,h2⟩:=h
    by_cases e:p.1=k
    · have e':q.1=k:=h1.symm.trans e
      have b:atKey (q::qs) k=some q.2:=by simp [atKey,List.find?_cons,e']
      rw [Hq e,b]; exact h2
    · have e':¬ q.1=k:=fun z=>e (h1.trans z)
      have b:atKey (q::qs) k=atKey qs k:=by simp [atKey,List.find?_cons,e']
      rw [Gz e,b]; exact ih
theorem KT.repl {H:Hp} {kvs:List (List Key × V)} {xs:List (List Key × Addr × Value)} (r:KT H kvs xs) (k:List Key) {y:V} {u:Value} (ry:RelV y u) :
    KT H (kvs.map fun kv=>if kv.1=k then (kv.1,y) else kv) (xs.map (putAt k u)):=by
  induction r with
  | nil=>exact .nil
  | @cons p q ps qs h t ih =>
    rw [List.map_cons,List.map_cons]
    refine .cons ?_ ih
    obtain ⟨h1,h2,h3⟩:=h
    unfold putAt
    by_cases e:p.1=k
    · rw [if_pos e,if_pos (h1.symm.trans e)]; exact ⟨h1,h2,ry⟩
    · rw [if_neg e,if_neg (fun z=>e (h1.trans z))]; exact ⟨h1,h2,h3⟩
theorem KT.put {H:Hp} {kvs:List (List Key × V)} {xs:List (List Key × Addr × Value)} (r:KT H kvs xs) (k:List Key) {b:Addr} {y:V} {u:Value} (hb:H b=some (.tup (k.map kV))) (ry:RelV y u) :
    KT H (putK kvs k y) (storedH xs k b u):=by
  have e:(kvs.any fun kv=>decide (kv.1=k))=(atKey xs k).isSome:=by
    rw [Vj,(r.val k).Ed,Option.isSome_map]
  unfold putK storedH
  rw [e]
  by_cases q:(atKey xs k).isSome=true
  · rw [if_pos q,if_pos q]; exact r.repl k ry
  · rw [if_neg q,if_neg q]; exact Paired.snoc r ⟨rfl,hb,ry⟩
theorem KT.keeps {H H':Hp} {kvs:List (List Key × V)} {xs:List (List Key × Addr × Value)} (r:KT H kvs xs) (ht:∀ b ys,H b=some (.tup ys)→H' b=some (.tup ys)):KT H' kvs xs :=
  Paired.ac4 r fun _ _ z=>⟨z.1,ht _ _ z.2.1,z.2.2⟩
noncomputable section
variable {P:Program} {w:World} {H:Hp} {h:Heap} {a:Addr}
theorem a9e {u:HO} (ok:HOk P w H h) (e:Rd H a u):Ab P w H h a u:=e.ok ok
theorem Im {kvs:List (Key × V)} (ok:HOk P w H h) (e:Rd H a (.dK kvs)):kvs.length≤sizeLine∧(a==sysModules)=false∧∃ vs,KV kvs vs∧h.DictOf (qu P w) a vs :=
  show Ab P w H h a (.dK kvs) from a9e ok e
theorem abe {kvs:List (Key × V)} (ok:HOk P w H h) (e:H a=some (.dK kvs)):kvs.length≤sizeLine∧(a==sysModules)=false∧∃ vs,KV kvs vs∧h.DictOf (qu P w) a vs:=Im ok (.inl e)
theorem Mz {ks:List Key} (ok:HOk P w H h) (e:H a=some (.tup (ks.map kV))):(tupleKind (qu P w)).is h ks a:=by
  obtain ⟨_,its,r,o,h1,h2,_,n,h3⟩:=(show Ab P w H h a (.tup (ks.map kV)) from ok a _ e)
  exact ⟨o,its.toArray,n,h1,h2,h3,by simpa using Jp r⟩
theorem Ox {kvs:List (List Key × V)} (ok:HOk P w H h) (e:Rd H a (.dT kvs)):kvs.length≤sizeLine∧(a==sysModules)=false ∧
    ∃ xs,KT H kvs xs∧h.DictOfH (tupleKind (qu P w)) a xs:=by
  obtain ⟨z,y,xs,r,o,es,ep,h1,h2,h3,h4,h5⟩:=(show Ab P w H h a (.dT kvs) from a9e ok e)
  refine ⟨z,y,xs,r,o,es,ep,h1,h2,h3,h4,fun x hx=>?_,h5⟩
  have all:∀ {l:List (List Key × V)} {m:List (List Key × Addr × Value)},KT H l m→∀ x∈m,(tupleKind (qu P w)).is h x.1 x.2.1:=by
    intro l m q
    induction q with
    | nil=>intro x hx; exact nomatch hx
    | @cons p q ps qs hq t ih =>
      intro x hx
      rcases List.mem_cons.mp hx with e | hx
      · subst e
        exact Mz ok (by rw [← hq.1]; exact hq.2.1)
      · exact ih x hx
  exact all r x hx
theorem aaj {kvs:List (List Key × V)} (ok:HOk P w H h) (e:H a=some (.dT kvs)):kvs.length≤sizeLine∧(a==sysModules)=false ∧
    ∃ xs,KT H kvs xs∧h.DictOfH (tupleKind (qu P w)) a xs:=Ox ok (.inl e)
end
noncomputable def Xy (H:Hp) (a:Addr) (y:V) (r:Option V):Prop :=
  (∃ kvs k,Rd H a (.dK kvs)∧y=kV k∧r=Ls kvs k)∨∃ kvs k b,Rd H a (.dT kvs)∧y=.ref b∧H b=some (.tup (k.map kV))∧r=Ls kvs k
noncomputable def a5t (H:Hp) (a:Addr) (y v:V) (H':Hp):Prop :=
  (∃ kvs k,H a=some (.dK kvs)∧y=kV k∧kvs.length<sizeLine∧H'=upd H a (.dK (putK kvs k v))) ∨
  ∃ kvs k b,H a=some (.dT kvs)∧y=.ref b∧H b=some (.tup (k.map kV))∧kvs.length<sizeLine∧H'=upd H a (.dT (putK kvs k v))
theorem Xy.k {H:Hp} {a:Addr} {kvs:List (Key × V)} {k:Key} (e:H a=some (.dK kvs)):Xy H a (kV k) (Ls kvs k):=.inl ⟨kvs,k,.inl e,rfl,rfl⟩
theorem Xy.t {H:Hp} {a b:Addr} {kvs:List (List Key × V)} {k:List Key} (e:H a=some (.dT kvs)) (eb:H b=some (.tup (k.map kV))):Xy H a (.ref b) (Ls kvs k):=.inr ⟨kvs,k,b,.inl e,rfl,eb,rfl⟩
theorem a5t.k {H:Hp} {a:Addr} {kvs:List (Key × V)} {k:Key} {v:V} (e:H a=some (.dK kvs)) (hl:kvs.length<sizeLine):a5t H a (kV k) v (upd H a (.dK (putK kvs k v))):=.inl ⟨kvs,k,e,rfl,hl,rfl⟩
theorem a5t.t {H:Hp} {a b:Addr} {kvs:List (List Key × V)} {k:List Key} {v:V} (e:H a=some (.dT kvs)) (eb:H b=some (.tup (k.map kV))) (hl:kvs.length<sizeLine) :
    a5t H a (.ref b) v (upd H a (.dT (putK kvs k v))):=.inr ⟨kvs,k,b,e,rfl,eb,hl,rfl⟩
noncomputable section
variable {X:Cx} {pins:List (Addr × Obj)} {σ:St} {H:Hp} {s:Shared} {a:Addr} {y v:V} {u r:Value} {o:Option V} {A:Around} {E:Value→Shared→Prop}
theorem Inv.big (I:Inv X pins σ H s):sysModules<s.heap.objs.size:=by
  have h:mainGlobals<s.heap.objs.size:=(I.mod.glob.keeps I.bk).lt
  exact Nat.lt_trans (by decide) h
theorem Zv {Q:Value→Shared→Prop} (hu:A.units+1<cLine) (I:Inv X pins σ H s) (g:Xy H a y (some v)) (ry:RelV y u) (h:∀ w' s',Inv X pins σ H s'→RelV v w'→Q w' s') :
    wpAny (model X.prog X.w) A (getItem (.ref a) u) Q E s:=by
  rcases g with ⟨kvs,k,e,ey,l⟩ | ⟨kvs,k,b,e,ey,eb,l⟩
  · subst ey
    obtain ⟨z,hd,vs,rel,dd⟩:=Im I.hok e
    obtain ⟨w',hw,rw'⟩:=Px.some_of (v:=v) (o:=valueAt vs k) (by rw [l]; exact rel.val k)
    exact wpAny_getItem_of (Sd ry) dd.mapOf hw (h w' _ (I.tok _) rw')
  · subst ey
    cases (show u=Value.ref b from ry)
    obtain ⟨z,hd,xs,rel,dd⟩:=Ox I.hok e
    obtain ⟨w',hw,rw'⟩:=Px.some_of (v:=v) (o:=(atKey xs k).map (·.2)) (by rw [l]; exact rel.val k)
    obtain ⟨p,hp,hp2⟩:=Option.map_eq_some_iff.mp hw
    refine wpAny_getItem_heap (tupleKind_room_in1 hu) (Mz I.hok eb) dd hp ?_
    rw [hp2]
    exact h w' _ (I.tok _) rw'
theorem adh {Q:Value→Shared→Prop} (hu:A.units+1<cLine) (I:Inv X pins σ H s) (g:Xy H a y o) (ry:RelV y u) (h:∀ s',Inv X pins σ H s'→Q (.bool o.isSome) s') :
    wpAny (model X.prog X.w) A (compareOp .In u (.ref a)) Q E s:=by
  rcases g with ⟨kvs,k,e,ey,l⟩ | ⟨kvs,k,b,e,ey,eb,l⟩
  · subst ey
    obtain ⟨z,hd,vs,rel,dd⟩:=Im I.hok e
    refine wpAny_in_of (Sd ry) hd dd.mapOf ?_
    rw [← (rel.val k).Ed,← l]
    exact h _ (I.tok _)
  · subst ey
    cases (show u=Value.ref b from ry)
    obtain ⟨z,hd,xs,rel,dd⟩:=Ox I.hok e
    refine wpAny_in_heap (tupleKind_room_in1 hu) (Mz I.hok eb) hd dd ?_
    have q:=(rel.val k).Ed
    rw [Option.isSome_map] at q
    rw [← q,← l]
    exact h _ (I.tok _)
theorem a6z {Q:Value→Shared→Prop} (hu:A.units+1<cLine) (I:Inv X pins σ H s) (g:Xy H a y o) (ry:RelV y u) (h:∀ s',Inv X pins σ H s'→Q (.bool (!o.isSome)) s') :
    wpAny (model X.prog X.w) A (compareOp .NotIn u (.ref a)) Q E s:=by
  rcases g with ⟨kvs,k,e,ey,l⟩ | ⟨kvs,k,b,e,ey,eb,l⟩
  · subst ey
    obtain ⟨z,hd,vs,rel,dd⟩:=Im I.hok e
    refine wpAny_notIn_of (Sd ry) hd dd.mapOf ?_
    rw [← (rel.val k).Ed,← l]
    exact h _ (I.tok _)
  · subst ey
    cases (show u=Value.ref b from ry)
    obtain ⟨z,hd,xs,rel,dd⟩:=Ox I.hok e
    refine wpAny_notIn_heap (tupleKind_room_in1 hu) (Mz I.hok eb) hd dd ?_
    have q:=(rel.val k).Ed
    rw [Option.isSome_map] at q
    rw [← q,← l]
    exact h _ (I.tok _)
theorem Yh {h':Heap} {t':Nat} {ob:HO} (I:Inv X pins σ H s) (mu:Mut (H a)) (hs:Heap.SameBut a s.heap h') (he:∃ q,h'.get? a=some q) (new:Ab X.prog X.w (upd H a ob) h' a ob) :
    Inv X pins σ (upd H a ob) { s with heap:=h',toks:=t' } :=
  I.write (x:=a) (e:=a) mu (.inl rfl) (fun b q hb z=>(hs.2 b hb).trans z) he new
theorem Vd {P:Program} {w:World} {H':Hp} {h':Heap} {kvs:List (Key × V)} {vs:List (Key × Value)} (z:kvs.length≤sizeLine) (hd:(a==sysModules)=false) (rel:KV kvs vs) (dd:h'.DictOf (qu P w) a vs) :
    Ab P w H' h' a (.dK kvs):=⟨z,hd,vs,rel,dd⟩
theorem Z4 {H':Hp} {Q:Unit→Shared→Prop} (hu:A.units+1<cLine) (I:Inv X pins σ H s) (g:a5t H a y v H') (ry:RelV y u) (rv:RelV v r) (h:∀ s',Inv X pins σ H' s'→Q () s') :
    wpAny (model X.prog X.w) A (setItem (.ref a) u r) Q E s:=by
  rcases g with ⟨kvs,k,e,ey,l,eH⟩ | ⟨kvs,k,b,e,ey,eb,l,eH⟩
  · subst ey eH
    obtain ⟨z,hd,vs,rel,dd⟩:=abe I.hok e
    have hz:vs.length≤sizeLine:=by rw [← rel.length]; exact z
    have hl:(putK kvs k v).length≤sizeLine:=by have:=Ks kvs k v; omega
    refine wpAny_setItem_pairs (hsz:=hz) (Sd ry) dd fun h' dd' hs=>h _ ?_
    have he:∃ q,h'.get? a=some q:=let ⟨q,_,_,hq,_⟩:=dd'; ⟨q,hq⟩
    exact Yh I (by rw [e]; exact True.intro) hs he (Vd hl hd (rel.put k rv) dd')
  · subst ey eH
    cases (show u=Value.ref b from ry)
    obtain ⟨z,hd,xs,rel,dd⟩:=aaj I.hok e
    have hz:xs.length≤sizeLine:=by rw [← Paired.length rel]; exact z
    have hl:(putK kvs k v).length≤sizeLine:=by have:=Ks kvs k v; omega
    refine wpAny_setItem_heap (hsz:=hz) (tupleKind_room_in1 hu) (Mz I.hok eb) dd fun h' dd' hs=>h _ ?_
    obtain ⟨q,es,ep,hq,h2,h3,h4,_,h5⟩:=dd'
    refine Yh I (by rw [e]; exact True.intro) hs ⟨q,hq⟩ ⟨hl,hd,_,(rel.put k eb rv).keeps fun c ys ec=>?_,q,es,ep,hq,h2,h3,h4,h5⟩
    rw [nj (aah ec e (fun z=>nomatch z))]
    exact ec
end
noncomputable section
variable {X:Cx} {pins:List (Addr × Obj)} {σ:St} {H:Hp} {s:Shared} {a:Addr} {kvs:List (Key × V)} {k:Key} {u:Value} {A:Around} {E:Value→Shared→Prop}
theorem a9n {Q:Value→Shared→Prop} (I:Inv X pins σ H s) (e:Rd H a (.dK kvs)) (h:∀ t s',Inv X pins σ H s'→Q (.int kvs.length t) s'):wpAny (model X.prog X.w) A (call (.builtin "len") [.ref a]) Q E s:=by
  obtain ⟨z,hd,vs,rel,dd⟩:=Im I.hok e
  refine call_len_dict hd dd (by rw [← rel.length]; rw [sizeLine_eq] at z; omega) ?_
  rw [← rel.length]
  exact h _ _ (I.tok _)
end
noncomputable def aa7 (i:Expr):Prop:=∀ ov iv,subscripted i false ov iv=operate [ov,iv] (getItem ov iv)
theorem a1k {prog:Program} {w:World} {A:Around} {E:Value→Shared→Prop} {s:Shared} {env:Env} {value slice:Expr} {pos:Pos} {T id:String} {Q:Value→Shared→Prop}
    (hl:typeLookup (.type T) "__getitem__" = pure (some (.builtin id))) (hs:aa7 slice)
    (h:wpAny (model prog w) A (eval value env) (fun o s₁=>wpAny (model prog w) A (eval slice env) (fun i s₂=>s₂.TypeIs o T∧wpAny (model prog w) A (getItem o i) Q E s₂) E s₁) E s) :
    wpAny (model prog w) A (eval (.Subscript value slice pos) env) Q E s:=by
  refine Subscript_ (wpAny_mono h (fun o s₁ h₁=>wpAny_mono h₁ (fun i s₂ h₂=>?_) fun _ _ x=>x) fun _ _ x=>x)
  obtain ⟨hT,h₂⟩:=h₂
  unfold subscriptTail
  refine wpAny_bind ?_
  rw [getitemInPython_of_ne hT.not_modules]
  refine wpAny_bind (wpAny_specialOf hT hl ?_)
  have fin:wpAny (model prog w) A (subscripted slice false o i) (fun r s₃=>wpAny (model prog w) A (letTemporaryGo value o r >>= fun _=>pure r) Q E s₃) E s₂:=by
    rw [hs o i]
    exact wpAny_operating (wpAny_mono h₂ (fun r s₃ h₃=>wpAny_bind (wpAny_letTemporaryGo (wpAny_pure h₃))) fun _ _ x=>x)
  first
    | exact wpAny_pure (wpAny_bind fin)
    | exact wpAny_bind (wpAny_pure (wpAny_bind fin))
    | exact wpAny_bind fin
theorem U8 {X:Cx} {pins:List (Addr × Obj)} {σ:St} {H:Hp} {s:Shared} {a:Addr} {y:V} {o:Option V} (I:Inv X pins σ H s) (g:Xy H a y o):s.TypeIs (.ref a) "dict" := by
  rcases g with ⟨kvs,k,e,_,_⟩ | ⟨kvs,k,b,e,_,_,_⟩
  · obtain ⟨_,_,vs,_,dd⟩:=Im I.hok e
    exact dd.typeIs
  · obtain ⟨_,_,xs,_,dd⟩:=Ox I.hok e
    exact dd.typeIs
noncomputable def aao (td ty tv:TE):TS:=fun D σ H=>tv σ H fun v H1=>td σ H1 fun x H2=>ty σ H2 fun y H3=>∃ a H4,x=.ref a∧a5t H3 a y v H4∧D.nx σ H4
noncomputable section
variable {X:Cx} {o i e value:Expr} {pos pos' tpos:Pos} {td ty tv:TE}
theorem Ym (hu:X.A.units+1<cLine) (ho:PE X o td) (hi:PE X i ty) (hv:PE X value tv) (hs:swapsWith value (some (.Subscript o i pos')) pos.line X.env=pure false) :
    PS X (.Assign [.Subscript o i pos'] value pos) (aao td ty tv):=by
  intro pins s σ H D I h
  refine wpAny_Assign_Subscript (thn (hv pins s σ H _ I h) fun r s1 ⟨v,H1,I1,rv,q1⟩=>thn (ho pins s1 σ H1 _ I1 q1) fun u s2 ⟨x,H2,I2,rx,q2⟩=>thn (hi pins s2 σ H2 _ I2 q2) fun iv s3 ⟨y,H3,I3,ry,a,H4,ex,g,q3⟩=>?_) hs
  subst ex
  obtain rfl:u=Value.ref a:=rx
  exact Z4 hu I3 g ry rv fun s4 I4=>⟨σ,H4,I4,q3⟩
end
theorem a2o {P:Program} {w:World} {H:Hp} (h:Heap) (hb:sysModules<h.objs.size):Ab P w H (h.push { cls:=.type "dict",data:=.dict #[] }) h.objs.size (.dK []) :=
  ⟨Nat.zero_le _,beq_eq_false_iff_ne.mpr (Ne.symm (Nat.ne_of_lt hb)),[],.nil,Heap.DictOf.new h⟩
theorem a3i {P:Program} {w:World} {H:Hp} (h:Heap) (hb:sysModules<h.objs.size):Ab P w H (h.push { cls:=.type "dict",data:=.dict #[] }) h.objs.size (.dT []) :=
  ⟨Nat.zero_le _,beq_eq_false_iff_ne.mpr (Ne.symm (Nat.ne_of_lt hb)),[],.nil,_,#[],0,Heap.get?_push_size _ rfl,⟨rfl,rfl,rfl⟩,rfl,rfl,List.nodup_nil⟩
noncomputable def a97:TE:=fun _ H Q=>∀ p,H p=none→Q (.ref p) (upd H p (.dK []))
noncomputable def a8n:TE:=fun _ H Q=>∀ p,H p=none→Q (.ref p) (upd H p (.dT []))
noncomputable section
variable {X:Cx} {pos:Pos}
theorem a2l:PE X (.Dict [] [] pos) a97:=fun pins s σ H Q I h =>
  wpAny_Dict_empty ⟨.ref s.heap.objs.size,_,I.laid (a:=s.heap.objs.size) (o:=.dK []) (t':=s.toks) (fun _ _ q=>Heap.get?_push_of_some _ q) (Nat.le_refl _) (a2o s.heap I.big),rfl,h _ (I.hok.fresh (Nat.le_refl _))⟩
theorem a4b:PE X (.Dict [] [] pos) a8n:=fun pins s σ H Q I h =>
  wpAny_Dict_empty ⟨.ref s.heap.objs.size,_,I.laid (a:=s.heap.objs.size) (o:=.dT []) (t':=s.toks) (fun _ _ q=>Heap.get?_push_of_some _ q) (Nat.le_refl _) (a3i s.heap I.big),rfl,h _ (I.hok.fresh (Nat.le_refl _))⟩
end
structure M1 (X:Cx) (o:Expr) (m:Str) (apos:Pos) (e:Expr) (cpos:Pos):Prop where
  base:attributeBase o m X.env (eval o X.env)=eval o X.env
  few:((backTo cpos (starEach [e] X.env)).all (fun x=>!x.1)&&(backToKw cpos (keywordEach [] X.env)).all (fun x=>x.1.isSome)
    && decide (([e]:List Expr).length+([]:List Keyword).length+(if ([]:List Keyword).isEmpty then 0 else 1)<30))=true
  line:(apos.endLine==cpos.line)=true
  trees:backTo cpos (starEach [e] X.env)=[(false,eval e X.env)]
structure M2 (X:Cx) (o:Expr) (m:Str) (apos:Pos) (e f:Expr) (cpos:Pos):Prop where
  base:attributeBase o m X.env (eval o X.env)=eval o X.env
  few:((backTo cpos (starEach [e,f] X.env)).all (fun x=>!x.1)&&(backToKw cpos (keywordEach [] X.env)).all (fun x=>x.1.isSome)
    && decide (([e,f]:List Expr).length+([]:List Keyword).length+(if ([]:List Keyword).isEmpty then 0 else 1)<30))=true
  line:(apos.endLine==cpos.line)=true
  trees:backTo cpos (starEach [e,f] X.env)=[(false,eval e X.env),(false,eval f X.env)]
noncomputable def IsD (H:Hp) (a:Addr):Prop:=(∃ kvs,Rd H a (.dK kvs))∨∃ kvs,Rd H a (.dT kvs)
theorem a93 {X:Cx} {pins:List (Addr × Obj)} {σ:St} {H:Hp} {s:Shared} {a:Addr} (I:Inv X pins σ H s) (d:IsD H a) :
    s.TypeIs (.ref a) "dict" ∧ (∀ b,Value.ref a=.ref b→∃ ob,s.heap.get? b=some ob∧ob.dict=none)∧(a==sysModules)=false:=by
  rcases d with ⟨kvs,e⟩ | ⟨kvs,e⟩
  · obtain ⟨_,hd,vs,_,dd⟩:=Im I.hok e
    refine ⟨dd.typeIs,fun b q=>?_,hd⟩
    cases q
    obtain ⟨ob,_,_,h1,h2,_⟩:=dd
    exact ⟨ob,h1,h2.2.1⟩
  · obtain ⟨_,hd,xs,_,dd⟩:=Ox I.hok e
    refine ⟨dd.typeIs,fun b q=>?_,hd⟩
    cases q
    obtain ⟨ob,_,_,h1,h2,_⟩:=dd
    exact ⟨ob,h1,h2.2.1⟩
noncomputable section
variable {X:Cx} {pins:List (Addr × Obj)} {σ:St} {H:Hp} {s:Shared} {a:Addr} {y d:V} {u r:Value} {o:Option V} {A:Around} {E:Value→Shared→Prop}
theorem a85 {Q:Value→Shared→Prop} (hu:A.units+1<cLine) (I:Inv X pins σ H s) (g:Xy H a y o) (ry:RelV y u) (rd:RelV d r) (h:∀ w' s',Inv X pins σ H s'→RelV (o.getD d) w'→Q w' s') :
    wpAny (model X.prog X.w) A (call (.builtin "dict.get") [.ref a,u,r]) Q E s:=by
  rcases g with ⟨kvs,k,e,ey,l⟩ | ⟨kvs,k,b,e,ey,eb,l⟩
  · subst ey
    obtain ⟨z,hd,vs,rel,dd⟩:=Im I.hok e
    refine call_meetsIn PySem.F.slot_dict_get dd.typeIs PySem.F.entry_dict_get (PySem.F.args_dict_get_3 _ _ _) (meets_dict_get_default (qu X.prog X.w) a (Sd ry) hd r) ⟨_,dd.mapOf,h _ _ (I.tok _) ?_⟩
    rw [l]
    exact (rel.val k).getD rd
  · subst ey
    cases (show u=Value.ref b from ry)
    obtain ⟨z,hd,xs,rel,dd⟩:=Ox I.hok e
    refine call_meetsIn PySem.F.slot_dict_get dd.typeIs PySem.F.entry_dict_get (PySem.F.args_dict_get_3 _ _ _) (meetsH_dict_get_default (tupleKind (qu X.prog X.w)) a b hd r) ⟨tupleKind_room_in1 hu,k,xs,Mz I.hok eb,dd,h _ _ (I.tok _) ?_⟩
    rw [l]
    exact (rel.val k).getD rd
end
noncomputable def a9f (td ty tx:TE):TE:=fun σ H Q=>td σ H fun x H1=>∃ a,x=.ref a∧IsD H1 a∧ty σ H1 fun y H2=>tx σ H2 fun z H3=>∃ o,Xy H3 a y o∧Q (o.getD z) H3
noncomputable section
variable {X:Cx} {o e f:Expr} {apos cpos:Pos} {td ty tx:TE}
theorem Vm (hu:X.A.units+1<cLine) (ho:PE X o td) (he:PE X e ty) (hf:PE X f tx) (m:M2 X o "get" apos e f cpos):PE X (.Call (.Attribute o "get" apos) [e,f] [] cpos) (a9f td ty tx):=by
  intro pins s σ H Q I h
  refine wpAny_Call_method m.base m.few m.line PySem.F.plainAttrs_dict PySem.F.slot_dict_get PySem.F.type_dict_get (thn (ho pins s σ H _ I h) fun u s1 z0=>?_)
  obtain ⟨x,H1,I1,rx,a,ex,d,q1⟩:=z0
  subst ex
  obtain rfl:u=Value.ref a:=rx
  obtain ⟨t1,t2,_⟩:=a93 I1 d
  refine ⟨t1,t2,?_⟩
  rw [m.trees]
  refine Calls.callWith_builtin rfl (Calls.evalArgs_plain (Calls.spliced_cons (thn (he pins s1 σ H1 _ I1 q1) fun iv s2 ⟨y,H2,I2,ry,q2⟩ =>
    Calls.spliced_cons (thn (hf pins s2 σ H2 _ I2 q2) fun fv s3 ⟨z,H3,I3,rz,ov,g,q3⟩=>Calls.spliced_nil ?_))))
  exact a85 hu I3 g ry rz fun w' s4 I4 rw'=>⟨_,H3,I4,rw',q3⟩
end
noncomputable section
variable {X:Cx} {pins:List (Addr × Obj)} {σ:St} {H:Hp} {s:Shared} {a:Addr} {kvs:List (Key × V)} {A:Around} {E:Value→Shared→Prop}
theorem Wb {Q:Value→Shared→Prop} (I:Inv X pins σ H s) (e:Rd H a (.dK kvs)) (h:∀ p s',H p=none→Inv X pins σ (upd H p (.dK kvs)) s'→Q (.ref p) s'):wpAny (model X.prog X.w) A (call (.type "dict") [.ref a]) Q E s:=by
  obtain ⟨z,hd,vs,rel,dd⟩:=Im I.hok e
  refine kt_call_dict hd dd (by rw [← rel.length]; exact z) fun h' dd' hs=>?_
  refine h _ _ (I.hok.fresh (Nat.le_refl _)) (I.laid (a:=s.heap.objs.size) (o:=.dK kvs) (t':=s.toks) (fun b q hq=>?_) (Nat.le_refl _) (Vd z (beq_eq_false_iff_ne.mpr (Ne.symm (Nat.ne_of_lt I.big))) rel dd'))
  exact (hs.2 b (Nat.ne_of_lt (Heap.lt_size hq))).trans (Heap.get?_push_of_some _ hq)
end
noncomputable section
variable {X:Cx} {pins:List (Addr × Obj)} {σ:St} {H:Hp} {s:Shared} {a:Addr} {y:V} {u:Value} {A:Around} {E:Value→Shared→Prop}
end
end L2
end
noncomputable section
set_option linter.all false
set_option maxRecDepth 100000
namespace Att
open PySem PySem.W PySem.Calls PyProof.Rows
theorem Kl {P:Params} {h:Heap}:∀ (ns:List Int) (vs:List Value),WellAll P h vs (ns.map WData.int)→IntsAre vs ns:=by
  intro ns
  induction ns with
  | nil =>
    intro vs w
    rw [List.map_nil] at w
    cases w
    exact .nil
  | cons n ns ih =>
    intro vs w
    rw [List.map_cons] at w
    cases w with
    | cons a b =>
      cases a
      exact .cons _ _ (ih _ b)
theorem a1m {l:OpenLaw} {n:Nat} (hn:l.most=some n) {P:Params} {h:Heap} {args:List WData} {vals:List Value}
    (hpre:l.row.toRowW.claim.pre args=true) (hwl:WellAll P h vals args) :
    ∃ a vs ns,vals=[Value.ref a]∧args=[WData.list (ns.map WData.int)]∧h.get? a=some { cls:=.type "list",data:=.seq vs.toArray }∧IntsAre vs ns∧ns.length≤n:=by
  have hsh:WShape.hasAll [] args [.list .int]=true:=(pre_splitW hpre).1
  have hc:l.pre.holds [] { args:=args } = true:=(pre_splitW hpre).2
  obtain ⟨d,r,rfl,h1,h2⟩:=hasAllW_cons hsh
  obtain rfl:=hasAllW_nil h2
  obtain ⟨xs,rfl,h3⟩:=hasW_list h1
  obtain ⟨ns,rfl⟩:=items_int h3
  have hlen:ns.length≤n:=by
    unfold OpenLaw.pre at hc
    have h4:(WTm.not (.lt (.lit (.int (n:Int))) (.len (.arg 0)))).holds [] { args:=[.list (ns.map .int)] } = true:=by
      have h4:=(holds_andW hc).1
      rw [hn] at h4
      exact h4
    have h5:=condW_of h4 (w_not (w_lt w_lit (w_len_list (w_arg rfl))))
    rw [List.length_map] at h5
    refine Nat.le_of_not_lt fun q=>?_
    have q':(n:Int)<((ns.length:Nat):Int):=by omega
    first
      | (rw [decide_eq_true q'] at h5; exact absurd h5 (by decide))
      | (simp at h5; omega)
  cases hwl with
  | cons w1 w2 =>
    cases w2
    cases w1 with
    | list ho hall=>exact ⟨_,_,ns,rfl,rfl,ho,Kl ns _ hall,hlen⟩
theorem a06 (l:OpenLaw) (args:List WData):l.row.toRowW.claim.post args (.bool true) args=true :=
  postW_of (r:=l.row.toRowW) (X:=(true==true))
    (show WShape.has [] (.bool true) .bool=true by first | rfl | decide | simp [WShape.has,WShape.arms,WShape.armsAll])
    (show (WTm.eq .res (.lit (.bool true))).value [] { args:=args,res:=some (.bool true),after:=args } = some (.bool (true==true)) from w_eq_bool (w_res rfl) w_lit) rfl
theorem U0 {l:OpenLaw} {n:Nat} {q:Program} {loose:List Str} {XP:(Str→Option Value)→Heap→Prop} {YP:World→Heap→Prop} {d:DefRec}
    (hn:l.most=some n) (hdf:d.params.defaults=[])
    (call:∀ (w:World) (s₀ s₁:Shared) (mg mb:Str→Option Value) (fa:Addr) (o:Obj) (pm cd doc:Value) (a:Addr) (vs:List Value) (ns:List Int),
      Ground q loose [] XP w s₀ mg mb s₁.heap→YP w s₁.heap →
      s₁.heap.get? fa=some o→o.data=.func (docDef d.name d.params d.body d.scope pm cd doc)→s₁.heap.CodeRec cd d.name→mg d.name=some (.ref fa) →
      s₁.heap.get? a=some { cls:=.type "list",data:=.seq vs.toArray }→IntsAre vs ns→ns.length≤n→s₁.gens = #[] →
      codeAny (model l.prog w) callerA (.call (.ref fa) ⟨[.ref a],[]⟩) (fun r s'=>r=.ok (.ret (.bool true))∧OldK s₁.heap s'.heap∧s'.os=s₁.os∧AllBare s'.gens) s₁) :
    WalkO q loose XP YP l.row.toRowW d [] (fun f vs=>PySem.call f vs):=by
  intro w s₀ s₁ mg mb G Y fa o pm cd doc dV kV ho hd hcd hD hmg hg args vals as hpre hlay hrd hwl hlo
  obtain rfl:dV=.none:=Dflts.none hD hdf
  obtain rfl:kV=.none:=Dflts.noKw hD
  obtain ⟨a,vs,ns,rfl,rfl,hobj,hints,hlen⟩:=a1m hn hpre hwl
  refine enter_call (codeAny_mono (call w s₀ s₁ mg mb fa o pm cd doc a vs ns G Y ho (fd_plain hd) hcd hmg hobj hints hlen hg) fun r s' hq=>?_)
  obtain ⟨rfl,h2,h3,h4⟩:=hq
  exact ⟨.inl ⟨.bool true,.bool true,[],rfl,fun _=>rfl,.bool true,a06 l _,fun _=>⟨List.Pairwise.nil,fun _ hm=>(nomatch hm)⟩⟩,h2,h3,h4⟩
noncomputable section
variable {prog:Program} {w:World} {A:Around} {E:Value→Shared→Prop} {s:Shared} {K:Frag}
end
end Att
namespace L2
open PySem PySem.Spec PyProof.Rows
theorem Qc:∀ {vs:List Value} {ns:List Int},IntsAre vs ns→Vals (ns.map V.int) vs
  | _,_,.nil=>.nil
  | _,_,.cons n t h=>.cons ⟨t,rfl⟩ (Qc h)
noncomputable def Only (H:Hp):Prop:=∀ b,H b=none∨∃ o xs,H b=some (.frz o (.lst xs))
theorem a3j {P:Program} {w:World} {K:PySem.W.Frag} {mg mb:Str→Option Value} {CX:CXT} {k:Nat} {fa a:Addr} {fd:FuncData} {x:Str} {sp:Sp} {s₁:Shared} {vs:List Value} {ns:List Int}
    (KX:K.In s₁.heap) (hns:s₁.heap.Ns mainGlobals mg) (hb:s₁.heap.Ns builtinsNs mb) (hbb:∀ x:Str,x ≠ "__name__" → mb x=bootBuiltins x) (hlim:s₁.heap.NoLimit) (hg:s₁.gens = #[])
    (ha:s₁.heap.get? a=some { cls:=.type "list",data:=.seq vs.toArray }) (hi:IntsAre vs ns) (hl:ns.length≤sizeLine) (hr:K3 k callerA)
    (F:∀ base:Heap,K.In base→base.Ns mainGlobals mg→zy P w K mg base CX k fa fd [x] sp) (hbind:∀ (s:Shared) (u:Value),BindsTo s fd ⟨[u],[]⟩ [(x,u)])
    (hsp:∀ H:Hp,Only H→SqL K H a (ns.map V.int)→sp [.ref a] H (fun v _=>v=.bl true) fun _ _ _=>False)
    (hCX:∀ H e s',CX [] H s₁ (fun _ _ _=>False) e s'→False) :
    codeAny (model P w) callerA (.call (.ref fa) ⟨[.ref a],[]⟩) (fun r s'=>r=.ok (.ret (.bool true))∧OldK s₁.heap s'.heap∧s'.os=s₁.os∧AllBare s'.gens) s₁:=by
  have rv:=Qc hi
  have lenV:=hi.length
  have core:∀ H:Hp,Only H→SqL K H a (ns.map V.int)→HOk P w H s₁.heap→(∀ b,H b≠none→b=a)→(H a≠none→K.lookup a=none) →
      codeAny (model P w) callerA (.call (.ref fa) ⟨[.ref a],[]⟩) (fun r s'=>r=.ok (.ret (.bool true))∧OldK s₁.heap s'.heap∧s'.os=s₁.os∧AllBare s'.gens) s₁:=by
    intro H hO hS hok hA hK
    have base_of:∀ {b:Addr} {o:Obj},s₁.heap.get? b=some o→H b=none→(a3b s₁.heap H).get? b=some o:=fun e n=>a2y e n
    have noA:∀ {b:Addr} {o:Obj} {es:Array DictEntry} {ep:Nat},s₁.heap.get? b=some o→o.data=.dict es ep→H b=none:=fun {b o es ep} e d=>by
      cases q:H b with
      | none=>rfl
      | some u =>
        have e':b=a:=hA b (by rw [q]; simp)
        subst e'
        rw [ha] at e; cases e
        have d':Data.seq vs.toArray _=Data.dict es ep:=d
        cases d'
    have nsK:∀ {b:Addr} {m:Str→Option Value},s₁.heap.Ns b m→(a3b s₁.heap H).Ns b m:=fun {b m} ⟨o,es,ep,e,d,r⟩=>⟨o,es,ep,base_of e (noA e d),d,r⟩
    have hKb:K.In (a3b s₁.heap H):=fun b o e=>base_of (KX b o e) (by
      cases q:H b with
      | none=>rfl
      | some u =>
        have e':b=a:=hA b (by rw [q]; simp)
        subst e'
        rw [hK (by rw [q]; simp)] at e; cases e)
    have hM:Mod K mg (a3b s₁.heap H):=⟨hKb,nsK hns,⟨mb,nsK hb,hbb⟩,let ⟨mc,h1,h2⟩:=hlim; ⟨mc,nsK h1,h2⟩⟩
    have e0:aa2 P w K mg (a3b s₁.heap H) callerA [] s₁ H:=⟨rfl,hM,fun b o e=>a7j e,Nat.le_of_eq (Y8 _ _),trivial,fun b hb=>absurd (show b∈([]:List Addr) from hb) (by simp),hok,.of_eq hg⟩
    refine codeAny_mono ((F _ hKb (nsK hns)).run callerA [] s₁ H ⟨[.ref a],[]⟩ [.ref a] [.ref a] _ _ hr e0 (hbind s₁ (.ref a)) (.cons rfl .nil) (hsp H hO hS)) fun r s' h=>?_
    cases r with
    | error e=>exact (hCX H e s' h).elim
    | ok fl =>
      cases fl with
      | next=>exact False.elim h
      | brk=>exact False.elim h
      | cont=>exact False.elim h
      | ret u =>
        obtain ⟨v,H',os,bare,un,hok',r',q⟩:=h
        have q':v=.bl true:=q
        subst q'
        obtain rfl:u=Value.bool true:=r'
        refine ⟨rfl,OldK.of_keep fun b o e=>?_,os,bare⟩
        cases q:H b with
        | none=>exact un.keep b o e q (by intro z; exact absurd (show b∈([]:List Addr) from z) (by simp)) (by simp)
        | some u =>
          rcases hO b with z | ⟨ob,xs,z⟩
          · rw [q] at z; cases z
          · have z2:=un.frzs b ob _ z
            obtain ⟨e1,_⟩:=hok b _ z
            obtain ⟨e2,_⟩:=hok' b _ z2
            rw [e] at e1; cases e1
            exact e2
  cases hk:K.lookup a with
  | some o =>
    have e:=KX a o hk
    rw [ha] at e
    cases e
    refine core (fun _=>none) (fun _=>.inl rfl) (.inr ⟨_,vs.toArray,_,hk,rfl,rfl,rfl,by rw [List.size_toArray,lenV]; exact hl,by simpa using rv⟩) (fun b u z=>by have z':(none:Option HO)=some u:=z; cases z') (fun b z=>absurd rfl z) fun z=>absurd rfl z
  | none =>
    refine core (fun b=>if b=a then some (.frz { cls:=.type "list",data:=.seq vs.toArray } (.lst (ns.map V.int))) else none) (fun b=>?_) (.inl (.inr ⟨{ cls:=.type "list",data:=.seq vs.toArray },if_pos rfl⟩)) (fun b u z=>?_) (fun b z=>?_) fun _=>hk
    · by_cases hb:b=a
      · exact .inr ⟨_,_,if_pos hb⟩
      · exact .inl (if_neg hb)
    · by_cases hb:b=a
      · have z':=(if_pos hb).symm.trans z
        cases z'
        subst hb
        exact ⟨ha,by rw [List.length_map]; exact hl,vs,_,rv,ha⟩
      · have z':=(if_neg hb).symm.trans z
        cases z'
    · by_cases hb:b=a
      · exact hb
      · exact absurd (if_neg hb) z
end L2
namespace L2
open PySem PySem.Spec PyProof.Rows
theorem a7a {l:PySem.W.OpenLaw} {n k:Nat} {q:Program} {loose:List Str} {XP:(Str→Option Value)→Heap→Prop} {YP:World→Heap→Prop} {d:DefRec} {K:Params→PySem.W.Frag} {CX:World→CXT} {sp:World→Sp} {x:Str}
    (hn:l.most=some n) (hn2:n≤sizeLine) (hdf:d.params.defaults=[]) (hr:K3 k callerA)
    (hY:∀ (w:World) (h:Heap),YP w h→(K w.params).In h)
    (F:∀ (w:World) (mg:Str→Option Value) (fa:Addr) (h:Heap),(K w.params).In h→h.Ns mainGlobals mg→mg d.name=some (.ref fa) →
      ∃ fd:FuncData,(∀ (s:Shared) (u:Value),BindsTo s fd ⟨[u],[]⟩ [(x,u)]) ∧
        ∀ base:Heap,(K w.params).In base→base.Ns mainGlobals mg→zy l.prog w (K w.params) mg base (CX w) k fa fd [x] (sp w))
    (hsp:∀ (w:World) (H:Hp) (a:Addr) (ns:List Int),ns.length≤n→Only H→SqL (K w.params) H a (ns.map V.int)→sp w [.ref a] H (fun v _=>v=.bl true) fun _ _ _=>False)
    (hCX:∀ (w:World) (H:Hp) (s:Shared) (e:Value) (s':Shared),CX w [] H s (fun _ _ _=>False) e s'→False) :
    PySem.W.WalkO q loose XP YP l.row.toRowW d [] (fun f vs=>PySem.call f vs):=by
  refine Att.U0 hn hdf fun w s₀ s₁ mg mb fa o pm cd doc a vs ns G Y ho hd hcd hmg hobj hints hlen hg=>?_
  have KX:=hY w _ Y
  obtain ⟨fd,hb,hF⟩:=F w mg fa _ KX G.T.g hmg
  exact a3j KX G.T.g G.T.b G.T.builtins G.T.nolimit hg hobj hints (Nat.le_trans hlen hn2) hr hF hb (fun H hO hS=>hsp w H a ns hlen hO hS) fun H e s'=>hCX w H s₁ e s'
end L2
namespace L2
open PySem PySem.Spec PyProof.Rows
noncomputable def El (s:Stmt):Arguments:=match s with
  | .FunctionDef _ a _ _ _ _ _ _ _ _=>a
  | _=>{ posonlyargs:=[],args:=[],vararg:=none,kwonlyargs:=[],kw_defaults:=[],kwarg:=none,defaults:=[] }
noncomputable def Bq (s:Stmt):List Stmt:=match s with
  | .FunctionDef _ _ b _ _ _ _ _ _ _=>b
  | _=>[]
noncomputable def j7 (s:Stmt):Scope:=match s with
  | .FunctionDef _ _ _ _ _ _ sc _ _ _=>sc
  | _=>{ kind:=.function,names:=[],isGenerator:=false,isCoroutine:=false }
noncomputable abbrev CX0:CXT:=fun _ _ _ _ _ _=>False
noncomputable abbrev E0:XK:=fun _ _ _=>False
theorem a90 {X:Cx}:Passes CX0 X E0:=fun _ _ _ _ _ _ _ h=>h.elim
structure Fun (K:PySem.W.Frag) (x qual:Str) (st:Stmt) (f:Addr) (fd:FuncData):Prop where
  ex:∃ (oc:Value) (od:Option Addr) (kV doc pm:Value) (an:Option Addr) (cdv ct:Value) (osl:Array (Option Value)),
    fd=PySem.W.fnOf x qual (El st) (Bq st) (j7 st) .none kV doc pm an cdv ct∧K.lookup f=some ⟨oc,od,.func fd,osl⟩∧PySem.W.codeIn K cdv qual=true
  kp:PySem.W.keepIn K (.ref f)=true
noncomputable section
variable {P:Program} {w:World} {K:PySem.W.Frag} {mg:Str→Option Value} {base:Heap}
theorem Fun.ok {x qual:Str} {st:Stmt} {f:Addr} {fd:FuncData} {N ps:List Str} {k:Nat} {sp:Sp} (F:Fun K x qual st f fd) (S:jx N ps (j7 st)) (len:∀ vs H Q E,sp vs H Q E→vs.length=ps.length)
    (hbody:∀ (cdv:Value) (A:Around) (outer:List Env) (s:Shared) (H:Hp) (vs:List V) (Q:VK) (E:XK),K3 k (A.deeper (envOfC qual (j7 st) s.heap.objs.size f cdv))→sp vs H Q E →
      ∃ t,PSs (a4t CX0 P w K mg base N qual (j7 st) f cdv A outer s H E).nox (Bq st) t∧t { nx:=fun _ H'=>Q .non H',rt:=Q } (start N vs) H):zy P w K mg base CX0 (k+1) f fd ps sp:=by
  obtain ⟨oc,od,kV,doc,pm,an,cdv,ct,osl,rfl,lk,hcd⟩:=F.ex
  refine aad lk hcd S len fun A outer s H vs Q E hr hsp=>?_
  obtain ⟨t,h,q⟩:=hbody cdv A outer s H vs Q E hr hsp
  exact ⟨t,h.nox,q⟩
theorem Fun.binds {x qual:Str} {st:Stmt} {f:Addr} {fd:FuncData} {ps:List Str} (F:Fun K x qual st f fd)
    (h:∀ (kV doc pm:Value) (an:Option Addr) (cdv ct:Value) (us:List Value),us.length=ps.length→bindArgs (PySem.W.fnOf x qual (El st) (Bq st) (j7 st) .none kV doc pm an cdv ct) ⟨us,[]⟩=pure (ps.zip us)):Binds K fd ps []:=by
  obtain ⟨oc,od,kV,doc,pm,an,cdv,ct,osl,rfl,lk,hcd⟩:=F.ex
  exact .all (h kV doc pm an cdv ct)
theorem bd1 {fd:FuncData} {ps:List Str} (h:∀ a,bindArgs fd ⟨[a],[]⟩=pure (ps.zip [a])) (us:List Value) (hl:us.length=1):bindArgs fd ⟨us,[]⟩=pure (ps.zip us):=by
  cases us with
  | nil=>exact nomatch hl
  | cons a us =>
  cases us with
  | cons _ _=>simp at hl
  | nil=>exact h a
theorem bd2 {fd:FuncData} {ps:List Str} (h:∀ a b,bindArgs fd ⟨[a,b],[]⟩=pure (ps.zip [a,b])) (us:List Value) (hl:us.length=2):bindArgs fd ⟨us,[]⟩=pure (ps.zip us):=by
  cases us with
  | nil=>exact nomatch hl
  | cons a us =>
  cases us with
  | nil=>exact nomatch hl
  | cons b us =>
  cases us with
  | cons _ _=>simp at hl
  | nil=>exact h a b
theorem bd3 {fd:FuncData} {ps:List Str} (h:∀ a b c,bindArgs fd ⟨[a,b,c],[]⟩=pure (ps.zip [a,b,c])) (us:List Value) (hl:us.length=3):bindArgs fd ⟨us,[]⟩=pure (ps.zip us):=by
  cases us with
  | nil=>exact nomatch hl
  | cons a us =>
  cases us with
  | nil=>exact nomatch hl
  | cons b us =>
  cases us with
  | nil=>exact nomatch hl
  | cons c us =>
  cases us with
  | cons _ _=>simp at hl
  | nil=>exact h a b c
theorem bd4 {fd:FuncData} {ps:List Str} (h:∀ a b c d,bindArgs fd ⟨[a,b,c,d],[]⟩=pure (ps.zip [a,b,c,d])) (us:List Value) (hl:us.length=4):bindArgs fd ⟨us,[]⟩=pure (ps.zip us):=by
  cases us with
  | nil=>exact nomatch hl
  | cons a us =>
  cases us with
  | nil=>exact nomatch hl
  | cons b us =>
  cases us with
  | nil=>exact nomatch hl
  | cons c us =>
  cases us with
  | nil=>exact nomatch hl
  | cons d us =>
  cases us with
  | cons _ _=>simp at hl
  | nil=>exact h a b c d
theorem bd5 {fd:FuncData} {ps:List Str} (h:∀ a b c d e,bindArgs fd ⟨[a,b,c,d,e],[]⟩=pure (ps.zip [a,b,c,d,e])) (us:List Value) (hl:us.length=5):bindArgs fd ⟨us,[]⟩=pure (ps.zip us):=by
  cases us with
  | nil=>exact nomatch hl
  | cons a us =>
  cases us with
  | nil=>exact nomatch hl
  | cons b us =>
  cases us with
  | nil=>exact nomatch hl
  | cons c us =>
  cases us with
  | nil=>exact nomatch hl
  | cons d us =>
  cases us with
  | nil=>exact nomatch hl
  | cons e us =>
  cases us with
  | cons _ _=>simp at hl
  | nil=>exact h a b c d e
theorem a5g {x qual:Str} {st:Stmt} {f:Addr} {oc:Value} {od an:Option Addr} {osl:Array (Option Value)} {kV doc pm cdv ct:Value} (l:K.lookup f=some ⟨oc,od,.func (PySem.W.fnOf x qual (El st) (Bq st) (j7 st) .none kV doc pm an cdv ct),osl⟩)
    (c:PySem.W.codeIn K cdv qual=true) (k:PySem.W.keepIn K (.ref f)=true):Fun K x qual st f (PySem.W.fnOf x qual (El st) (Bq st) (j7 st) .none kV doc pm an cdv ct):=⟨⟨oc,od,kV,doc,pm,an,cdv,ct,osl,rfl,l,c⟩,k⟩
end
theorem wj {A:Around} {k:Nat} (hr:K3 k A):A.units+1<cLine:=Nat.lt_of_le_of_lt (Nat.add_le_add_left (by decide:1≤64) _) hr.units
theorem Hs {n:Nat} (h:n≤1000):n<sizeLine:=Nat.lt_of_le_of_lt h (by decide)
noncomputable section
variable {X:Cx}
theorem pv (i:Nat) {x:Str} {pos:Pos} (hN:X.N[i]? = some x:=by rfl) (hv:Vis X.env.scope x:=by first | exact Or.inl rfl | exact Or.inr (Or.inl rfl) | exact Or.inr (Or.inr rfl)) (hd:(x==("__debug__" : Str))=false:=by decide)
    (hcd:(x==("__classdict__" : Str))=false:=by decide):PE X (.Name x pos) (W3 i):=a8l hN hv hd hcd
end
theorem a7m {A B:Prop} (h:B):if false=true then A else B:=by
  rw [if_neg Bool.false_ne_true]
  exact h
theorem a7r {A B:Prop} (h:A):if true=true then A else B:=by
  rw [if_pos rfl]
  exact h
noncomputable def Same (H H':Hp):Prop:=∀ b o,H b=some o→H' b=some o
theorem Same.refl (H:Hp):Same H H:=fun _ _ h=>h
theorem Same.trans {H H1 H2:Hp} (a:Same H H1) (b:Same H1 H2):Same H H2:=fun c o h=>b c o (a c o h)
theorem Same.free {H H':Hp} (e:Same H H') {l:Addr} (h:H' l=Option.none):H l=Option.none:=by
  cases q:H l with
  | none=>rfl
  | some o =>
    rw [e l o q] at h
    cases h
theorem Same.seq {K:PySem.W.Frag} {H H':Hp} {a:Addr} {xs:List V} (e:Same H H') (h:SqL K H a xs):SqL K H' a xs:=by
  rcases h with (h | ⟨o,h⟩) | h
  · exact .inl (.inl (e _ _ h))
  · exact .inl (.inr ⟨o,e _ _ h⟩)
  · exact .inr h
end L2
end
noncomputable section
set_option linter.all false
set_option maxRecDepth 100000
namespace L2
open PySem PySem.Spec PyProof.Rows
noncomputable section
variable {X:Cx}
end
noncomputable section
variable {κ:Type} [DecidableEq κ]
end
end L2
end
noncomputable section
namespace C
open PySem
noncomputable abbrev Key:=Sum Int Str
inductive T where
  | non | bl (b:Bool) | int (i:Int) | str (x:Str)
  | tup (xs:List T) | lst (xs:List T) | dic (kvs:List (Key × T)) | obj (n:Nat)
instance:Inhabited T:=⟨.non⟩
inductive SO where
  | dic (kvs:List (Key × T)) | lst (xs:List T) | dit (kvs:List (List Key × T))
noncomputable abbrev Slot:=Option (T × Bool)
structure Sta where
  env:List Slot
  sto:List SO
noncomputable abbrev M (α:Type):=Sta→Option (α × Sta)
noncomputable def Lf (k:Key):List (Key × T)→Option T
  | []=>none
  | (q,t)::r=>if q=k then some t else Lf k r
noncomputable def Lh (k:Key) (t:T) (kvs:List (Key × T)):List (Key × T) :=
  if kvs.any fun p=>decide (p.1=k) then kvs.map fun p=>if p.1=k then (p.1,t) else p else kvs++[(k,t)]
noncomputable def keyOf:T→Option Key
  | .int i=>some (.inl i)
  | .str x=>some (.inr x)
  | _=>none
noncomputable def Xj:Key→T
  | .inl i=>.int i
  | .inr x=>.str x
mutual
noncomputable def dat:T→Option PyData
  | .non=>some .none
  | .bl b=>some (.bool b)
  | .int i=>some (.int i)
  | .str x=>if PyData.canLay0 (.str x) then some (.str x) else none
  | .tup xs=>(Ld xs).map .tuple
  | .lst xs=>(Ld xs).map .list
  | .dic _=>none
  | .obj _=>none
noncomputable def Ld:List T→Option (List PyData)
  | []=>some []
  | x::r=>match dat x with
    | some a=>(Ld r).map (a :: ·)
    | none=>none
end
noncomputable def eqD (a b:T):Option Bool:=match dat a with
  | some x=>match dat b with
    | some y=>if x.depth≤40 then some (PyData.eqv x y) else none
    | none=>none
  | none=>none
noncomputable def a7s:List (Key × T)→List (Key × T)→Option Bool
  | [],_=>some true
  | (k,x)::r,ys=>match Lf k ys with
    | none=>some false
    | some y=>match eqD x y with
      | some e=>(a7s r ys).map (e && ·)
      | none=>none
noncomputable def eqT:T→T→Option Bool
  | .dic a,.dic b=>if a.length=b.length then a7s a b else some false
  | x,y=>eqD x y
noncomputable def aq (t:T):M T:=fun s=>some (t,s)
noncomputable def bw (i:Nat):M T:=fun s=>match s.env[i]? with
  | some (some (t,false))=>some (t,s)
  | some (some (t,true))=>some (t,{ s with env:=s.env.set i (some (t,false)) })
  | _=>none
noncomputable def d9:M (List T):=fun s=>some ([],s)
noncomputable def ak (a:M T) (r:M (List T)):M (List T):=fun s=>match a s with
  | some (t,s1)=>match r s1 with
    | some (ts,s2)=>some (t::ts,s2)
    | none=>none
  | none=>none
noncomputable def ji:List Str→M (List T)
  | []=>d9
  | x::r=>ak (aq (.str x)) (ji r)
noncomputable def gb (f:List T→Option T) (a:M (List T)):M T:=fun s=>match a s with
  | some (ts,s1)=>match f ts with
    | some t=>some (t,s1)
    | none=>none
  | none=>none
noncomputable def mUn (f:T→Option T) (a:M T):M T:=fun s=>match a s with
  | some (t,s1)=>match f t with
    | some u=>some (u,s1)
    | none=>none
  | none=>none
noncomputable def mOp (f:T→T→Option T) (a b:M T):M T:=fun s=>match a s with
  | some (t,s1)=>match b s1 with
    | some (u,s2)=>match f t u with
      | some v=>some (v,s2)
      | none=>none
    | none=>none
  | none=>none
noncomputable abbrev Fn:=List T→List SO→Option (T × List SO)
noncomputable def dj (F:Fn) (a:M (List T)):M T:=fun s=>match a s with
  | some (ts,s1)=>match F ts s1.sto with
    | some (t,sto)=>some (t,{ s1 with sto:=sto })
    | none=>none
  | none=>none
noncomputable def gq (a:M T):M Bool:=fun s=>match a s with
  | some (.bl b,s1)=>some (b,s1)
  | _=>none
noncomputable def uc (a:M Bool):M Bool:=fun s=>match a s with
  | some (b,s1)=>some (!b,s1)
  | none=>none
noncomputable def u6 (a b:M Bool):M Bool:=fun s=>match a s with
  | some (true,s1)=>b s1
  | some (false,s1)=>some (false,s1)
  | none=>none
noncomputable def mOr (a b:M Bool):M Bool:=fun s=>match a s with
  | some (true,s1)=>some (true,s1)
  | some (false,s1)=>b s1
  | none=>none
noncomputable def jm (a:M Bool):M T:=fun s=>match a s with
  | some (b,s1)=>some (.bl b,s1)
  | none=>none
noncomputable def mIf (c:M Bool) (a b:M T):M T:=fun s=>match c s with
  | some (true,s1)=>a s1
  | some (false,s1)=>b s1
  | none=>none
noncomputable abbrev lim:Nat:=1000000
noncomputable def Dw (i:Int):Bool:=decide (-(2 ^ 64)<i∧i<2 ^ 64)
noncomputable def lu:T→T→Option T
  | .int i,.int j=>some (.int (i+j))
  | .str x,.str y=>if x.length+y.length<lim then some (.str (x++y)) else none
  | .tup x,.tup y=>if x.length+y.length<lim then some (.tup (x++y)) else none
  | .lst x,.lst y=>if x.length+y.length<lim then some (.lst (x++y)) else none
  | _,_=>none
noncomputable def tu:T→T→Option T
  | .int i,.int j=>some (.int (i - j))
  | _,_=>none
noncomputable def Jh:T→T→Option T
  | .int i,.int j=>if Dw i||Dw j then some (.int (i * j)) else none
  | .str x,.int j=>if 0≤j∧j≤1000∧x.length≤100 then some (.str ⟨((List.replicate j.toNat x.cps.toList).flatten).toArray⟩) else none
  | _,_=>none
noncomputable def m6:T→T→Option T
  | .int i,.int j=>if 0<j then some (.int (i%j)) else none
  | _,_=>none
noncomputable def fdl:Nat:=2 ^ 200
noncomputable def j6:T→T→Option T
  | .int i,.int j=>if 0<j∧(j<1073741824∨j.natAbs<fdl) then some (.int (i / j)) else none
  | _,_=>none
noncomputable def a3c:T→T→Option T
  | .int i,.int j=>if 0≤j∧j≤1000∧i.natAbs<1000 then some (.int (i ^ j.toNat)) else none
  | _,_=>none
noncomputable def qb:T→Option T
  | .int i=>some (.int (-i))
  | _=>none
noncomputable def ltT:T→T→Option T
  | .int i,.int j=>some (.bl (decide (i<j)))
  | _,_=>none
noncomputable def leT:T→T→Option T
  | .int i,.int j=>some (.bl (decide (i≤j)))
  | _,_=>none
noncomputable def eqO (x y:T):Option T:=match eqT x y with
  | some b=>some (.bl b)
  | none=>none
noncomputable def neO (x y:T):Option T:=match eqT x y with
  | some b=>some (.bl (!b))
  | none=>none
noncomputable def ixI (n:Nat) (i:Int):Option Nat:=if 0≤i then (if i<n then some i.toNat else none) else if -(n:Int)≤i then some (i+n).toNat else none
noncomputable def bx:T→T→Option T
  | .tup xs,.int i=>(ixI xs.length i).bind (xs[·]?)
  | .lst xs,.int i=>(ixI xs.length i).bind (xs[·]?)
  | .str x,.int i=>if x.length<lim then (ixI x.cps.toList.length i).bind fun j=>(x.cps.toList[j]?).map fun c=>.str ⟨#[c]⟩ else none
  | .dic kvs,k=>(keyOf k).bind (Lf · kvs)
  | _,_=>none
noncomputable def ql:List T→Option T
  | [.tup xs]=>some (.int xs.length)
  | [.lst xs]=>some (.int xs.length)
  | [.str x]=>if x.length<lim then some (.int x.length) else none
  | [.dic kvs]=>some (.int kvs.length)
  | _=>none
noncomputable def inL (x:T):List T→Option Bool
  | []=>some false
  | y::r=>match eqD y x with
    | some e=>(inL x r).map (e || ·)
    | none=>none
noncomputable def inT (x y:T):Option T:=match y with
  | .dic kvs=>(keyOf x).map fun q=>.bl (Lf q kvs).isSome
  | _=>if (dat x).isSome then (match y with
    | .tup ys=>(inL x ys).map .bl
    | .lst ys=>(inL x ys).map .bl
    | _=>none) else none
noncomputable def yp:List T→Option T
  | [.lst xs]=>some (.tup xs)
  | [.tup xs]=>some (.tup xs)
  | _=>none
noncomputable def Br:List T→Option (List (Key × T))
  | []=>some []
  | .tup [k,v]::r=>match keyOf k,Br r with
    | some q,some l=>some ((q,v)::l)
    | _,_=>none
  | _=>none
noncomputable def Bf:List T→Option T
  | [.lst xs]=>if xs.length<lim then (Br xs).map fun l=>.dic (l.foldl (fun d p=>Lh p.1 p.2 d) []) else none
  | [.tup xs]=>if xs.length<lim then (Br xs).map fun l=>.dic (l.foldl (fun d p=>Lh p.1 p.2 d) []) else none
  | [.dic kvs]=>some (.dic kvs)
  | _=>none
noncomputable def J6:List T→Option (List Str)
  | []=>some []
  | .str x::r=>(J6 r).map (x :: ·)
  | _=>none
noncomputable def Y0 (x:Str):List Str→List Str
  | []=>[x]
  | y::r=>if decide (x.cps.toList<y.cps.toList) then x::y::r else y::Y0 x r
noncomputable def Bs (l:List Str):List Str:=l.foldl (fun acc x=>Y0 x acc) []
noncomputable def Cp:List T→Option T
  | [.lst xs]=>if xs.length<64 then (J6 xs).map fun l=>.lst ((Bs l).map .str) else none
  | [.dic kvs]=>if kvs.length<64 then (J6 (kvs.map fun p=>Xj p.1)).map fun l=>.lst ((Bs l).map .str) else none
  | _=>none
noncomputable def sy:List T→Option T
  | [.int i]=>some (.int (if i<0 then -i else i))
  | _=>none
noncomputable def Js:List T→Option T
  | [.int n]=>if n.natAbs<lim then some (.lst ((List.range n.toNat).map fun (k:Nat)=>.int (k:Int))) else none
  | _=>none
noncomputable def Ei (i:Nat):M T:=fun s=>match s.env[i]? with
  | some (some (.lst xs,_))=>some (.int xs.length,s)
  | some (some (.dic xs,_))=>some (.int xs.length,s)
  | _=>none
noncomputable def O4 (i:Nat) (s:Sta):Bool:=match s.env[i]? with
  | some (some (.dic _,_))=>true
  | _=>false
noncomputable def jf (i:Nat) (s:Sta):Bool:=match s.env[i]? with
  | some (some (.lst _,_))=>true
  | _=>false
noncomputable def Eb (i:Nat) (k d:M T):M T:=fun s=>if O4 i s then (match k s with
  | some (kt,s1)=>match d s1 with
    | some (dt,s2)=>match s2.env[i]? with
      | some (some (.dic kvs,_))=>match keyOf kt with
        | some q=>some ((Lf q kvs).getD dt,s2)
        | none=>none
      | _=>none
    | none=>none
  | none=>none) else none
noncomputable def a3h:List T→Option T
  | [.dic kvs,k,d]=>(keyOf k).map fun q=>(Lf q kvs).getD d
  | _=>none
inductive Flow where
  | next | ret (t:T) | brk | cont
noncomputable abbrev S:=Sta→Option (Flow × Sta)
noncomputable def m7:S:=fun s=>some (.next,s)
noncomputable def jc (a b:S):S:=fun s=>match a s with
  | some (.next,s1)=>b s1
  | r=>r
noncomputable def jr (e:M T):S:=fun s=>match e s with
  | some (t,s1)=>some (.ret t,s1)
  | none=>none
noncomputable def sIf (c:M Bool) (a b:S):S:=fun s=>match c s with
  | some (true,s1)=>a s1
  | some (false,s1)=>b s1
  | none=>none
noncomputable def dh (i:Nat) (t:T) (own:Bool) (s:Sta):Sta:={ s with env:=s.env.set i (some (t,own)) }
noncomputable def jw (i:Nat) (e:M T):S:=fun s=>match e s with
  | some (t,s1)=>some (.next,dh i t false s1)
  | none=>none
noncomputable def sNew (i:Nat) (e:M T):S:=fun s=>match e s with
  | some (t,s1)=>some (.next,dh i t true s1)
  | none=>none
noncomputable def dz (i:Nat) (e:M T):S:=fun s=>if jf i s then (match e s with
  | some (t,s1)=>match s1.env[i]? with
    | some (some (.lst xs,true))=>if xs.length<lim then some (.next,dh i (.lst (xs++[t])) true s1) else none
    | _=>none
  | none=>none) else none
noncomputable def jh:T→Option (List T)
  | .lst xs=>some xs
  | .tup xs=>some xs
  | _=>none
noncomputable def fu (i:Nat) (e:M T):S:=fun s=>if jf i s then (match e s with
  | some (t,s1)=>match jh t,s1.env[i]? with
    | some ys,some (some (.lst xs,true))=>if xs.length+ys.length<lim then some (.next,dh i (.lst (xs++ys)) true s1) else none
    | _,_=>none
  | none=>none) else none
noncomputable def Aq (i:Nat) (k v:M T):S:=fun s=>match v s with
  | some (t,s1)=>if O4 i s1 then (match k s1 with
    | some (kt,s2)=>match s2.env[i]?,keyOf kt with
      | some (some (.dic kvs,true)),some q=>if kvs.length<lim then some (.next,dh i (.dic (Lh q t kvs)) true s2) else none
      | _,_=>none
    | none=>none) else none
  | none=>none
noncomputable def dw (i:Nat):S:=fun s=>match s.env[i]? with
  | some (some (.lst xs,true))=>some (.next,dh i (.lst xs.reverse) true s)
  | _=>none
noncomputable def sNx (u:S):S:=fun s=>match u s with
  | some (.next,s1)=>some (.next,s1)
  | _=>none
noncomputable def g8 (i:Nat):S:=fun s=>match s.env[i]? with
  | some (some (t,true))=>some (.ret t,s)
  | _=>none
noncomputable abbrev G:=T→Sta→Option Sta
noncomputable def hName (i:Nat):G:=fun t s=>some (dh i t false s)
noncomputable def m5 (is:List Nat):G:=fun t s=>match t with
  | .tup xs=>if xs.length=is.length then some ((is.zip xs).foldl (fun s p=>dh p.1 p.2 false s) s) else none
  | _=>none
noncomputable def sGo (g:G) (m:M T):S:=fun s=>match m s with
  | some (t,s1)=>match g t s1 with
    | some s2=>some (.next,s2)
    | none=>none
  | none=>none
noncomputable def forL (g:G) (b:S):List T→S
  | []=>fun s=>some (.next,s)
  | t::r=>fun s=>match g t s with
    | some s1=>match b s1 with
      | some (.next,s2)=>forL g b r s2
      | some (.cont,s2)=>forL g b r s2
      | some (.brk,s2)=>some (.next,s2)
      | some (.ret v,s2)=>some (.ret v,s2)
      | none=>none
    | none=>none
noncomputable def m9 (g:G) (it:M (List T)) (b:S):S:=fun s=>match it s with
  | some (ts,s1)=>forL g b ts s1
  | none=>none
noncomputable def rangeT (n:Nat):List T:=(List.range n).map fun (k:Nat)=>.int (k:Int)
noncomputable def gn (a:M T):M (List T):=fun s=>match a s with
  | some (.int n,s1)=>if n.natAbs<lim then some (rangeT n.toNat,s1) else none
  | _=>none
noncomputable def jy (a:M T):M (List T):=fun s=>match a s with
  | some (.lst xs,s1)=>if xs.length<lim then some (xs,s1) else none
  | some (.tup xs,s1)=>if xs.length<lim then some (xs,s1) else none
  | _=>none
noncomputable def qx (s:Slot):Slot:=match s with
  | some (t,_)=>some (t,false)
  | none=>none
noncomputable def ur (s:Sta):Sta:={ s with env:=s.env.map qx }
noncomputable def Fq (g:G) (c:M Bool) (e:M T):List T→Sta→List T→Option (List T × Sta)
  | [],s,acc=>some (acc,s)
  | t::r,s,acc=>match g t s with
    | some s1=>match c s1 with
      | some (true,s2)=>match e s2 with
        | some (u,s3)=>if acc.length<lim then Fq g c e r (ur s3) (acc++[u]) else none
        | none=>none
      | some (false,s2)=>Fq g c e r (ur s2) acc
      | none=>none
    | none=>none
noncomputable def j5:M Bool:=fun s=>some (true,s)
noncomputable def d8 (is:List Nat) (env:List Slot):List Slot:=is.foldl (fun e i=>match e[i]? with
  | some (some (t,_))=>e.set i (some (t,false))
  | _=>e) env
noncomputable def p7 (nv:Nat) (cap:List Nat) (g:G) (it:M (List T)) (c:M Bool) (e:M T):M T:=fun s=>match it s with
  | some (ts,s1) =>
    let env:=d8 cap s1.env
    match Fq g c e ts ⟨List.replicate nv none++cap.map (fun i=>(env[i]?).getD none),s1.sto⟩ [] with
    | some (us,s2)=>some (.lst us,⟨env,s2.sto⟩)
    | none=>none
  | none=>none
noncomputable def iw (n:Nat) (b:S):Fn:=fun ts sto=>match b ⟨ts.map (fun t=>some (t,false))++List.replicate (n - ts.length) none,sto⟩ with
  | some (.ret t,s)=>some (t,s.sto)
  | some (.next,s)=>some (.non,s.sto)
  | _=>none
noncomputable section
variable {s s':Sta} {t v:T} {a b:M T}
theorem Pn {f:T→T→Option T} (h:mOp f a b s=some (v,s')):∃ t s1 u,a s=some (t,s1)∧b s1=some (u,s')∧f t u=some v:=by
  unfold mOp at h
  cases ha:a s with
  | none=>rw [ha] at h; cases h
  | some p =>
    obtain ⟨t,s1⟩:=p; rw [ha] at h; dsimp only at h
    cases hb:b s1 with
    | none=>rw [hb] at h; cases h -- here
    | some p =>
      obtain ⟨u,s2⟩:=p; rw [hb] at h; dsimp only at h
      cases hf:f t u with
      | none=>rw [hf] at h; cases h
      | some w=>rw [hf] at h; cases h; exact ⟨t,s1,u,rfl,hb,hf⟩
theorem Zj {f:T→Option T} (h:mUn f a s=some (v,s')):∃ t,a s=some (t,s')∧f t=some v:=by
  unfold mUn at h
  cases ha:a s with
  | none=>rw [ha] at h; cases h
  | some p =>
    obtain ⟨t,s1⟩:=p; rw [ha] at h; dsimp only at h
    cases hf:f t with
    | none=>rw [hf] at h; cases h
    | some w=>rw [hf] at h; cases h; exact ⟨t,rfl,hf⟩
theorem Df {f:List T→Option T} {a:M (List T)} (h:gb f a s=some (v,s')):∃ ts,a s=some (ts,s')∧f ts=some v:=by
  unfold gb at h
  cases ha:a s with
  | none=>rw [ha] at h; cases h
  | some p =>
    obtain ⟨t,s1⟩:=p; rw [ha] at h; dsimp only at h
    cases hf:f t with
    | none=>rw [hf] at h; cases h
    | some w=>rw [hf] at h; cases h; exact ⟨t,rfl,hf⟩
theorem Ak {r:M (List T)} {ts:List T} (h:ak a r s=some (ts,s')):∃ t s1 us,a s=some (t,s1)∧r s1=some (us,s')∧ts=t::us:=by
  unfold ak at h
  cases ha:a s with
  | none=>rw [ha] at h; cases h
  | some p =>
    obtain ⟨t,s1⟩:=p; rw [ha] at h; dsimp only at h
    cases hb:r s1 with
    | none=>rw [hb] at h; cases h -- here
    | some p=>obtain ⟨u,s2⟩:=p; rw [hb] at h; cases h; exact ⟨t,s1,u,rfl,hb,rfl⟩
theorem Rq {F:Fn} {a:M (List T)} (h:dj F a s=some (v,s')):∃ ts s1 sto,a s=some (ts,s1)∧F ts s1.sto=some (v,sto)∧s' = { s1 with sto:=sto }:=by
  unfold dj at h
  cases ha:a s with
  | none=>rw [ha] at h; cases h
  | some p =>
    obtain ⟨t,s1⟩:=p; rw [ha] at h; dsimp only at h
    cases hf:F t s1.sto with
    | none=>rw [hf] at h; cases h
    | some w=>obtain ⟨w,sto⟩:=w; rw [hf] at h; cases h; exact ⟨t,s1,sto,rfl,hf,rfl⟩
theorem Zw {b:Bool} (h:gq a s=some (b,s')):a s=some (.bl b,s'):=by
  unfold gq at h
  cases ha:a s with
  | none=>rw [ha] at h; cases h
  | some p =>
    obtain ⟨t,s1⟩:=p; rw [ha] at h
    cases t <;> first | (cases h; rfl) | (cases h)
theorem a1y {c:M Bool} {b:Bool} (h:uc c s=some (b,s')):∃ k,c s=some (k,s')∧b=!k:=by
  unfold uc at h
  cases ha:c s with
  | none=>rw [ha] at h; cases h
  | some p=>obtain ⟨t,s1⟩:=p; rw [ha] at h; cases h; exact ⟨t,rfl,rfl⟩
theorem a3o {c d:M Bool} {b:Bool} (h:u6 c d s=some (b,s')):(∃ s1,c s=some (true,s1)∧d s1=some (b,s'))∨(c s=some (false,s')∧b=false):=by
  unfold u6 at h
  cases ha:c s with
  | none=>rw [ha] at h; cases h
  | some p =>
    obtain ⟨k,s1⟩:=p; rw [ha] at h
    cases k with
    | true=>exact .inl ⟨s1,rfl,h⟩
    | false=>cases h; exact .inr ⟨rfl,rfl⟩
theorem a6g {c d:M Bool} {b:Bool} (h:mOr c d s=some (b,s')):(∃ s1,c s=some (false,s1)∧d s1=some (b,s'))∨(c s=some (true,s')∧b=true):=by
  unfold mOr at h
  cases ha:c s with
  | none=>rw [ha] at h; cases h
  | some p =>
    obtain ⟨k,s1⟩:=p; rw [ha] at h
    cases k with
    | false=>exact .inl ⟨s1,rfl,h⟩
    | true=>cases h; exact .inr ⟨rfl,rfl⟩
theorem a71 {c:M Bool} (h:mIf c a b s=some (v,s')):(∃ s1,c s=some (true,s1)∧a s1=some (v,s'))∨(∃ s1,c s=some (false,s1)∧b s1=some (v,s')):=by
  unfold mIf at h
  cases ha:c s with
  | none=>rw [ha] at h; cases h
  | some p =>
    obtain ⟨k,s1⟩:=p; rw [ha] at h
    cases k with
    | true=>exact .inl ⟨s1,rfl,h⟩
    | false=>exact .inr ⟨s1,rfl,h⟩
theorem a2c {i:Nat} (h:bw i s=some (v,s')):(s.env[i]? = some (some (v,false))∧s'=s)∨(s.env[i]? = some (some (v,true))∧s' = { s with env:=s.env.set i (some (v,false)) }):=by
  unfold bw at h
  split at h
  · rename_i t e; cases h; exact .inl ⟨e,rfl⟩
  · rename_i t e; cases h; exact .inr ⟨e,rfl⟩
  · cases h
end
end C
end
noncomputable section
set_option linter.all false
set_option maxRecDepth 100000
set_option maxHeartbeats 4000002
namespace L2
open PySem PySem.Spec PyProof.Rows
noncomputable section
variable {pr:Program} {wd:World} {Ar:Around} {Rs:Result→Shared→Prop} {s:Shared}
theorem Sv {el tgt itr:Expr} {cs:List Expr} {scp:Scope} {ps:Pos} {itv accv:Value} {en:Env} (J:Nat→Shared→Prop)
    (turn:∀ n z,J n z→wpAny (model pr wd) Ar (pyNext itv) (fun nx z1=>match nx with
      | none=>Rs (.ok .next) z1
      | some v=>wpAny (model pr wd) Ar (letOwnedTupleGo tgt itv v) (fun _ z2=>wpAny (model pr wd) Ar (assign tgt en v) (fun _ z3 =>
          wpAny (model pr wd) Ar (forIn cs true fun c go=>if go=true then do let ok ← isTrue c en (eval c en); pure (ForInStep.yield ok) else pure (ForInStep.yield go)) (fun ok z4 =>
            if ok=true then wpAny (model pr wd) Ar (eval el en) (fun x z5 =>
              wpAny (model pr wd) Ar (call (.builtin "list.append") [accv,x]) (fun _ z6=>∃ m,m<n∧J m z6) (fun _ _=>False) z5) (fun _ _=>False) z4
            else ∃ m,m<n∧J m z4) (fun _ _=>False) z3) (fun _ _=>False) z2) (fun _ _=>False) z1) (fun _ _=>False) z)
    (n:Nat) (h:J n s) :
    codeAny (model pr wd) Ar (.compLoop (.ListComp el [⟨tgt,itr,cs,0⟩] scp ps) 0 itv accv en) Rs s:=by
  refine codeAny_loop rfl J (fun k z hz=>?_) n h
  show wpAny _ Ar ((compTurn (.ListComp el [⟨tgt,itr,cs,0⟩] scp ps) 0 itv accv en).onRaise (fun ex=>do noteFrame ex en; theTreesLotGoes ex)) _ _ z
  refine wpAny_noted ?_
  rw [compTurn_list]
  refine wpAny_bind (wpAny_standAt (wpAny_bind (wpAny_mono (turn k z hz) (fun nx z1 g1=>?_) fun _ _ no=>no.elim)))
  cases nx with
  | none=>exact wpAny_pure g1
  | some v =>
    refine wpAny_bind (wpAny_mono g1 (fun _ z2 g2=>?_) fun _ _ no=>no.elim)
    refine wpAny_bind (wpAny_mono g2 (fun _ z3 g3=>wpAny_bind (wpAny_mono g3 (fun ok z4 g4=>?_) fun _ _ no=>no.elim)) fun _ _ no=>no.elim)
    cases ok with
    | false=>exact wpAny_pure (And.intro rfl g4)
    | true =>
      exact wpAny_bind (wpAny_bind (wpAny_mono g4 (fun x z5 g5=>wpAny_bind (wpAny_mono g5 (fun _ z6 g6=>wpAny_pure (wpAny_pure (And.intro rfl g6))) fun _ _ no=>no.elim)) fun _ _ no=>no.elim))
end
noncomputable def X5 (env:Env):List (Str × NameKind)→List (Str × Addr)→List (Str × Addr)
  | [],cs=>cs
  | (n,k)::r,cs=>X5 env r (if (k==NameKind.free)=true then (match env.cells.lookup n with | some c=>(n,c)::cs | none=>cs) else cs)
noncomputable def Fb (env:Env) (names:List (Str × NameKind)):Bool:=names.all fun y=>!(y.2==NameKind.free)||(env.cells.lookup y.1).isSome
theorem Gn {scope:Scope} {env:Env} (h:Fb env scope.names=true):closureFor scope env=pure (X5 env scope.names []):=by
  have key:∀ (l:List (Str × NameKind)) (cs:List (Str × Addr)),Fb env l=true →
      (forIn (m:=Sem) l cs fun x r=>(do
        if (x.2==NameKind.free)=true then
          let c ← cellOf env x.1
          pure (ForInStep.yield ((x.1,c)::r))
        else pure (ForInStep.yield r)))=pure (X5 env l cs):=by
    intro l
    induction l with
    | nil=>intro cs _; rfl
    | cons x r ih =>
      intro cs h
      obtain ⟨n,k⟩:=x
      unfold Fb at h
      rw [List.all_cons,Bool.and_eq_true] at h -- here
      obtain ⟨h1,h2⟩:=h
      rw [List.forIn_cons]
      by_cases hk:(k==NameKind.free)=true
      · have h1':(env.cells.lookup n).isSome=true:=by simpa [hk] using h1
        obtain ⟨c,hc⟩:=Option.isSome_iff_exists.mp h1'
        have e:cellOf env n=pure c:=by unfold cellOf; rw [hc]
        simp only [hk,if_true,e,pure_bind]
        rw [ih _ h2]
        simp only [X5,hk,if_true,hc]
      · simp only [hk,if_false,pure_bind,Bool.false_eq_true]
        rw [ih _ h2]
        simp only [X5,hk,if_false,Bool.false_eq_true]
  have:=key scope.names [] h
  unfold closureFor
  simpa using this
noncomputable def yx (X:Cx) (scope:Scope) (N:List Str) (C:Addr) (s₀:Shared) (H₀:Hp) (ex:List Addr) (pn:List (Addr × Obj)):Cx :=
  { X with N:=N,s₀:=s₀,H₀:=H₀,env:=compEnvC scope (X5 X.env scope.names []) C X.env,outer:=X.stack,ex:=ex,fn:=fun _=>false,pn:=pn,xe:=fun _ _=>False }
structure Mi (X:Cx) (scope:Scope) (N:List Str):Prop where
  has:Fb X.env scope.names=true
  kind:scope.kind=.function
  nocell:∀ y∈scope.names,y.2≠.cell
  names:∀ y∈scope.names,y.2=.local→scope.names.lookup y.1=some .local
noncomputable def aa1 (X:Cx) (scope:Scope) (x:Str):Prop :=
  (X.env.kindOf x=some .cell∨X.env.kindOf x=some .free)∧Vis X.env.scope x∧((relabel scope X.env).names.lookup x=some .cell∨(relabel scope X.env).names.lookup x=some .free)
theorem Km {env:Env}:∀ (l:List (Str × NameKind)) (cs:List (Str × Addr)),(∀ x c,cs.lookup x=some c→env.cells.lookup x=some c) →
    ∀ x c,(X5 env l cs).lookup x=some c→env.cells.lookup x=some c
  | [],cs,h,x,c,e=>h x c e
  | (n,k)::r,cs,h,x,c,e=>by
    rw [X5] at e
    refine Km r _ (fun y d q=>?_) x c e
    split at q
    · split at q
      · rename_i c' hc'
        rw [List.lookup_cons] at q
        split at q
        · rename_i hb
          cases q
          have hyn:=eq_of_beq hb
          rw [hyn]; exact hc'
        · exact h y d q
      · exact h y d q
    · exact h y d q
theorem Yc {env:Env}:∀ (l:List (Str × NameKind)) (cs:List (Str × Addr)) (x:Str),(∃ c,cs.lookup x=some c)→∃ c,(X5 env l cs).lookup x=some c
  | [],cs,x,h=>h
  | (n,k)::r,cs,x,h=>by
    rw [X5]
    refine Yc r _ x ?_
    split
    · split
      · rename_i c' hc'
        rw [List.lookup_cons]
        split
        · exact ⟨_,rfl⟩
        · exact h
      · exact h
    · exact h
theorem a0a {env:Env}:∀ (l:List (Str × NameKind)) (cs:List (Str × Addr)) (x:Str),Fb env l=true→(x,NameKind.free)∈l→∃ c,(X5 env l cs).lookup x=some c
  | [],cs,x,_,h=>by simp at h
  | (n,k)::r,cs,x,hh,h=>by
    unfold Fb at hh
    rw [List.all_cons,Bool.and_eq_true] at hh
    rw [X5]
    rcases List.mem_cons.mp h with e | h'
    · injection e with e1 e2
      subst e1; subst e2
      have h1:(env.cells.lookup x).isSome=true:=by simpa using hh.1
      obtain ⟨c,hc⟩:=Option.isSome_iff_exists.mp h1
      refine Yc r _ x ?_
      simp [hc]
    · exact a0a r _ x hh.2 h'
theorem mem_of_lookup {α:Type}:∀ {l:List (Str × α)} {x:Str} {k:α},l.lookup x=some k→(x,k)∈l
  | [],_,_,h=>by simp at h
  | (n,k')::r,x,k,h=>by
    rw [List.lookup_cons] at h
    split at h
    · rename_i hb
      cases h
      have hyn:=eq_of_beq hb
      rw [hyn]; exact List.mem_cons_self
    · exact List.mem_cons_of_mem _ (mem_of_lookup h)
theorem W9 {scope:Scope} {env:Env} (nc:∀ y∈scope.names,y.2≠.cell) {x:Str} (h:(relabel scope env).names.lookup x=some .cell∨(relabel scope env).names.lookup x=some .free):(x,NameKind.free)∈scope.names:=by
  have:∃ k,(x,k)∈(relabel scope env).names∧(k=.cell∨k=.free):=by
    rcases h with h | h
    · exact ⟨_,mem_of_lookup h,.inl rfl⟩
    · exact ⟨_,mem_of_lookup h,.inr rfl⟩
  obtain ⟨k,hm,hk⟩:=this
  obtain ⟨⟨n,k'⟩,hm',e⟩:=List.mem_map.mp hm
  dsimp only at e
  split at e
  · rename_i hc
    cases e
    simp only [Bool.and_eq_true,beq_iff_eq] at hc
    obtain ⟨⟨h1,_⟩,_⟩:=hc
    subst h1; exact hm'
  · cases e
    rcases hk with rfl | rfl
    · exact absurd rfl (nc _ hm')
    · exact hm'
noncomputable def PTs (X:Cx) (ifs:List Expr) (t:TT):Prop:=∀ (pins:List (Addr × Obj)) (s:Shared) (σ:St) (H:Hp) (Q:Bool→Hp→Prop),Inv X pins σ H s→t σ H Q →
  wpAny (model X.prog X.w) X.A (forIn ifs true fun c r=>if r=true then do let ok ← isTrue c X.env (eval c X.env); pure (ForInStep.yield ok) else pure (ForInStep.yield r)) (TP X pins σ Q) X.xe s
theorem a6e {X:Cx}:PTs X [] (fun _ H Q=>Q true H):=fun pins s σ H Q I h=>wpAny_tests_nil ⟨H,I,h⟩
theorem a65 {X:Cx} {c:Expr} {t:TT} (h:PT X c t):PTs X [c] t:=fun pins s σ H Q I q=>wpAny_tests_one (h pins s σ H Q I q)
noncomputable def T4 (X:Cx) (scope:Scope) (N:List Str) (g:TG) (tc:TT) (te:TE) (σ:St) (J:It) (H1:Hp) (Q:VK):Prop:=∀ D,H1 D=none→∃ σ0:St,σ0.length=N.length ∧
  (∀ (i:Nat) (v:V) (x:Str),σ0[i]? = some (some v)→N[i]? = some x→Vis (relabel scope X.env) x→∃ k:Nat,X.N[k]? = some x∧σ[k]? = some (some v)∧aa1 X scope x) ∧
  ∃ W:Nat→Nat→St→Hp→Prop,(∃ m,W 0 m σ0 (upd H1 D (.lst [])))∧∀ i m σ' H',W i m σ' H' →
    (J.stop i H'∧Q (.ref D) H')∨(J.go i H'∧∀ x H2,J.yld i H' x H2→g x σ' H2 fun σ2 H3=>tc σ2 H3 fun b H4=>if b=true then te σ2 H4 fun y H5=>∃ l,H5 D=some (.lst l)∧l.length<sizeLine∧∃ m',m'<m∧W (i+1) m' σ2 (upd H5 D (.lst (l++[y]))) else ∃ m',m'<m∧W (i+1) m' σ2 H4)
noncomputable def a7f (X:Cx) (scope:Scope) (N:List Str) (wi:TI) (g:TG) (tc:TT) (te:TE):TE:=fun σ H Q=>wi σ H fun J H1=>T4 X scope N g tc te σ J H1 Q
noncomputable section
variable {X:Cx} {scope:Scope} {N:List Str}
theorem a0b (sc:Mi X scope N) {pins:List (Addr × Obj)} {σ:St} {H:Hp} {s:Shared} {fp:List Addr} (I:Inv X pins σ H s) (hf:∀ b∈fp,Wh X pins H b) (hfl:∀ b∈fp,b<s.heap.objs.size) :
    (yx X scope N s.heap.objs.size s H fp (X.pn++pins)).Ok where
  mod:=I.ok.mod
  kind:=sc.kind
  glob:=I.ok.glob
  blt:=I.ok.blt
  above:=Nat.le_refl _
  inj:=fun x y c h1 h2=>I.ok.inj x y c (Km _ [] (fun _ _ z=>by simp at z) x c h1) (Km _ [] (fun _ _ z=>by simp at z) y c h2)
  has:=fun x h=>a0a _ [] x sc.has (W9 sc.nocell h)
  cab:=fun x c h=>by cases h
  hd:=I.ok.hd
  frames:=I.ok.frames
  stk:=.inl rfl
  exf:=fun b hb=>⟨Nat.ne_of_lt (hfl b hb),fun x c h=>(hf b hb).2.2.2.2.1 x c (Km _ [] (fun _ _ z=>by simp at z) x c h)⟩
  bs:=I.bs
  bsz:=Nat.le_trans I.ok.bsz I.sz
  noex:=fun b o e hb=>by
    rcases (hf b hb).2.2.2.1 with z | z
    · exact I.ok.noex b o e z
    · exact absurd (Nat.lt_of_lt_of_le (Heap.lt_size e) (Nat.le_trans I.ok.bsz z)) (Nat.lt_irrefl _)
  exfs:=fun b hb z=>by
    rcases List.mem_cons.mp (I.Wa b z) with e | e
    · exact (hf b hb).2.1 e
    · exact (hf b hb).2.2.1 e
  Y4:=I.stack
  frf:=I.Yb
theorem Xp (sc:Mi X scope N) {pins:List (Addr × Obj)} {σ σ0:St} {H:Hp} {s:Shared} {fp:List Addr} {h':Heap} {m:Str→Option Value} {tk:Nat} (I:Inv X pins σ H s) (hf:∀ b∈fp,Wh X pins H b) (hfl:∀ b∈fp,b<s.heap.objs.size)
    (hl:σ0.length=N.length) (h0:∀ (i:Nat) (v:V) (x:Str),σ0[i]? = some (some v)→N[i]? = some x→Vis (relabel scope X.env) x→∃ k:Nat,X.N[k]? = some x∧σ[k]? = some (some v)∧aa1 X scope x)
    (hn:h'.Ns s.heap.objs.size m) (hk:∀ b o,s.heap.get? b=some o→h'.get? b=some o) :
    Inv (yx X scope N s.heap.objs.size s H fp (X.pn++pins)) [] σ0 H { s with heap:=h',toks:=tk } where
  ok:=a0b sc I hf hfl
  os:=rfl
  bare:=I.bare
  base:=Un.kept hk
  loc:=⟨m,hn,fun i x v e1 e2 e3=>by
    obtain ⟨k,n2,n3,ck,cv,cr⟩:=h0 i v x e2 e1 e3
    obtain ⟨m0,_,hl0⟩:=I.loc
    obtain ⟨u,r,l⟩:=hl0 k x v n2 n3 cv
    refine ⟨u,r,.inr ⟨cr,?_⟩⟩
    rcases l with ⟨l1,_⟩ | ⟨_,c,hc,z⟩
    · rcases ck with q | q <;> (rw [l1] at q; cases q)
    · obtain ⟨c',hc'⟩:=a0a (env:=X.env) scope.names [] x sc.has (W9 sc.nocell cr)
      have q:=Km scope.names [] (fun _ _ z=>by simp at z) x c' hc'
      rw [hc] at q; cases q
      obtain ⟨o,ho,hd⟩:=z
      exact ⟨c,hc',o,hk _ _ ho,hd⟩⟩
  cell:=fun x c e=>by
    obtain ⟨v,o,ho,hd⟩:=I.cell x c (Km scope.names [] (fun _ _ z=>by simp at z) x c e)
    exact ⟨v,o,hk _ _ ho,hd⟩
  free:=I.hok.fresh (Nat.le_refl _)
  freeC:=fun x c e=>I.freeC x c (Km scope.names [] (fun _ _ z=>by simp at z) x c e)
  pin:=fun p hp=>by
    have hp':p∈X.pn++pins:=by simpa [yx] using hp
    obtain ⟨a,b,c,d,e⟩:=I.pin p hp'
    refine ⟨hk _ _ a,b,Nat.ne_of_lt (Heap.lt_size a),fun z=>?_,e⟩
    rcases List.mem_cons.mp (I.Wa p.1 z) with q | q
    · exact c q
    · exact d q
  hok:=I.hok.kept hk
  len:=hl
theorem Vc {pins:List (Addr × Obj)} {σ σ':St} {H H':Hp} {s s':Shared} {fp:List Addr} {h':Heap} (I:Inv X pins σ H s) (hf:∀ b∈fp,Wh X pins H b)
    (J:Inv (yx X scope N s.heap.objs.size s H fp (X.pn++pins)) [] σ' H' s') (hs:Heap.SameBut s.heap.objs.size s'.heap h'):Inv X pins σ H' { s' with heap:=h' }:=by
  have kb:∀ b o,b≠s.heap.objs.size→s'.heap.get? b=some o→h'.get? b=some o:=fun b o n e=>hs.extBut b o n e
  have ne:∀ b o,s.heap.get? b=some o→b≠s.heap.objs.size:=fun b o e=>Nat.ne_of_lt (Heap.lt_size e)
  have fr:H' s.heap.objs.size=none:=J.free
  have u0:Un (frs X.stack) fp H H' s.heap s'.heap:=J.base
  have u:Un (frs X.stack) fp H H' s.heap h':=⟨fun b o e n h1 h2=>kb b o (ne b o e) (u0.keep b o e n h1 h2),fun b o e n h1 h2=>by
      obtain ⟨sl,q⟩:=u0.slot b o e n h1 h2
      exact ⟨sl,kb b _ (ne b o e) q⟩,u0.free,fun b o e h=>by
      obtain ⟨o',q⟩:=u0.there b o e h
      exact ⟨o',kb b _ (ne b o e) q⟩,u0.tups,u0.frzs,u0.tbls⟩
  have hok:HOk X.prog X.w H' h':=fun b o e=>by
    refine (J.hok b o e).stay (fun c v hc q=>kb c v ?_ q) (fun _ q=>q) fun _ _ q=>q
    rcases hc with z | z
    · rw [z]; intro y; rw [y] at e; rw [fr] at e; cases e
    · intro y; rw [y] at z; rw [fr] at z; cases z
  have hos:s'.os=s.os:=J.os
  obtain ⟨hh,g,d,t,os'⟩:=s'
  obtain rfl:os'=s.os:=hos
  exact Inv.call (X:=X) (s:=s) (H:=H) (h':=h') (g':=g) (d':=d) (t':=t) (ch:=fp) I u hok J.bare fun b hb=>⟨(hf b hb).2.2.2.1,(hf b hb).2.1,(hf b hb).2.2.2.2.1,(hf b hb).2.2.2.2.2⟩
variable {tg iter elt:Expr} {ifs:List Expr} {pos:Pos} {g:TG} {tc:TT} {te:TE}
theorem Ml (sc:Mi X scope N) (calm:X.calm=true)
    (hg:∀ C s₀ H₀ ex pn,PG (yx X scope N C s₀ H₀ ex pn) tg g) (hc:∀ C s₀ H₀ ex pn,PTs (yx X scope N C s₀ H₀ ex pn) ifs tc) (he:∀ C s₀ H₀ ex pn,PE (yx X scope N C s₀ H₀ ex pn) elt te)
    {pins:List (Addr × Obj)} {σ:St} {H1:Hp} {s₂:Shared} {it:Addr} {fp:List Addr} {tn:Nat→Heap→Prop} {J:It} {Q:VK} {E:Value→Shared→Prop} {RR:Value→Addr→Result→Shared→Prop}
    (I:Inv X pins σ H1 s₂) (T:Turn X.prog X.w X.K tg J fp it tn) (st2:tn 0 s₂.heap) (f2:∀ b∈fp,Wh X pins H1 b) (q:T4 X scope N g tc te σ J H1 Q)
    (hRR:∀ D s₃ H3 σ' H' s',Inv X pins σ H3 s₃→(∀ b∈fp,Wh X pins H3 b)→Inv (yx X scope N s₃.heap.objs.size s₃ H3 fp (X.pn++pins)) [] σ' H' s'→Q (.ref D) H'→RR (.ref D) s₃.heap.objs.size (.ok .next) s') :
    wpAny (model X.prog X.w) X.A (newList []) (fun acc s₃=>wpAny (model X.prog X.w) X.A (newFunctionEnv scope X.env.globals (X5 X.env scope.names []) [] X.env.qual none .none (some X.env)) (fun cenv s₄ =>
      codeAny (model X.prog X.w) X.A (.compStart (.ListComp elt [⟨tg,iter,ifs,0⟩] scope pos) 0 (.ref it) acc { cenv with scope:=relabel scope X.env }) (RR acc cenv.locals) s₄) E s₃) E s₂:=by
  refine wpAny_newObj_type (wpAny_newFunctionEnv sc.nocell (by intro y hy; simp at hy) (fun h₁ hns₁ hsb₁=>?_) sc.kind)
  dsimp only at hns₁ hsb₁ ⊢
  have I3:Inv X pins σ (upd H1 s₂.heap.objs.size (.lst [])) { s₂ with heap:=s₂.heap.push { cls:=.type "list",dict:=none,data:=.seq ([]:List Value).toArray } } :=
    I.laid (t':=s₂.toks) (fun b ob q=>Heap.get?_push_of_some _ q) (Nat.le_refl _) ⟨Nat.zero_le _,[],_,.nil,Heap.get?_push_size _ rfl⟩
  generalize hs3:({ s₂ with heap:=s₂.heap.push { cls:=.type "list",dict:=none,data:=.seq ([]:List Value).toArray } }:Shared)=s₃ at I3
  have hheap:s₂.heap.push { cls:=.type "list",dict:=none,data:=.seq ([]:List Value).toArray } = s₃.heap:=by rw [← hs3]
  have hstate:∀ (h:Heap) (t:Nat),({ s₂ with heap:=h,toks:=t }:Shared) = { s₃ with heap:=h,toks:=t }:=fun h t=>by rw [← hs3]
  rw [hheap] at hns₁ hsb₁ ⊢
  have lt2:∀ b∈fp,b<s₂.heap.objs.size:=fun b hb=>by
    obtain ⟨o,ho,_⟩:=T.obj _ _ st2 b hb
    exact Heap.lt_size ho
  have sz3:s₃.heap.objs.size=s₂.heap.objs.size+1:=by rw [← hheap,Heap.size_push]
  have k23:∀ b o,s₂.heap.get? b=some o→s₃.heap.get? b=some o:=fun b o e=>by rw [← hheap]; exact Heap.get?_push_of_some _ e
  have f3:∀ b∈fp,Wh X pins (upd H1 s₂.heap.objs.size (.lst [])) b:=fun b hb=>⟨by rw [nj (Nat.ne_of_lt (lt2 b hb))]; exact (f2 b hb).1,(f2 b hb).2⟩
  have lt3:∀ b∈fp,b<s₃.heap.objs.size:=fun b hb=>by rw [sz3]; exact Nat.lt_succ_of_lt (lt2 b hb)
  obtain ⟨σ0,hl,h0,W,⟨m0,w0⟩,turn⟩:=q s₂.heap.objs.size (I.hok.fresh (Nat.le_refl _))
  have k34:∀ b o,s₃.heap.get? b=some o→h₁.get? b=some o:=fun b o e=>hsb₁.extBut b o (Nat.ne_of_lt (Heap.lt_size e)) (Heap.get?_push_of_some _ e)
  rw [hstate]
  have J0:=Xp (tk:=s₂.toks+([]:List (Str × Value)).length) sc I3 f3 lt3 hl h0 hns₁ k34
  have st4:tn 0 h₁:=T.keep _ _ _ st2 fun b _ o e=>k34 b o (k23 b o e)
  have key:∀ s₄:Shared,s₄ = { s₃ with heap:=h₁,toks:=s₂.toks+([]:List (Str × Value)).length }→codeAny (model X.prog X.w) X.A (.compLoop (.ListComp elt [⟨tg,iter,ifs,0⟩] scope pos) 0 (.ref it) (.ref s₂.heap.objs.size)
      (yx X scope N s₃.heap.objs.size s₃ (upd H1 s₂.heap.objs.size (.lst [])) fp (X.pn++pins)).env) (RR (.ref s₂.heap.objs.size) s₃.heap.objs.size) s₄:=by
    rintro s₄ rfl
    generalize hX:yx X scope N s₃.heap.objs.size s₃ (upd H1 s₂.heap.objs.size (.lst [])) fp (X.pn++pins)=X' at J0
    have hP:X'.prog=X.prog:=by rw [← hX]; rfl
    have hW:X'.w=X.w:=by rw [← hX]; rfl
    have hA:X'.A=X.A:=by rw [← hX]; rfl
    have hxe:X'.xe=fun _ _=>False:=by rw [← hX]; rfl
    have hK:X'.K=X.K:=by rw [← hX]; rfl
    have hcal:X'.calm=true:=by rw [← hX]; exact calm
    have stat:∀ {H':Hp},(∀ b∈fp,H' b=none)→∀ b∈fp,Wh X' [] H' b:=fun hn b hb=>by
      have z:=a0b sc I3 f3 lt3
      rw [hX] at z
      refine ⟨hn b hb,(z.exf b (by rw [← hX]; exact hb)).1,z.exfs b (by rw [← hX]; exact hb),.inl (by rw [← hX]; exact hb),(z.exf b (by rw [← hX]; exact hb)).2,fun p hp=>?_⟩
      have hp':p∈X.pn++pins:=by rw [← hX] at hp; simpa [yx] using hp
      exact (f3 b hb).2.2.2.2.2 p hp'
    have hg':PG X' tg g:=by rw [← hX]; exact hg _ _ _ _ _
    have hc':PTs X' ifs tc:=by rw [← hX]; exact hc _ _ _ _ _
    have he':PE X' elt te:=by rw [← hX]; exact he _ _ _ _ _
    have fin:∀ σ' H' s',Inv X' [] σ' H' s'→Q (.ref s₂.heap.objs.size) H'→RR (.ref s₂.heap.objs.size) s₃.heap.objs.size (.ok .next) s':=fun σ' H' s' I' q'=>hRR _ s₃ _ σ' H' s' I3 f3 (by rw [hX]; exact I') q'
    have T':Turn X'.prog X'.w X'.K tg J fp it tn:=by rw [hP,hW,hK]; exact T
    rw [← hP,← hW,← hA]
    refine Sv (J:=fun n s'=>∃ i σ' H',Inv X' [] σ' H' s'∧tn i s'.heap∧(∀ b∈fp,H' b=none)∧W i n σ' H') ?_ m0 ⟨0,σ0,_,J0,st4,fun b hb=>(f3 b hb).1,w0⟩
    rintro n s5 ⟨i,σ5,H5,I5,st5,fr5,w5⟩
    rcases turn i n σ5 H5 w5 with ⟨stop,qn⟩ | ⟨go,step⟩
    · refine thn (T'.done X' rfl rfl rfl hcal i [] s5 σ5 H5 _ I5 (stat fr5) st5 stop) fun r s6 z0=>?_
      obtain ⟨hr,I6⟩:=z0
      subst hr
      exact fin _ _ _ I6 qn
    · refine thn (T'.item X' rfl rfl rfl hcal i [] s5 σ5 H5 _ I5 (stat fr5) st5 go) fun r s6 z0=>?_
      obtain ⟨u,hr,h6⟩:=z0
      subst hr
      refine thn h6 fun _ s7 z0=>?_
      obtain ⟨x,H7,I7,r7,y7,st7,fr7⟩:=z0
      have I7':=I7.pinned (stat fr7) (T'.obj _ _ st7)
      have a1:=hg' _ s7 σ5 H7 x u _ I7' r7 (step x H7 y7)
      rw [hxe] at a1
      refine thn a1 fun _ s8 z0=>?_
      obtain ⟨σ8,H8,I8,q8⟩:=z0
      have a2:=hc' _ s8 σ8 H8 _ I8 q8
      rw [hxe] at a2
      refine thn a2 fun ok s9 z0=>?_
      obtain ⟨H9,I9,q9⟩:=z0
      have again:∀ {σ7:St} {H7:Hp} {s':Shared} {m':Nat},Inv X' ([]++Rr fp s7.heap) σ7 H7 s'→m'<n→W (i+1) m' σ7 H7→∃ m,m<n∧∃ i σ' H',Inv X' [] σ' H' s'∧tn i s'.heap∧(∀ b∈fp,H' b=none)∧W i m σ' H':=fun {σ7 H7 s' m'} I7 hm w7=>by
        refine ⟨m',hm,i+1,σ7,H7,I7.Hl,T'.keep _ _ _ st7 fun b hb o e=>(I7.pin (b,o) (List.mem_append_right _ (List.mem_append_right _ (Cz hb e)))).1,fun b hb=>?_,w7⟩
        obtain ⟨o,e,d⟩:=T'.obj _ _ st7 b hb
        exact (I7.pin (b,o) (List.mem_append_right _ (List.mem_append_right _ (Cz hb e)))).2.1
      cases ok with
      | false =>
        rw [if_neg Bool.false_ne_true] at q9 ⊢
        obtain ⟨m',hm,w9⟩:=q9
        exact again I9 hm w9
      | true =>
        rw [if_pos rfl] at q9 ⊢
        have a3:=he' _ s9 σ8 H9 _ I9 q9
        rw [hxe] at a3
        refine thn a3 fun xv s10 z0=>?_
        obtain ⟨y,H10,I10,r10,l,hl10,hz10,m',hm,w10⟩:=z0
        have a4:=xu (X:=X') _ s10 σ8 H10 (.ref s₂.heap.objs.size) [y] (.ref s₂.heap.objs.size) [xv] (fun _ H'=>H'=upd H10 s₂.heap.objs.size (.lst (l++[y]))) I10 rfl (.cons r10 .nil) ⟨_,l,y,rfl,rfl,hl10,hz10,rfl⟩
        rw [hxe] at a4
        refine thn a4 fun _ s11 z0=>?_
        obtain ⟨v,H11,I11,_,e11⟩:=z0
        subst e11
        exact again I11 hm w10
  exact codeAny_compStart_list (key _ rfl) (T.self _ 0 _ _ _ st4 (key _ rfl))
theorem a6k {wi:TI} (sc:Mi X scope N) (calm:X.calm=true) (hi:PI X tg iter wi)
    (hg:∀ C s₀ H₀ ex pn,PG (yx X scope N C s₀ H₀ ex pn) tg g) (hc:∀ C s₀ H₀ ex pn,PTs (yx X scope N C s₀ H₀ ex pn) ifs tc) (he:∀ C s₀ H₀ ex pn,PE (yx X scope N C s₀ H₀ ex pn) elt te)
    (hs:∀ x,foldedSetIterable iter X.env x=pure x:=by intro _; rfl):PE X (.ListComp elt [⟨tg,iter,ifs,0⟩] scope pos) (a7f X scope N wi g tc te):=by
  intro pins s σ H Q I h
  rw [eval_ListComp]
  refine wpAny_comprehension_free (use:=none) rfl hs (Gn sc.has) sc.kind sc.names ?_
  refine wpAny_mono (hi pins s σ H _ I h) (fun x s₁ h₁=>wpAny_mono h₁ (fun itv s₂ h₂=>?_) fun _ _ e=>e) fun _ _ e=>e
  obtain ⟨it,fp,tn,J,H1,rfl,I2,T,st2,f2,q⟩:=h₂
  refine Ml (RR:=fun acc C=>compPost (model X.prog X.w) X.A X.xe none (EP X pins σ Q) acc C) sc calm hg hc he I2 T st2 f2 q ?_
  intro D s₃ H3 σ' H' s' I3 f3 I' qn
  obtain ⟨m,hn,_⟩:=I'.loc
  exact ⟨m,hn,fun h' hs'=>⟨.ref D,H',Vc I3 f3 I' hs',rfl,qn⟩⟩
theorem Ig {wi:TI} {y:Str} {py spos:Pos} {i:Nat} (sc:Mi X scope N) (calm:X.calm=true) (hi:PI X tg iter wi)
    (hg:∀ C s₀ H₀ ex pn,PG (yx X scope N C s₀ H₀ ex pn) tg g) (hc:∀ C s₀ H₀ ex pn,PTs (yx X scope N C s₀ H₀ ex pn) ifs tc) (he:∀ C s₀ H₀ ex pn,PE (yx X scope N C s₀ H₀ ex pn) elt te)
    (hgN:PG X (.Name y py) (Qf i)) (hsw:swapsWith (.ListComp elt [⟨tg,iter,ifs,0⟩] scope pos) (some (.Name y py)) spos.line X.env=pure true)
    (hs:∀ x,foldedSetIterable iter X.env x=pure x:=by intro _; rfl):PS X (.Assign [.Name y py] (.ListComp elt [⟨tg,iter,ifs,0⟩] scope pos) spos) (a7l (a7f X scope N wi g tc te) (Qf i)):=by
  intro pins s σ H D I h
  rw [exec_Assign_Name_used _ _ _ _ hsw] -- here
  refine wpAny_bind (wpAny_standAt (wpAny_bind ?_)) -- here
  show wpAny _ X.A (do let _ ← comprehension (.ListComp elt [⟨tg,iter,ifs,0⟩] scope pos) scope X.env _ (newList []) false (eval iter X.env) (some (assign (.Name y py) X.env))) _ _ s
  refine wpAny_bind (wpAny_mono (wpAny_comprehension_free (use:=some (assign (.Name y py) X.env)) (Q:=fun _ s'=>SP X pins D .next s') rfl hs (Gn sc.has) sc.kind sc.names ?_) (fun _ s' hq=>wpAny_pure (wpAny_pure hq)) fun _ _ e=>e)
  refine wpAny_mono (hi pins s σ H _ I h) (fun x s₁ h₁=>wpAny_mono h₁ (fun itv s₂ h₂=>?_) fun _ _ e=>e) fun _ _ e=>e
  obtain ⟨it,fp,tn,J,H1,rfl,I2,T,st2,f2,q⟩:=h₂
  refine Ml (RR:=fun acc C=>compPost (model X.prog X.w) X.A X.xe (some (assign (.Name y py) X.env)) (fun _ s'=>SP X pins D .next s') acc C) sc calm hg hc he I2 T st2 f2 q ?_
  intro D' s₃ H3 σ' H' s' I3 f3 I' qn
  obtain ⟨m,hn,_⟩:=I'.loc
  obtain ⟨oC,es,ep,hoC,hdC,hrest⟩:=id hn
  have IX:Inv X pins σ H' s':=Vc I3 f3 I' (.refl ..)
  have fC:Wh X pins H' s₃.heap.objs.size:=I3.aa4 (Nat.le_refl _) I'.free
  have IXp:=IX.pinned (fp:=[s₃.heap.objs.size]) (fun b hb=>by rw [List.mem_singleton.mp hb]; exact fC) (fun b hb=>by
    rw [List.mem_singleton.mp hb]
    exact ⟨oC,hoC,fun v z=>by rw [hdC] at z; cases z⟩)
  show wpAny _ X.A (assign (.Name y py) X.env (.ref D')) _ _ _
  refine thn (hgN _ s' σ H' (.ref D') (.ref D') _ IXp rfl qn) fun _ s'' z0=>?_
  obtain ⟨σ'',H'',I'',q''⟩:=z0
  have pC:=I''.pin (s₃.heap.objs.size,oC) (List.mem_append_right _ (List.mem_append_right _ (Cz (by simp) hoC)))
  refine ⟨m,⟨oC,es,ep,pC.1,hdC,hrest⟩,fun h' hs'=>⟨σ'',H'',?_,q''⟩⟩
  exact I''.Hl.turned (h':=h') (t':=s''.toks) (it:=s₃.heap.objs.size) (fun b o ne e=>hs'.extBut b o ne e) pC.2.1 fC.2.1 fC.2.2.2.1 fC.2.2.2.2.1 fC.2.2.2.2.2
end
end L2
end
noncomputable section
set_option linter.all false
set_option maxHeartbeats 4000002
set_option autoImplicit false
namespace C
open PySem PySem.Spec PyProof.Rows L2
mutual
inductive Rep (K:PySem.W.Frag) (S:Hp) (as:List Addr):V→T→Prop where
  | non:Rep K S as .non .non
  | bl (b:Bool):Rep K S as (.bl b) (.bl b)
  | int (i:Int):Rep K S as (.int i) (.int i)
  | str (x:Str):Rep K S as (.str x) (.str x)
  | tup {a:Addr} {vs:List V} {ts:List T}:SqT K S a vs→vq K S as vs ts→Rep K S as (.ref a) (.tup ts)
  | lst {a:Addr} {vs:List V} {ts:List T}:SqL K S a vs→vq K S as vs ts→Rep K S as (.ref a) (.lst ts)
  | dic {a:Addr} {kvs:List (L2.Key × V)} {ts:List (L2.Key × T)}:Rd S a (.dK kvs)→Dy K S as kvs ts→Rep K S as (.ref a) (.dic ts)
  | obj {n:Nat} {a:Addr}:as[n]? = some a→Rep K S as (.ref a) (.obj n)
inductive vq (K:PySem.W.Frag) (S:Hp) (as:List Addr):List V→List T→Prop where
  | nil:vq K S as [] []
  | cons {v:V} {t:T} {vs:List V} {ts:List T}:Rep K S as v t→vq K S as vs ts→vq K S as (v::vs) (t::ts)
inductive Dy (K:PySem.W.Frag) (S:Hp) (as:List Addr):List (L2.Key × V)→List (L2.Key × T)→Prop where
  | nil:Dy K S as [] []
  | cons {k:L2.Key} {v:V} {t:T} {vs:List (L2.Key × V)} {ts:List (L2.Key × T)}:Rep K S as v t→Dy K S as vs ts→Dy K S as ((k,v)::vs) ((k,t)::ts)
end
theorem xq {S S':Hp} {a:Addr} {u:HO} (e:Same S S') (h:Rd S a u):Rd S' a u:=by
  rcases h with h | ⟨o,h⟩
  · exact .inl (e _ _ h)
  · exact .inr ⟨o,e _ _ h⟩
theorem ou {K:PySem.W.Frag} {S S':Hp} {a:Addr} {xs:List V} (e:Same S S') (h:SqT K S a xs):SqT K S' a xs:=by
  rcases h with h | h
  · exact .inl (xq e h)
  · exact .inr h
theorem qm {K:PySem.W.Frag} {S S':Hp} {a:Addr} {xs:List V} (e:Same S S') (h:SqL K S a xs):SqL K S' a xs:=by
  rcases h with h | h
  · exact .inl (xq e h)
  · exact .inr h
noncomputable section
variable {K:PySem.W.Frag} {S S':Hp} {as as':List Addr}
theorem a02 {α:Type} {l r:List α} {n:Nat} {a:α} (h:l[n]? = some a):(l++r)[n]? = some a:=by
  have:=(List.getElem?_eq_some_iff.mp h).1
  rw [List.getElem?_append_left this]; exact h
theorem Ud {n:Nat} {a:Addr} (x:∃ l,as'=as++l) (h:as[n]? = some a):as'[n]? = some a:=by obtain ⟨l,rfl⟩:=x; exact a02 h
theorem Rep.mono (e:Same S S') (x:∃ l,as'=as++l) {v:V} {t:T} (h:Rep K S as v t):Rep K S' as' v t :=
  Rep.rec (motive_1:=fun v t _=>Rep K S' as' v t) (motive_2:=fun v t _=>vq K S' as' v t) (motive_3:=fun v t _=>Dy K S' as' v t) .non .bl .int .str (fun h _ i=>.tup (ou e h) i) (fun h _ i=>.lst (qm e h) i) (fun h _ i=>.dic (xq e h) i) (fun h=>.obj (Ud x h)) .nil (fun _ _ a b=>.cons a b) .nil (fun _ _ a b=>.cons a b) h
theorem vq.mono (e:Same S S') (x:∃ l,as'=as++l) {v:List V} {t:List T} (h:vq K S as v t):vq K S' as' v t :=
  vq.rec (motive_1:=fun v t _=>Rep K S' as' v t) (motive_2:=fun v t _=>vq K S' as' v t) (motive_3:=fun v t _=>Dy K S' as' v t) .non .bl .int .str (fun h _ i=>.tup (ou e h) i) (fun h _ i=>.lst (qm e h) i) (fun h _ i=>.dic (xq e h) i) (fun h=>.obj (Ud x h)) .nil (fun _ _ a b=>.cons a b) .nil (fun _ _ a b=>.cons a b) h
theorem Dy.mono (e:Same S S') (x:∃ l,as'=as++l) {v:List (L2.Key × V)} {t:List (L2.Key × T)} (h:Dy K S as v t):Dy K S' as' v t :=
  Dy.rec (motive_1:=fun v t _=>Rep K S' as' v t) (motive_2:=fun v t _=>vq K S' as' v t) (motive_3:=fun v t _=>Dy K S' as' v t) .non .bl .int .str (fun h _ i=>.tup (ou e h) i) (fun h _ i=>.lst (qm e h) i) (fun h _ i=>.dic (xq e h) i) (fun h=>.obj (Ud x h)) .nil (fun _ _ a b=>.cons a b) .nil (fun _ _ a b=>.cons a b) h
inductive Nb (K:PySem.W.Frag) (S:Hp) (as:List Addr):List (List L2.Key × V)→List (List L2.Key × T)→Prop where
  | nil:Nb K S as [] []
  | cons {k:List L2.Key} {v:V} {t:T} {vs:List (List L2.Key × V)} {ts:List (List L2.Key × T)}:Rep K S as v t→Nb K S as vs ts→Nb K S as ((k,v)::vs) ((k,t)::ts)
theorem Nb.mono (e:Same S S') (x:∃ l,as'=as++l) {v:List (List L2.Key × V)} {t:List (List L2.Key × T)} (h:Nb K S as v t):Nb K S' as' v t:=by
  induction h with
  | nil=>exact .nil
  | cons h _ ih=>exact .cons (h.mono e x) ih
theorem Nb.length {vs:List (List L2.Key × V)} {ts:List (List L2.Key × T)} (h:Nb K S as vs ts):vs.length=ts.length:=by
  induction h with
  | nil=>rfl
  | cons _ _ ih=>exact congrArg (· + 1) ih
theorem vq.length {vs:List V} {ts:List T} (h:vq K S as vs ts):vs.length=ts.length :=
  vq.rec (motive_1:=fun _ _ _=>True) (motive_2:=fun v t _=>v.length=t.length) (motive_3:=fun _ _ _=>True) trivial (fun _=>trivial) (fun _=>trivial) (fun _=>trivial) (fun _ _ _=>trivial) (fun _ _ _=>trivial) (fun _ _ _=>trivial) (fun _=>trivial) rfl (fun _ _ _ i=>congrArg (· + 1) i) trivial (fun _ _ _ _=>trivial) h
theorem Dy.length {vs:List (L2.Key × V)} {ts:List (L2.Key × T)} (h:Dy K S as vs ts):vs.length=ts.length :=
  Dy.rec (motive_1:=fun _ _ _=>True) (motive_2:=fun _ _ _=>True) (motive_3:=fun v t _=>v.length=t.length) trivial (fun _=>trivial) (fun _=>trivial) (fun _=>trivial) (fun _ _ _=>trivial) (fun _ _ _=>trivial) (fun _ _ _=>trivial) (fun _=>trivial) trivial (fun _ _ _ _=>trivial) rfl (fun _ _ _ i=>congrArg (· + 1) i) h
theorem vq.get:∀ {vs:List V} {ts:List T} {i:Nat} {t:T},vq K S as vs ts→ts[i]? = some t→∃ v,vs[i]? = some v∧Rep K S as v t
  | _,_,_,_,.nil,e=>by simp at e
  | _,_,0,_,.cons r _,e=>by simp at e; subst e; exact ⟨_,rfl,r⟩
  | _,_,i+1,t,.cons _ r,e=>by
    obtain ⟨v,h1,h2⟩:=vq.get (i:=i) (t:=t) r (by simpa using e)
    exact ⟨v,by simpa using h1,h2⟩
theorem vq.append {vs:List V} {ts:List T} {ws:List V} {us:List T} (h:vq K S as vs ts) (q:vq K S as ws us):vq K S as (vs++ws) (ts++us) :=
  vq.rec (motive_1:=fun _ _ _=>True) (motive_2:=fun v t _=>vq K S as (v++ws) (t++us)) (motive_3:=fun _ _ _=>True) trivial (fun _=>trivial) (fun _=>trivial) (fun _=>trivial) (fun _ _ _=>trivial) (fun _ _ _=>trivial) (fun _ _ _=>trivial) (fun _=>trivial) q (fun h _ _ i=>.cons h i) trivial (fun _ _ _ _=>trivial) h
theorem vq.reverse:∀ {vs:List V} {ts:List T},vq K S as vs ts→vq K S as vs.reverse ts.reverse
  | _,_,.nil=>.nil
  | _,_,.cons h r=>by rw [List.reverse_cons,List.reverse_cons]; exact vq.append (vq.reverse r) (.cons h .nil)
theorem vq.drop:∀ (n:Nat) {vs:List V} {ts:List T},vq K S as vs ts→vq K S as (vs.drop n) (ts.drop n)
  | 0,_,_,r=>r
  | _+1,_,_,.nil=>.nil
  | n+1,_,_,.cons _ r=>vq.drop n r
theorem Dy.get (k:L2.Key):∀ {vs:List (L2.Key × V)} {ts:List (L2.Key × T)},Dy K S as vs ts→(∃ v t,Ls vs k=some v∧Lf k ts=some t∧Rep K S as v t)∨(Ls vs k=none∧Lf k ts=none)
  | _,_,.nil=>.inr ⟨rfl,rfl⟩
  | _,_,.cons (k:=q) (v:=v) (t:=t) (vs:=vs) (ts:=ts) h r=>by
    by_cases e:q=k
    · exact .inl ⟨v,t,Hq (p:=(q,v)) e,by rw [Lf,if_pos e],h⟩
    · rw [Gz (p:=(q,v)) e,Lf,if_neg e]
      exact Dy.get k r
end
structure Bas where
  S:Hp
  as:List Addr
  H:Hp
structure aa8 (B:Bas) (S:Hp) (as:List Addr) (H:Hp):Prop where
  same:Same B.S S
  more:∃ l,as=B.as++l
  keep:∀ p o,B.H p=some o→B.S p=none→p∉B.as→H p=some o∧S p=none∧p∉as
structure Ext (S H S' H':Hp):Prop where
  s:Same S S'
  h:Same H H'
  sub:Same S' H'
  new:∀ p,S' p≠none→S p≠none∨H p=none
theorem Ext.refl {S H:Hp} (h:Same S H):Ext S H S H:=⟨Same.refl _,Same.refl _,h,fun _ q=>.inl q⟩
theorem Same.upd {H:Hp} {p:Addr} (h:H p=none) (o:HO):Same H (upd H p o):=fun b u q=>by rw [nj (Bb q h)]; exact q
theorem Ext.laid {S H:Hp} (h:Same S H) {p:Addr} (n:H p=none) (o:HO):Ext S H (upd S p o) (upd H p o) where
  s:=Same.upd (h.free n) o
  h:=Same.upd n o
  sub:=fun b u q=>by
    by_cases e:b=p
    · subst e; rw [jj] at q ⊢; exact q
    · rw [nj e] at q ⊢; exact h _ _ q
  new:=fun b q=>by
    by_cases e:b=p
    · subst e; exact .inr n
    · rw [nj e] at q; exact .inl q
theorem Ext.trans {S H S1 H1 S2 H2:Hp} (a:Ext S H S1 H1) (b:Ext S1 H1 S2 H2):Ext S H S2 H2 where
  s:=a.s.trans b.s
  h:=a.h.trans b.h
  sub:=b.sub
  new:=fun p q=>by
    rcases b.new p q with z | z
    · exact a.new p z
    · exact .inr (a.h.free z)
noncomputable def Own (K:PySem.W.Frag) (S:Hp) (as:List Addr) (H:Hp) (p:Addr):T→Prop
  | .lst ts=>∃ vs,H p=some (.lst vs)∧vq K S as vs ts
  | .dic ts=>∃ kvs,H p=some (.dK kvs)∧Dy K S as kvs ts
  | _=>False
structure O6 (K:PySem.W.Frag) (B:Bas) (S:Hp) (as:List Addr) (H:Hp) (p:Addr) (t:T):Prop where
  own:Own K S as H p t
  out:S p=none
  nas:p∉as
  new:B.H p=none
noncomputable def a4u (K:PySem.W.Frag) (S:Hp) (as:List Addr) (H:Hp) (a:Addr):SO→Prop
  | .dic ts=>∃ kvs,H a=some (.dK kvs)∧Dy K S as kvs ts
  | .lst ts=>∃ vs,H a=some (.lst vs)∧vq K S as vs ts
  | .dit ts=>∃ kvs,H a=some (.dT kvs)∧Nb K S as kvs ts
structure J5 (K:PySem.W.Frag) (S:Hp) (as:List Addr) (H:Hp) (sto:List SO):Prop where
  len:as.length=sto.length
  nd:as.Nodup
  at':∀ (n:Nat) so,sto[n]? = some so→∃ a,as[n]? = some a∧S a=none∧a4u K S as H a so
structure Rel (K:PySem.W.Frag) (B:Bas) (st:Sta) (σ:L2.St) (H:Hp) (ps:List (V × T)) (S:Hp) (as:List Addr):Prop where
  sub:Same S H
  grow:aa8 B S as H
  slots:∀ (i:Nat) t f,st.env[i]? = some (some (t,f))→∃ v,σ[i]? = some (some v)∧(f=false→Rep K S as v t)∧(f=true→∃ p,v=.ref p∧O6 K B S as H p t)
  apart:∀ (i j:Nat) t u p,st.env[i]? = some (some (t,true))→st.env[j]? = some (some (u,true))→σ[i]? = some (some (.ref p))→σ[j]? = some (some (.ref p))→i=j
  sto:J5 K S as H st.sto
  pend:∀ p∈ps,Rep K S as p.1 p.2
  len:σ.length=st.env.length
noncomputable section
variable {K:PySem.W.Frag} {B:Bas} {st:Sta} {σ:L2.St} {H H' S S':Hp} {ps:List (V × T)} {as:List Addr}
theorem nol {as:List Addr}:∃ l:List Addr,as=as++l:=⟨[],(List.append_nil _).symm⟩
theorem Own.mono {p:Addr} {t:T} (hs:Same S S') (hh:H p=H' p) (o:Own K S as H p t):Own K S' as H' p t:=by
  cases t with
  | lst ts=>obtain ⟨vs,h,r⟩:=o; exact ⟨vs,hh ▸ h,r.mono hs nol⟩
  | dic ts=>obtain ⟨vs,h,r⟩:=o; exact ⟨vs,hh ▸ h,r.mono hs nol⟩
  | _=>exact o.elim
theorem Own.there {p:Addr} {t:T} (o:Own K S as H p t):∃ ob,H p=some ob:=by
  cases t with
  | lst ts=>obtain ⟨vs,h,r⟩:=o; exact ⟨_,h⟩
  | dic ts=>obtain ⟨vs,h,r⟩:=o; exact ⟨_,h⟩
  | _=>exact o.elim
theorem a4u.mono {a:Addr} {so:SO} (hs:Same S S') (hh:H a=H' a) (o:a4u K S as H a so):a4u K S' as H' a so:=by
  cases so with
  | dic ts=>obtain ⟨vs,h,r⟩:=o; exact ⟨vs,hh ▸ h,r.mono hs nol⟩
  | lst ts=>obtain ⟨vs,h,r⟩:=o; exact ⟨vs,hh ▸ h,r.mono hs nol⟩
  | dit ts=>obtain ⟨vs,h,r⟩:=o; exact ⟨vs,hh ▸ h,r.mono hs nol⟩
theorem a4u.there {a:Addr} {so:SO} (o:a4u K S as H a so):∃ ob,H a=some ob:=by
  cases so with
  | dic ts=>obtain ⟨vs,h,r⟩:=o; exact ⟨_,h⟩
  | lst ts=>obtain ⟨vs,h,r⟩:=o; exact ⟨_,h⟩
  | dit ts=>obtain ⟨vs,h,r⟩:=o; exact ⟨_,h⟩
theorem Ext.outs (x:Ext S H S' H') {p:Addr} {o:HO} (h:H p=some o) (n:S p=none):S' p=none:=by
  cases q:S' p with
  | none=>rfl
  | some u =>
    rcases x.new p (by rw [q]; exact Option.some_ne_none _) with z | z
    · exact absurd n z
    · rw [h] at z; cases z
theorem J5.ext {sto:List SO} (r:J5 K S as H sto) (x:Ext S H S' H'):J5 K S' as H' sto where
  len:=r.len
  nd:=r.nd
  at':=fun n so e=>by
    obtain ⟨a,h1,h2,h3⟩:=r.at' n so e
    obtain ⟨ob,ho⟩:=h3.there
    exact ⟨a,h1,x.outs ho h2,h3.mono x.s (by rw [ho,x.h _ _ ho])⟩
theorem Rel.ext (r:Rel K B st σ H ps S as) (x:Ext S H S' H'):Rel K B st σ H' ps S' as where
  sub:=x.sub
  grow:=⟨r.grow.same.trans x.s,r.grow.more,fun p o h1 h2 h3=>by
    obtain ⟨a,b,c⟩:=r.grow.keep p o h1 h2 h3
    exact ⟨x.h _ _ a,x.outs a b,c⟩⟩
  slots:=fun i t f e=>by
    obtain ⟨v,h1,h2,h3⟩:=r.slots i t f e
    refine ⟨v,h1,fun q=>(h2 q).mono x.s nol,fun q=>?_⟩
    obtain ⟨p,e,o⟩:=h3 q
    obtain ⟨ob,ho⟩:=o.own.there
    exact ⟨p,e,o.own.mono x.s (by rw [ho,x.h _ _ ho]),x.outs ho o.out,o.nas,o.new⟩
  apart:=r.apart
  sto:=r.sto.ext x
  pend:=fun p hp=>(r.pend p hp).mono x.s nol
  len:=r.len
theorem Rel.push (r:Rel K B st σ H ps S as) {v:V} {t:T} (h:Rep K S as v t):Rel K B st σ H ((v,t)::ps) S as :=
  ⟨r.sub,r.grow,r.slots,r.apart,r.sto,fun p hp=>by
    rcases List.mem_cons.mp hp with rfl | z
    · exact h
    · exact r.pend p z,r.len⟩
theorem Rel.drop {p:V × T} (r:Rel K B st σ H (p::ps) S as):Rel K B st σ H ps S as :=
  ⟨r.sub,r.grow,r.slots,r.apart,r.sto,fun q hq=>r.pend q (List.mem_cons_of_mem _ hq),r.len⟩
theorem Rel.top {v:V} {t:T} (r:Rel K B st σ H ((v,t)::ps) S as):Rep K S as v t:=r.pend (v,t) List.mem_cons_self
theorem Rel.top2 {v:V} {t:T} {q:V × T} (r:Rel K B st σ H (q::(v,t)::ps) S as):Rep K S as v t:=r.pend (v,t) (List.mem_cons_of_mem _ List.mem_cons_self)
end
inductive tOf (K:PySem.W.Frag) (B:Bas) (m:M T) (σ:L2.St) (H:Hp) (Q:VK):Prop
  | mk (st:Sta) (ps:List (V × T)) (S:Hp) (as:List Addr) (R:Rel K B st σ H ps S as) (t:T) (st':Sta) (e:m st=some (t,st')) (q:∀ v H' S' as',Rel K B st' σ H' ((v,t)::ps) S' as'→Q v H')
inductive cOf (K:PySem.W.Frag) (B:Bas) (m:M Bool) (σ:L2.St) (H:Hp) (Q:Bool→Hp→Prop):Prop
  | mk (st:Sta) (ps:List (V × T)) (S:Hp) (as:List Addr) (R:Rel K B st σ H ps S as) (b:Bool) (st':Sta) (e:m st=some (b,st')) (q:∀ H' S' as',Rel K B st' σ H' ps S' as'→Q b H')
inductive aOf (K:PySem.W.Frag) (B:Bas) (m:M (List T)) (σ:L2.St) (H:Hp) (Q:List V→Hp→Prop):Prop
  | mk (st:Sta) (ps:List (V × T)) (S:Hp) (as:List Addr) (R:Rel K B st σ H ps S as) (ts:List T) (st':Sta) (e:m st=some (ts,st')) (q:∀ vs H' S' as',Rel K B st' σ H' ps S' as'→vq K S' as' vs ts→Q vs H')
theorem _root_.L2.PE.imp {X:Cx} {e:Expr} {t t':TE} (h:PE X e t) (i:∀ σ H Q,t' σ H Q→t σ H Q):PE X e t':=fun pins s σ H Q I q=>h pins s σ H Q I (i σ H Q q)
theorem _root_.L2.PT.imp {X:Cx} {e:Expr} {t t':TT} (h:PT X e t) (i:∀ σ H Q,t' σ H Q→t σ H Q):PT X e t':=fun pins s σ H Q I q=>h pins s σ H Q I (i σ H Q q)
theorem _root_.L2.PA.imp {X:Cx} {e:List Expr} {t t':TA} (h:PA X e t) (i:∀ σ H Q,t' σ H Q→t σ H Q):PA X e t':=fun pos pins s σ H Q I q=>h pos pins s σ H Q I (i σ H Q q)
theorem _root_.L2.PS.imp {X:Cx} {e:Stmt} {t t':TS} (h:PS X e t) (i:∀ D σ H,t' D σ H→t D σ H):PS X e t':=fun pins s σ H D I q=>h pins s σ H D I (i D σ H q)
theorem _root_.L2.PSs.imp {X:Cx} {e:List Stmt} {t t':TS} (h:PSs X e t) (i:∀ D σ H,t' D σ H→t D σ H):PSs X e t':=fun pins s σ H D I q=>h pins s σ H D I (i D σ H q)
noncomputable def r2 (K:PySem.W.Frag) (f:T→T→Option T):R2:=fun x y H Q=>∃ S as t u w,Same S H∧Rep K S as x t∧Rep K S as y u∧f t u=some w∧∀ v H' S',Ext S H S' H'→Rep K S' as v w→Q v H'
noncomputable def r1 (K:PySem.W.Frag) (f:T→Option T):V→Hp→VK→Prop:=fun x H Q=>∃ S as t w,Same S H∧Rep K S as x t∧f t=some w∧∀ v H' S',Ext S H S' H'→Rep K S' as v w→Q v H'
noncomputable def rL (K:PySem.W.Frag) (f:List T→Option T):List V→Hp→VK→Prop:=fun xs H Q=>∃ S as ts w,Same S H∧vq K S as xs ts∧f ts=some w∧∀ v H' S',Ext S H S' H'→Rep K S' as v w→Q v H'
noncomputable abbrev OpT (X:Cx) (f:Value→Value→Sem Value) (g:T→T→Option T):Prop:=OpR X f (r2 X.K g)
noncomputable abbrev UnT (X:Cx) (f:Value→Sem Value) (g:T→Option T):Prop:=UnR X f (r1 X.K g)
noncomputable abbrev V0 (X:Cx) (f:Value) (g:List T→Option T):Prop:=Dz X f (rL X.K g)
noncomputable section
variable {X:Cx} {B:Bas} {a b c:Expr} {m m1 m2:M T} {pos:Pos}
theorem J9 {v:V} {t:T} {e:Expr} (h:PE X e (tC v)) (r:∀ S as,Rep X.K S as v t):PE X e (tOf X.K B (aq t)):=h.imp fun σ H Q z9=>by
  obtain ⟨st,ps,S,as,R,t',st',e,q⟩:=z9
  cases e
  exact q v H S as (R.push (r S as))
theorem cg {i:Int} {j:Nat}:PE X (.Constant (.int i) j pos) (tOf X.K B (aq (.int i))):=J9 a9r fun _ _=>.int i
theorem a6s {i:Bool} {j:Nat}:PE X (.Constant (.bool i) j pos) (tOf X.K B (aq (.bl i))):=J9 ab8 fun _ _=>.bl i
theorem iy {i:Str} {j:Nat}:PE X (.Constant (.str i) j pos) (tOf X.K B (aq (.str i))):=J9 a8s fun _ _=>.str i
theorem ju {op:Operator} {f:T→T→Option T} (ho:OpT X (binaryOp op) f) (ha:PE X a (tOf X.K B m1)) (hb:PE X b (tOf X.K B m2)):PE X (.BinOp a op b pos) (tOf X.K B (mOp f m1 m2)) :=
  (a5u ho ha hb).imp fun σ H Q z9=>by
    obtain ⟨st,ps,S,as,R,t,st',e,q⟩:=z9
    obtain ⟨t1,s1,t2,e1,e2,e3⟩:=Pn e
    refine ⟨st,ps,S,as,R,t1,s1,e1,fun v H1 S1 as1 R1=>⟨s1,_,S1,as1,R1,t2,st',e2,fun u H2 S2 as2 R2=>?_⟩⟩
    exact ⟨S2,as2,t1,t2,t,R2.sub,R2.top2,R2.top,e3,fun w H3 S3 x r=>q w H3 S3 as2 ((R2.drop.drop.ext x).push r)⟩
end
end C
end
noncomputable section
set_option linter.all false
set_option maxRecDepth 100000
set_option maxHeartbeats 4000002
set_option autoImplicit false
namespace C
open PySem PySem.Spec PyProof.Rows L2
noncomputable section
variable {K:PySem.W.Frag} {B:Bas} {st:Sta} {σ:L2.St} {H H' S S':Hp} {ps:List (V × T)} {as:List Addr}
theorem Rel.freeze (r:Rel K B st σ H ps S as) {i:Nat} {t:T} (e:st.env[i]? = some (some (t,true))) :
    ∃ v S',σ[i]? = some (some v)∧Rel K B { st with env:=st.env.set i (some (t,false)) } σ H ((v,t)::ps) S' as:=by
  obtain ⟨v,h1,_,h3⟩:=r.slots i t true e
  obtain ⟨p,rfl,o⟩:=h3 rfl
  obtain ⟨ob,ho⟩:=o.own.there
  have hi:i<st.env.length:=(List.getElem?_eq_some_iff.mp e).1
  have sS:Same S (upd S p ob):=Same.upd o.out ob
  have rep:Rep K (upd S p ob) as (.ref p) t:=by
    have w:=o.own
    cases t with
    | lst ts=>obtain ⟨vs,h,q⟩:=w; rw [ho] at h; cases h; exact .lst (SqL.of jj) (q.mono sS nol)
    | dic ts=>obtain ⟨vs,h,q⟩:=w; rw [ho] at h; cases h; exact .dic (.inl jj) (q.mono sS nol)
    | _=>exact w.elim
  have outs:∀ q,S q=none→q≠p→upd S p ob q=none:=fun q h n=>by rw [nj n]; exact h
  refine ⟨.ref p,upd S p ob,h1,?_⟩
  refine Rel.push (v:=.ref p) (t:=t) ⟨?_,?_,?_,?_,?_,?_,?_⟩ rep
  · intro b u q
    by_cases z:b=p
    · subst z; rw [jj] at q; cases q; exact ho
    · rw [nj z] at q; exact r.sub _ _ q
  · refine ⟨r.grow.same.trans sS,r.grow.more,fun q w a b c=>?_⟩
    obtain ⟨x,y,z⟩:=r.grow.keep q w a b c
    refine ⟨x,outs q y fun n=>?_,z⟩
    subst n; rw [o.new] at a; cases a
  · intro j u f ej
    by_cases hij:i=j
    · subst hij
      rw [List.getElem?_set_self hi] at ej
      cases ej
      exact ⟨.ref p,h1,fun _=>rep,fun z=>by cases z⟩
    · rw [List.getElem?_set_ne hij] at ej
      obtain ⟨v',a1,a2,a3⟩:=r.slots j u f ej
      refine ⟨v',a1,fun z=>(a2 z).mono sS nol,fun z=>?_⟩
      subst z
      obtain ⟨p',rfl,o'⟩:=a3 rfl
      refine ⟨p',rfl,o'.own.mono sS rfl,outs p' o'.out fun n=>?_,o'.nas,o'.new⟩
      subst n
      exact hij (r.apart i j t u p' e ej h1 a1)
  · intro j k u w q ej ek
    have hj:st.env[j]? = some (some (u,true)):=by
      by_cases hij:i=j
      · subst hij; rw [List.getElem?_set_self hi] at ej; cases ej
      · rwa [List.getElem?_set_ne hij] at ej
    have hk:st.env[k]? = some (some (w,true)):=by
      by_cases hij:i=k
      · subst hij; rw [List.getElem?_set_self hi] at ek; cases ek
      · rwa [List.getElem?_set_ne hij] at ek
    exact r.apart j k u w q hj hk
  · refine ⟨r.sto.len,r.sto.nd,fun n so en=>?_⟩
    obtain ⟨a,a1,a2,a3⟩:=r.sto.at' n so en
    refine ⟨a,a1,outs a a2 fun z=>?_,a3.mono sS rfl⟩
    subst z
    exact o.nas (List.mem_of_getElem? a1)
  · exact fun q hq=>(r.pend q hq).mono sS nol
  · show σ.length=(st.env.set i _).length
    rw [List.length_set]; exact r.len
end
noncomputable section
variable {X:Cx} {B:Bas} {a b c:Expr} {m m1 m2:M T} {pos:Pos}
theorem au (i:Nat) {e:Expr} (h:PE X e (W3 i)):PE X e (tOf X.K B (bw i)):=h.imp fun σ H Q z9=>by
  obtain ⟨st,ps,S,as,R,t,st',e,q⟩:=z9
  rcases a2c e with ⟨e1,rfl⟩ | ⟨e1,rfl⟩
  · obtain ⟨v,h1,h2,_⟩:=R.slots i t false e1
    exact ⟨v,h1,q v H S as (R.push (h2 rfl))⟩
  · obtain ⟨v,S',h1,R'⟩:=R.freeze e1
    exact ⟨v,h1,q v H S' as R'⟩
theorem bf:PA X [] (aOf X.K B d9):=w6.imp fun σ H Q z9=>by
  obtain ⟨st,ps,S,as,R,ts,st',e,q⟩:=z9
  cases e
  exact q [] H S as R .nil
theorem aj {es:List Expr} {ms:M (List T)} (ha:PE X a (tOf X.K B m)) (hr:PA X es (aOf X.K B ms)) (hs:starEach (a::es) X.env=(false,eval a X.env)::starEach es X.env:=by rfl):PA X (a::es) (aOf X.K B (ak m ms)) :=
  (qw ha hr hs).imp fun σ H Q z9=>by
    obtain ⟨st,ps,S,as,R,ts,st',e,q⟩:=z9
    obtain ⟨t,s1,us,e1,e2,rfl⟩:=Ak e
    refine ⟨st,ps,S,as,R,t,s1,e1,fun v H1 S1 as1 R1=>⟨s1,_,S1,as1,R1,us,st',e2,fun vs H2 S2 as2 R2 rs=>?_⟩⟩
    exact q (v::vs) H2 S2 as2 R2.drop (.cons R2.top rs)
theorem fj {es:List Expr} {ms:M (List T)} {k:Nat} (h:PA X es (aOf X.K B ms)) (hm:∀ st ts st',ms st=some (ts,st')→ts.length≤1000):PE X (.Tuple es k pos) (tOf X.K B (gb (fun l=>some (.tup l)) ms)) :=
  (a4n h).imp fun σ H Q z9=>by
    obtain ⟨st,ps,S,as,R,t,st',e,q⟩:=z9
    obtain ⟨ts,e1,e2⟩:=Df e
    cases e2
    refine ⟨st,ps,S,as,R,ts,st',e1,fun vs H1 S1 as1 R1 rs=>⟨?_,fun p hp=>?_⟩⟩
    · rw [rs.length]; exact Nat.le_of_lt (Hs (hm _ _ _ e1))
    · have x:=Ext.laid R1.sub hp (.tup vs)
      exact q _ _ _ _ ((R1.ext x).push (.tup (SqT.of jj) (rs.mono x.s nol)))
theorem Aa {es:List Expr} {ms:M (List T)} (h:PA X es (aOf X.K B ms)) (hm:∀ st ts st',ms st=some (ts,st')→ts.length≤1000):PE X (.List es pos) (tOf X.K B (gb (fun l=>some (.lst l)) ms)) :=
  (a5n h).imp fun σ H Q z9=>by
    obtain ⟨st,ps,S,as,R,t,st',e,q⟩:=z9
    obtain ⟨ts,e1,e2⟩:=Df e
    cases e2
    refine ⟨st,ps,S,as,R,ts,st',e1,fun vs H1 S1 as1 R1 rs=>⟨?_,fun p hp=>?_⟩⟩
    · rw [rs.length]; exact Nat.le_of_lt (Hs (hm _ _ _ e1))
    · have x:=Ext.laid R1.sub hp (.lst vs)
      exact q _ _ _ _ ((R1.ext x).push (.lst (SqL.of jj) (rs.mono x.s nol)))
theorem cj:∀ st ts st',d9 st=some (ts,st')→ts.length≤0:=fun st ts st' e=>by cases e; exact Nat.le_refl _
theorem ao {r:M (List T)} {n:Nat} (h:∀ st ts st',r st=some (ts,st')→ts.length≤n):∀ st ts st',ak m r st=some (ts,st')→ts.length≤n+1:=fun st ts st' e=>by
  obtain ⟨t,s1,us,e1,e2,rfl⟩:=Ak e
  exact Nat.succ_le_succ (h _ _ _ e2)
theorem n6 {ms:M (List T)} {f:List T→Option T} {e:Expr} (h:PE X e (tCB (rL X.K f) (aOf X.K B ms))):PE X e (tOf X.K B (gb f ms)) :=
  h.imp fun σ H Q z9=>by
    obtain ⟨st,ps,S,as,R,t,st',e,q⟩:=z9
    obtain ⟨ts,e1,e2⟩:=Df e
    refine ⟨st,ps,S,as,R,ts,st',e1,fun vs H1 S1 as1 R1 rs=>⟨S1,as1,ts,t,R1.sub,rs,e2,fun v H2 S2 x r=>?_⟩⟩
    exact q v H2 S2 as1 ((R1.ext x).push r)
theorem Vk {f:T→T→Option T} {e:Expr} (h:PE X e (tOp (r2 X.K f) (tOf X.K B m1) (tOf X.K B m2))):PE X e (tOf X.K B (mOp f m1 m2)) :=
  h.imp fun σ H Q z9=>by
    obtain ⟨st,ps,S,as,R,t,st',e,q⟩:=z9
    obtain ⟨t1,s1,t2,e1,e2,e3⟩:=Pn e
    refine ⟨st,ps,S,as,R,t1,s1,e1,fun v H1 S1 as1 R1=>⟨s1,_,S1,as1,R1,t2,st',e2,fun u H2 S2 as2 R2=>?_⟩⟩
    exact ⟨S2,as2,t1,t2,t,R2.sub,R2.top2,R2.top,e3,fun w H3 S3 x r=>q w H3 S3 as2 ((R2.drop.drop.ext x).push r)⟩
theorem a3m {f:T→Option T} {e:Expr} (h:PE X e (tUn (r1 X.K f) (tOf X.K B m))):PE X e (tOf X.K B (mUn f m)) :=
  h.imp fun σ H Q z9=>by
    obtain ⟨st,ps,S,as,R,t,st',e,q⟩:=z9
    obtain ⟨t1,e1,e3⟩:=Zj e
    refine ⟨st,ps,S,as,R,t1,st',e1,fun v H1 S1 as1 R1=>⟨S1,as1,t1,t,R1.sub,R1.top,e3,fun w H3 S3 x r=>q w H3 S3 as1 ((R1.drop.ext x).push r)⟩⟩
theorem a1f {op:CmpOp} {f:T→T→Option T} (ho:OpT X (compareOp op) f) (ha:PE X a (tOf X.K B m1)) (hb:PE X b (tOf X.K B m2)) (hm:behindInMarks op b=false):PE X (.Compare a [op] [b] pos) (tOf X.K B (mOp f m1 m2)):=Vk (a6y ho ha hb hm)
theorem Gi {op:UnaryOp} {f:T→Option T} (ho:UnT X (unaryOp op) f) (ha:PE X a (tOf X.K B m)):PE X (.UnaryOp op a pos) (tOf X.K B (mUn f m)):=a3m (abk ho ha)
theorem Ij {e:Expr} (h:PT X e (a8r (tOf X.K B m))):PT X e (cOf X.K B (gq m)):=h.imp fun σ H Q z9=>by
  obtain ⟨st,ps,S,as,R,t,st',e,q⟩:=z9
  refine ⟨st,ps,S,as,R,.bl t,st',Zw e,fun v H1 S1 as1 R1=>?_⟩
  cases R1.top
  exact ⟨t,rfl,q H1 S1 as1 R1.drop⟩
theorem nu {op:CmpOp} {f:T→T→Option T} (ho:OpT X (compareOp op) f) (ha:PE X a (tOf X.K B m1)) (hb:PE X b (tOf X.K B m2)) (hm:behindInMarks op b=false):PT X (.Compare a [op] [b] pos) (cOf X.K B (gq (mOp f m1 m2))) :=
  Ij ((Z8 ho ha hb hm).imp fun σ H Q z9=>by
    obtain ⟨st,ps,S,as,R,t,st',e,q⟩:=z9
    obtain ⟨t1,s1,t2,e1,e2,e3⟩:=Pn e
    refine ⟨st,ps,S,as,R,t1,s1,e1,fun v H1 S1 as1 R1=>⟨s1,_,S1,as1,R1,t2,st',e2,fun u H2 S2 as2 R2=>?_⟩⟩
    exact ⟨S2,as2,t1,t2,t,R2.sub,R2.top2,R2.top,e3,fun w H3 S3 x r=>q w H3 S3 as2 ((R2.drop.drop.ext x).push r)⟩)
theorem a5e {e:Expr} (h:PE X e (tOf X.K B m)) (he:∀ whole,isTrue e X.env whole=(do let v ← whole; standAt e.pos; holding [v] (truthy v)):=by intro _; rfl):PT X e (cOf X.K B (gq m)) :=
  Ij ((a9g h he).imp fun σ H Q h=>h)
theorem a9l {c1:M Bool} (ha:PT X a (cOf X.K B c1)):PT X (.UnaryOp .Not a pos) (cOf X.K B (uc c1)):=(a86 ha).imp fun σ H Q z9=>by
  obtain ⟨st,ps,S,as,R,t,st',e,q⟩:=z9
  obtain ⟨k,e1,rfl⟩:=a1y e
  exact ⟨st,ps,S,as,R,k,st',e1,q⟩
theorem a66 {c1:M Bool} (ha:PT X a (cOf X.K B c1)):PW X (.BoolOp .And [a] pos) (cOf X.K B c1):=pw_and1 ha
theorem a8m {c1:M Bool} (ha:PT X a (cOf X.K B c1)):PW X (.BoolOp .Or [a] pos) (cOf X.K B c1):=pw_or1 ha
theorem a91 {e:Expr} {t t':TT} (h:PW X e t) (i:∀ σ H Q,t' σ H Q→t σ H Q):PW X e t':=fun whole pins s σ H Q I q=>h whole pins s σ H Q I (i σ H Q q)
theorem a9y {c1 c2:M Bool} {rest:List Expr} (ha:PT X a (cOf X.K B c1)) (hb:PW X (.BoolOp .And (b::rest) pos) (cOf X.K B c2)):PW X (.BoolOp .And (a::b::rest) pos) (cOf X.K B (u6 c1 c2)) :=
  a91 (pw_and ha hb) fun σ H Q z9=>by
    obtain ⟨st,ps,S,as,R,t,st',e,q⟩:=z9
    rcases a3o e with ⟨s1,e1,e2⟩ | ⟨e1,rfl⟩
    · exact ⟨st,ps,S,as,R,true,s1,e1,fun H1 S1 as1 R1=>a7r (⟨s1,ps,S1,as1,R1,t,st',e2,q⟩)⟩
    · exact ⟨st,ps,S,as,R,false,st',e1,fun H1 S1 as1 R1=>a7m (q H1 S1 as1 R1)⟩
theorem abm {c1 c2:M Bool} {rest:List Expr} (ha:PT X a (cOf X.K B c1)) (hb:PW X (.BoolOp .Or (b::rest) pos) (cOf X.K B c2)):PW X (.BoolOp .Or (a::b::rest) pos) (cOf X.K B (mOr c1 c2)) :=
  a91 (pw_or ha hb) fun σ H Q z9=>by
    obtain ⟨st,ps,S,as,R,t,st',e,q⟩:=z9
    rcases a6g e with ⟨s1,e1,e2⟩ | ⟨e1,rfl⟩
    · exact ⟨st,ps,S,as,R,false,s1,e1,fun H1 S1 as1 R1=>a7m (⟨s1,ps,S1,as1,R1,t,st',e2,q⟩)⟩
    · exact ⟨st,ps,S,as,R,true,st',e1,fun H1 S1 as1 R1=>a7r (q H1 S1 as1 R1)⟩
theorem a2u {c1:M Bool} (hc:PT X c (cOf X.K B c1)) (ha:PE X a (tOf X.K B m1)) (hb:PE X b (tOf X.K B m2)):PE X (.IfExp c a b pos) (tOf X.K B (mIf c1 m1 m2)) :=
  (a2v hc ha hb).imp fun σ H Q z9=>by
    obtain ⟨st,ps,S,as,R,t,st',e,q⟩:=z9
    rcases a71 e with ⟨s1,e1,e2⟩ | ⟨s1,e1,e2⟩
    · exact ⟨st,ps,S,as,R,true,s1,e1,fun H1 S1 as1 R1=>a7r (⟨s1,ps,S1,as1,R1,t,st',e2,q⟩)⟩
    · exact ⟨st,ps,S,as,R,false,s1,e1,fun H1 S1 as1 R1=>a7m (⟨s1,ps,S1,as1,R1,t,st',e2,q⟩)⟩
end
end C
end
noncomputable section
set_option linter.all false
set_option maxRecDepth 100000
set_option maxHeartbeats 4000002
set_option autoImplicit false
namespace C
open PySem PySem.Spec PyProof.Rows L2
theorem a3z {a b:S} {s s':Sta} {fl:Flow} (h:jc a b s=some (fl,s')):(∃ s1,a s=some (.next,s1)∧b s1=some (fl,s'))∨(a s=some (fl,s')∧fl≠.next):=by
  unfold jc at h
  split at h
  · rename_i s1 e; exact .inl ⟨s1,e,h⟩
  · rename_i r hr; exact .inr ⟨h,fun z=>by subst z; exact hr _ h⟩
theorem V7 {e:M T} {s s':Sta} {fl:Flow} (h:jr e s=some (fl,s')):∃ t,e s=some (t,s')∧fl=.ret t:=by
  unfold jr at h
  split at h
  · rename_i t s1 e; cases h; exact ⟨t,e,rfl⟩
  · cases h
theorem Td {c:M Bool} {a b:S} {s s':Sta} {fl:Flow} (h:sIf c a b s=some (fl,s')):(∃ s1,c s=some (true,s1)∧a s1=some (fl,s'))∨(∃ s1,c s=some (false,s1)∧b s1=some (fl,s')):=by
  unfold sIf at h
  split at h
  · rename_i s1 e; exact .inl ⟨s1,e,h⟩
  · rename_i s1 e; exact .inr ⟨s1,e,h⟩
  · cases h
theorem a3n {i:Nat} {e:M T} {s s':Sta} {fl:Flow} (h:jw i e s=some (fl,s')):∃ t s1,e s=some (t,s1)∧fl=.next∧s'=dh i t false s1:=by
  unfold jw at h
  split at h
  · rename_i t s1 e; cases h; exact ⟨t,s1,e,rfl,rfl⟩
  · cases h
theorem a3f {i:Nat} {e:M T} {s s':Sta} {fl:Flow} (h:sNew i e s=some (fl,s')):∃ t s1,e s=some (t,s1)∧fl=.next∧s'=dh i t true s1:=by
  unfold sNew at h
  split at h
  · rename_i t s1 e; cases h; exact ⟨t,s1,e,rfl,rfl⟩
  · cases h
theorem a2r {g:G} {it:M (List T)} {b:S} {s s':Sta} {fl:Flow} (h:m9 g it b s=some (fl,s')):∃ ts s1,it s=some (ts,s1)∧forL g b ts s1=some (fl,s'):=by
  unfold m9 at h
  split at h
  · rename_i ts s1 e; exact ⟨ts,s1,e,h⟩
  · cases h
theorem U7 {i:Nat} {e:M T} {s s':Sta} {fl:Flow} (h:dz i e s=some (fl,s')) :
    jf i s=true∧∃ t s1 xs,e s=some (t,s1)∧s1.env[i]? = some (some (.lst xs,true))∧xs.length<lim∧fl=.next∧s'=dh i (.lst (xs++[t])) true s1:=by
  unfold dz at h
  split at h
  · rename_i hd
    refine ⟨hd,?_⟩
    split at h
    · rename_i t s1 e
      split at h
      · rename_i xs ex
        split at h
        · rename_i hl; cases h; exact ⟨t,s1,xs,e,ex,hl,rfl,rfl⟩
        · cases h
      · cases h
    · cases h
  · cases h
theorem Ui {i:Nat} {e:M T} {s s':Sta} {fl:Flow} (h:fu i e s=some (fl,s')) :
    jf i s=true∧∃ t s1 xs ys,e s=some (t,s1)∧jh t=some ys∧s1.env[i]? = some (some (.lst xs,true))∧xs.length+ys.length<lim∧fl=.next∧s'=dh i (.lst (xs++ys)) true s1:=by
  unfold fu at h
  split at h
  · rename_i hd
    refine ⟨hd,?_⟩
    split at h
    · rename_i t s1 e
      split at h
      · rename_i ys xs ey ex
        split at h
        · rename_i hl; cases h; exact ⟨t,s1,_,_,e,ey,ex,hl,rfl,rfl⟩
        · cases h
      · cases h
    · cases h
  · cases h
theorem Uk {i:Nat} {k v:M T} {s s':Sta} {fl:Flow} (h:Aq i k v s=some (fl,s')) :
    ∃ t s1 kt s2 kvs q,v s=some (t,s1)∧O4 i s1=true∧k s1=some (kt,s2)∧s2.env[i]? = some (some (.dic kvs,true))∧keyOf kt=some q∧kvs.length<lim∧fl=.next∧s'=dh i (.dic (Lh q t kvs)) true s2:=by
  unfold Aq at h
  split at h
  · rename_i t s1 e
    split at h
    · rename_i hd
      split at h
      · rename_i kt s2 ek
        split at h
        · rename_i kvs q ex eq
          split at h
          · rename_i hl; cases h; exact ⟨t,s1,kt,s2,_,_,e,hd,ek,ex,eq,hl,rfl,rfl⟩
          · cases h
        · cases h
      · cases h
    · cases h
  · cases h
noncomputable section
variable {K:PySem.W.Frag} {B:Bas} {st:Sta} {σ:L2.St} {H H' S S':Hp} {ps ps2:List (V × T)} {as as':List Addr}
theorem Rel.pick (r:Rel K B st σ H ps S as) (h:∀ p∈ps2,p∈ps):Rel K B st σ H ps2 S as :=
  ⟨r.sub,r.grow,r.slots,r.apart,r.sto,fun p hp=>r.pend p (h p hp),r.len⟩
theorem Oz {α:Type} {l:List α} {i:Nat} {x:α} (h:l.length≤i):l.set i x=l:=List.set_eq_of_length_le h
theorem Rel.put (r:Rel K B st σ H ps S as) {i:Nat} {v:V} {t:T} (h:Rep K S as v t):Rel K B (dh i t false st) (σ.set i (some v)) H ps S as:=by
  by_cases hi:i<st.env.length
  · have hs:i<σ.length:=by rw [r.len]; exact hi
    refine ⟨r.sub,r.grow,fun j u f e=>?_,fun j k u w p ej ek sj sk=>?_,r.sto,r.pend,by show _=(st.env.set i _).length; rw [List.length_set,List.length_set]; exact r.len⟩
    · have e:(st.env.set i (some (t,false)))[j]? = some (some (u,f)):=e
      by_cases hij:i=j
      · subst hij
        rw [List.getElem?_set_self hi] at e; cases e
        exact ⟨v,List.getElem?_set_self hs,fun _=>h,fun z=>by cases z⟩
      · rw [List.getElem?_set_ne hij] at e ⊢
        exact r.slots j u f e
    · have ej:(st.env.set i (some (t,false)))[j]? = some (some (u,true)):=ej
      have ek:(st.env.set i (some (t,false)))[k]? = some (some (w,true)):=ek
      have hij:i≠j:=fun z=>by subst z; rw [List.getElem?_set_self hi] at ej; cases ej
      have hik:i≠k:=fun z=>by subst z; rw [List.getElem?_set_self hi] at ek; cases ek
      rw [List.getElem?_set_ne hij] at ej sj
      rw [List.getElem?_set_ne hik] at ek sk
      exact r.apart j k u w p ej ek sj sk
  · have e1:dh i t false st=st:=by unfold dh; rw [Oz (Nat.le_of_not_lt hi)]
    have e2:σ.set i (some v)=σ:=Oz (by rw [r.len]; exact Nat.le_of_not_lt hi)
    rw [e1,e2]; exact r
noncomputable def M7 (st:Sta) (σ:L2.St) (p:Addr):Prop:=∀ (j:Nat) u,st.env[j]? = some (some (u,true))→σ[j]? = some (some (.ref p))→False
theorem Rel.a9t (r:Rel K B st σ H ps S as) {i:Nat} {p:Addr} {t:T} (h:O6 K B S as H p t) (hn:M7 st σ p):Rel K B (dh i t true st) (σ.set i (some (.ref p))) H ps S as:=by
  by_cases hi:i<st.env.length
  · have hs:i<σ.length:=by rw [r.len]; exact hi
    refine ⟨r.sub,r.grow,fun j u f e=>?_,fun j k u w q ej ek sj sk=>?_,r.sto,r.pend,by show _=(st.env.set i _).length; rw [List.length_set,List.length_set]; exact r.len⟩
    · have e:(st.env.set i (some (t,true)))[j]? = some (some (u,f)):=e
      by_cases hij:i=j
      · subst hij
        rw [List.getElem?_set_self hi] at e; cases e
        exact ⟨.ref p,List.getElem?_set_self hs,(fun z=>by cases z),fun _=>⟨p,rfl,h⟩⟩
      · rw [List.getElem?_set_ne hij] at e ⊢
        exact r.slots j u f e
    · have ej:(st.env.set i (some (t,true)))[j]? = some (some (u,true)):=ej
      have ek:(st.env.set i (some (t,true)))[k]? = some (some (w,true)):=ek
      by_cases hij:i=j
      · by_cases hik:i=k
        · rw [← hij,← hik]
        · subst hij
          rw [List.getElem?_set_self hs] at sj; cases sj
          rw [List.getElem?_set_ne hik] at ek sk
          exact (hn k w ek sk).elim
      · rw [List.getElem?_set_ne hij] at ej sj
        by_cases hik:i=k
        · subst hik
          rw [List.getElem?_set_self hs] at sk; cases sk
          exact (hn j u ej sj).elim
        · rw [List.getElem?_set_ne hik] at ek sk
          exact r.apart j k u w q ej ek sj sk
  · have e1:dh i t true st=st:=by unfold dh; rw [Oz (Nat.le_of_not_lt hi)]
    have e2:σ.set i (some (.ref p))=σ:=Oz (by rw [r.len]; exact Nat.le_of_not_lt hi)
    rw [e1,e2]; exact r
theorem Rel.turn (r:Rel K B st σ H ps S as) {i:Nat} {t t':T} {p:Addr} {ob:HO} (e:st.env[i]? = some (some (t,true))) (hp:σ[i]? = some (some (.ref p))) (h:Own K S as (upd H p ob) p t') :
    Rel K B (dh i t' true st) σ (upd H p ob) ps S as:=by
  obtain ⟨v,h1,_,h3⟩:=r.slots i t true e
  rw [hp] at h1; cases h1
  obtain ⟨p',ep,o⟩:=h3 rfl
  cases ep
  have hi:i<st.env.length:=(List.getElem?_eq_some_iff.mp e).1
  have other:∀ q,q≠p→H q=upd H p ob q:=fun q n=>(nj n).symm
  refine ⟨fun b u q=>?_,⟨r.grow.same,r.grow.more,fun q w a b c=>?_⟩,fun j u f ej=>?_,fun j k u w q ej ek sj sk=>?_,⟨r.sto.len,r.sto.nd,fun n so en=>?_⟩,r.pend,by show _=(st.env.set i _).length; rw [List.length_set]; exact r.len⟩
  · have n:b≠p:=fun z=>by subst z; rw [o.out] at q; cases q
    rw [nj n]; exact r.sub _ _ q
  · obtain ⟨x,y,z⟩:=r.grow.keep q w a b c
    have n:q≠p:=fun z=>by subst z; rw [o.new] at a; cases a
    exact ⟨by rw [nj n]; exact x,y,z⟩
  · have ej:(st.env.set i (some (t',true)))[j]? = some (some (u,f)):=ej
    by_cases hij:i=j
    · subst hij
      rw [List.getElem?_set_self hi] at ej; cases ej
      exact ⟨.ref p,hp,(fun z=>by cases z),fun _=>⟨p,rfl,h,o.out,o.nas,o.new⟩⟩
    · rw [List.getElem?_set_ne hij] at ej
      obtain ⟨v',a1,a2,a3⟩:=r.slots j u f ej
      refine ⟨v',a1,a2,fun z=>?_⟩
      subst z
      obtain ⟨p',rfl,o'⟩:=a3 rfl
      have n:p'≠p:=fun z=>by subst z; exact hij (r.apart i j t u p' e ej hp a1)
      exact ⟨p',rfl,o'.own.mono (Same.refl _) (other p' n),o'.out,o'.nas,o'.new⟩
  · have back:∀ (j:Nat) u,(st.env.set i (some (t',true)))[j]? = some (some (u,true))→∃ u',st.env[j]? = some (some (u',true)):=fun j u ej=>by
      by_cases hij:i=j
      · subst hij; exact ⟨t,e⟩
      · rw [List.getElem?_set_ne hij] at ej; exact ⟨u,ej⟩
    obtain ⟨u',ej'⟩:=back j u ej
    obtain ⟨w',ek'⟩:=back k w ek
    exact r.apart j k u' w' q ej' ek' sj sk
  · obtain ⟨a,a1,a2,a3⟩:=r.sto.at' n so en
    have n:a≠p:=fun z=>by subst z; exact o.nas (List.mem_of_getElem? a1)
    exact ⟨a,a1,a2,a3.mono (Same.refl _) (other a n)⟩
theorem Rel.a81 (r:Rel K B st σ H ps S as) {n:Nat} {so so':SO} {a:Addr} {ob:HO} (e:st.sto[n]? = some so) (ha:as[n]? = some a) (h:a4u K S as (upd H a ob) a so') :
    Rel K B { st with sto:=st.sto.set n so' } σ (upd H a ob) ps S as:=by
  have ma:a∈as:=List.mem_of_getElem? ha
  have hn:n<st.sto.length:=(List.getElem?_eq_some_iff.mp e).1
  have sa:S a=none:=by
    obtain ⟨a',a1,a2,_⟩:=r.sto.at' n so e
    rw [ha] at a1; cases a1; exact a2
  have other:∀ q,q≠a→H q=upd H a ob q:=fun q n=>(nj n).symm
  refine ⟨fun b u q=>?_,⟨r.grow.same,r.grow.more,fun q w x y z=>?_⟩,fun j u f ej=>?_,r.apart,⟨by rw [List.length_set]; exact r.sto.len,r.sto.nd,fun k so2 en=>?_⟩,r.pend,r.len⟩
  · have n:b≠a:=fun z=>by subst z; rw [sa] at q; cases q
    rw [nj n]; exact r.sub _ _ q
  · obtain ⟨x1,y1,z1⟩:=r.grow.keep q w x y z
    have n:q≠a:=fun z=>by subst z; exact z1 ma
    exact ⟨by rw [nj n]; exact x1,y1,z1⟩
  · obtain ⟨v',a1,a2,a3⟩:=r.slots j u f ej
    refine ⟨v',a1,a2,fun z=>?_⟩
    obtain ⟨p',rfl,o'⟩:=a3 z
    have n:p'≠a:=fun z=>by subst z; exact o'.nas ma
    exact ⟨p',rfl,o'.own.mono (Same.refl _) (other p' n),o'.out,o'.nas,o'.new⟩
  · by_cases hk:n=k
    · subst hk
      rw [List.getElem?_set_self hn] at en; cases en
      exact ⟨a,ha,sa,h⟩
    · rw [List.getElem?_set_ne hk] at en
      obtain ⟨b,b1,b2,b3⟩:=r.sto.at' k so2 en
      have n:b≠a:=fun z=>by
        subst z
        have l1:=(List.getElem?_eq_some_iff.mp b1).1
        have l2:=(List.getElem?_eq_some_iff.mp ha).1
        exact hk ((List.getElem?_inj (i:=n) (j:=k) l2 r.sto.nd).mp (by rw [ha,b1]))
      exact ⟨b,b1,b2,b3.mono (Same.refl _) (other b n)⟩
end
noncomputable def Fin (K:PySem.W.Frag) (B:Bas) (D:Ends) (ps:List (V × T)):Flow→Sta→Prop
  | .next,st'=>∀ σ' H' S' as',Rel K B st' σ' H' ps S' as'→D.nx σ' H'
  | .ret t,st'=>∀ v σ' H' S' as',Rel K B st' σ' H' ((v,t)::ps) S' as'→D.rt v H'
  | .brk,st'=>∀ σ' H' S' as',Rel K B st' σ' H' ps S' as'→D.bk σ' H'
  | .cont,st'=>∀ σ' H' S' as',Rel K B st' σ' H' ps S' as'→D.ct σ' H'
inductive sOf (K:PySem.W.Frag) (B:Bas) (s:S) (D:Ends) (σ:L2.St) (H:Hp):Prop
  | mk (st:Sta) (ps:List (V × T)) (S0:Hp) (as:List Addr) (R:Rel K B st σ H ps S0 as) (fl:Flow) (st':Sta) (e:s st=some (fl,st')) (q:Fin K B D ps fl st')
inductive gOf (K:PySem.W.Frag) (B:Bas) (g:G) (v:V) (σ:L2.St) (H:Hp) (Q:L2.St→Hp→Prop):Prop
  | mk (st:Sta) (ps:List (V × T)) (S:Hp) (as:List Addr) (t:T) (R:Rel K B st σ H ((v,t)::ps) S as) (st':Sta) (e:g t st=some st') (q:∀ σ' H' S' as',Rel K B st' σ' H' ps S' as'→Q σ' H')
inductive fOf (K:PySem.W.Frag) (B:Bas) (m:M T) (σ:L2.St) (H:Hp) (Q:VK):Prop
  | mk (st:Sta) (ps:List (V × T)) (S:Hp) (as:List Addr) (R:Rel K B st σ H ps S as) (t:T) (st':Sta) (e:m st=some (t,st')) (q:∀ p H' S' as',Rel K B st' σ H' ps S' as'→O6 K B S' as' H' p t→M7 st' σ p→Q (.ref p) H')
noncomputable section
variable {X:Cx} {B:Bas} {a b c e:Expr} {m m1 m2:M T} {pos:Pos} {u v:S}
theorem qy:PSs X [] (sOf X.K B m7):=Yn.imp fun D σ H z9=>by
  obtain ⟨st,ps,S,as,R,fl,st',e,q⟩:=z9
  cases e; exact q σ H S as R
theorem gj {st:Stmt} {rest:List Stmt} (h1:PS X st (sOf X.K B u)) (h2:PSs X rest (sOf X.K B v)):PSs X (st::rest) (sOf X.K B (jc u v)):=(Np h1 h2).imp fun D σ H z9=>by
  obtain ⟨st,ps,S,as,R,fl,st',e,q⟩:=z9
  rcases a3z e with ⟨s1,e1,e2⟩ | ⟨e1,hn⟩
  · exact ⟨st,ps,S,as,R,.next,s1,e1,fun σ' H' S' as' R'=>⟨s1,ps,S',as',R',fl,st',e2,q⟩⟩
  · refine ⟨st,ps,S,as,R,fl,st',e1,?_⟩
    cases fl with
    | next=>exact absurd rfl hn
    | ret t=>exact q
    | brk=>exact q
    | cont=>exact q
theorem jd {st:Stmt} (h1:PS X st (sOf X.K B u)):PSs X [st] (sOf X.K B u):=Tp h1
theorem jo (he:PE X e (tOf X.K B m)):PS X (.Return (some e) pos) (sOf X.K B (jr m)):=(Yr he).imp fun D σ H z9=>by
  obtain ⟨st,ps,S,as,R,fl,st',e,q⟩:=z9
  obtain ⟨t,e1,rfl⟩:=V7 e
  exact ⟨st,ps,S,as,R,t,st',e1,fun v H' S' as' R'=>q v σ H' S' as' R'⟩
theorem wz {c1:M Bool} {sa sb:List Stmt} (hc:PT X c (cOf X.K B c1)) (ha:PSs X sa (sOf X.K B u)) (hb:PSs X sb (sOf X.K B v)):PS X (.If c sa sb pos) (sOf X.K B (sIf c1 u v)):=(a9p hc ha hb).imp fun D σ H z9=>by
  obtain ⟨st,ps,S,as,R,fl,st',e,q⟩:=z9
  rcases Td e with ⟨s1,e1,e2⟩ | ⟨s1,e1,e2⟩
  · exact ⟨st,ps,S,as,R,true,s1,e1,fun H1 S1 as1 R1=>a7r ⟨s1,ps,S1,as1,R1,fl,st',e2,q⟩⟩
  · exact ⟨st,ps,S,as,R,false,s1,e1,fun H1 S1 as1 R1=>a7m ⟨s1,ps,S1,as1,R1,fl,st',e2,q⟩⟩
theorem uh (i:Nat) {tg:Expr} (h:PG X tg (Qf i)):PG X tg (gOf X.K B (hName i)):=fun pins s σ H x u Q I r z9=>h pins s σ H x u Q I r (by
  obtain ⟨st,ps,S,as,t,R,st',e,q⟩:=z9
  cases e
  exact q _ H S as (R.drop.put R.top))
theorem ni (i:Nat) {te:TE} {s:Stmt} (h:PS X s (a7l te (Qf i))) (hm:∀ σ H Q,tOf X.K B m σ H Q→te σ H Q):PS X s (sOf X.K B (jw i m)):=h.imp fun D σ H z9=>by
  obtain ⟨st,ps,S,as,R,fl,st',e,q⟩:=z9
  obtain ⟨t,s1,e1,rfl,rfl⟩:=a3n e
  exact hm σ H _ ⟨st,ps,S,as,R,t,s1,e1,fun v H' S' as' R'=>q _ H' S' as' (R'.drop.put R'.top)⟩
theorem Am (i:Nat) {te:TE} {s:Stmt} (h:PS X s (a7l te (Qf i))) (hm:∀ σ H Q,fOf X.K B m σ H Q→te σ H Q):PS X s (sOf X.K B (sNew i m)):=h.imp fun D σ H z9=>by
  obtain ⟨st,ps,S,as,R,fl,st',e,q⟩:=z9
  obtain ⟨t,s1,e1,rfl,rfl⟩:=a3f e
  exact hm σ H _ ⟨st,ps,S,as,R,t,s1,e1,fun p H' S' as' R' o n=>q _ H' S' as' (R'.a9t o n)⟩
end
end C
end
noncomputable section
set_option linter.all false
set_option maxRecDepth 100000
set_option maxHeartbeats 4000002
set_option autoImplicit false
namespace C
open PySem PySem.Spec PyProof.Rows L2
noncomputable section
variable {K:PySem.W.Frag} {B:Bas} {st:Sta} {σ:L2.St} {H H' S S':Hp} {ps ps2:List (V × T)} {as as':List Addr}
theorem Own.more {p:Addr} {t:T} (hs:Same S S') (x:∃ l,as'=as++l) (hh:H p=H' p) (o:Own K S as H p t):Own K S' as' H' p t:=by
  cases t with
  | lst ts=>obtain ⟨vs,h,r⟩:=o; exact ⟨vs,hh ▸ h,r.mono hs x⟩
  | dic ts=>obtain ⟨vs,h,r⟩:=o; exact ⟨vs,hh ▸ h,r.mono hs x⟩
  | _=>exact o.elim
theorem Rel.call {sto':List SO} (r:Rel K B st σ H ps S as) (g:aa8 ⟨S,as,H⟩ S' as' H') (sub:Same S' H') (so:J5 K S' as' H' sto'):Rel K B { st with sto:=sto' } σ H' ps S' as' where
  sub:=sub
  grow:=by
    refine ⟨r.grow.same.trans g.same,?_,fun p o a b c=>?_⟩
    · obtain ⟨l,e⟩:=r.grow.more
      obtain ⟨l',e'⟩:=g.more
      exact ⟨l++l',by rw [e',e,List.append_assoc]⟩
    · obtain ⟨x,y,z⟩:=r.grow.keep p o a b c
      exact g.keep p o x y z
  slots:=fun i t f e=>by
    obtain ⟨v,h1,h2,h3⟩:=r.slots i t f e
    refine ⟨v,h1,fun q=>(h2 q).mono g.same g.more,fun q=>?_⟩
    obtain ⟨p,rfl,o⟩:=h3 q
    obtain ⟨ob,ho⟩:=o.own.there
    obtain ⟨x,y,z⟩:=g.keep p ob ho o.out o.nas
    exact ⟨p,rfl,o.own.more g.same g.more (by rw [ho,x]),y,z,o.new⟩
  apart:=r.apart
  sto:=so
  pend:=fun p hp=>(r.pend p hp).mono g.same g.more
  len:=r.len
end
noncomputable def spF (K:PySem.W.Frag) (ar:Nat) (F:Fn):Sp:=fun vs H Q _=>∃ S as sto ts t sto',Same S H∧J5 K S as H sto∧vq K S as vs ts∧ts.length=ar∧F ts sto=some (t,sto') ∧
  ∀ v H' S' as',aa8 ⟨S,as,H⟩ S' as' H'→Same S' H'→J5 K S' as' H' sto'→Rep K S' as' v t→Q v H'
noncomputable section
variable {X:Cx} {B:Bas} {a b c e:Expr} {m m1 m2:M T} {pos p:Pos} {u v:S} {es:List Expr} {ms:M (List T)} {k:Nat} {f:Addr} {fd:FuncData} {pn:List Str} {F:Fn} {x:Str}
theorem a7g (G:zy X.prog X.w X.K X.mg X.base CX0 k f fd pn (spF X.K pn.length F)) (hr:K3 k X.A) (hg:Gl X x) (hm:X.mg x=some (.ref f)) (hk:PySem.W.keepIn X.K (.ref f)=true) (hb:Binds X.K fd pn [])
    (ha:PA X (e::es) (aOf X.K B ms)) (hl:∀ st ts st',ms st=some (ts,st')→ts.length=pn.length) (hdb:(x==("__debug__" : Str))=false:=by decide)
    (he:starEach (e::es) X.env=(false,eval e X.env)::starEach es X.env:=by rfl) (hpl:(backTo pos (starEach es X.env)).any (·.1)=false:=by rfl) :
    PE X (.Call (.Name x p) (e::es) [] pos) (tOf X.K B (dj F ms)) :=
  (Yz G hr hg hm hk hb .nil a90 ha hdb he hpl).imp fun σ H Q z9=>by
    obtain ⟨st,ps,S,as,R,t,st',e,q⟩:=z9
    obtain ⟨ts,s1,sto,e1,e2,rfl⟩:=Rq e
    refine ⟨st,ps,S,as,R,ts,s1,e1,fun vs H1 S1 as1 R1 rs=>?_⟩
    show spF X.K pn.length F (vs++[]) H1 Q E0
    rw [List.append_nil]
    exact ⟨S1,as1,s1.sto,ts,t,sto,R1.sub,R1.sto,rs,hl _ _ _ e1,e2,fun v H2 S2 as2 g sub so r=>q v H2 S2 as2 ((R1.call g sub so).push r)⟩
theorem eq_nil:∀ st ts st',d9 st=some (ts,st')→ts.length=0:=fun st ts st' e=>by cases e; rfl
theorem d7 {r:M (List T)} {n:Nat} (h:∀ st ts st',r st=some (ts,st')→ts.length=n):∀ st ts st',ak m r st=some (ts,st')→ts.length=n+1:=fun st ts st' e=>by
  obtain ⟨t,s1,us,e1,e2,rfl⟩:=Ak e
  exact congrArg (· + 1) (h _ _ _ e2)
end
noncomputable section
variable {P:Program} {w:World} {K:PySem.W.Frag} {mg:Str→Option Value} {base:Heap}
theorem a1r {N:List Str} {vs:List V} {i:Nat} {v:V} (h:vs[i]? = some v):(L2.start N vs)[i]? = some (some v):=by
  unfold L2.start
  have hi:=(List.getElem?_eq_some_iff.mp h).1
  rw [List.getElem?_append_left (by rw [List.length_map]; exact hi),List.getElem?_map,h]; rfl
theorem Rt {S H:Hp} {as:List Addr} {sto:List SO} {vs:List V} {ts:List T} {N:List Str} (h1:Same S H) (h2:J5 K S as H sto) (h3:vq K S as vs ts) (hN:ts.length≤N.length) :
    Rel K ⟨S,as,H⟩ ⟨ts.map (fun t=>some (t,false))++List.replicate (N.length - ts.length) none,sto⟩ (L2.start N vs) H [] S as:=by
  have key:∀ (i:Nat) t fl,(ts.map (fun t=>some (t,false))++List.replicate (N.length - ts.length) (none:Slot))[i]? = some (some (t,fl))→fl=false∧ts[i]? = some t:=fun i t fl e=>by
    by_cases hi:i<ts.length
    · rw [List.getElem?_append_left (by rw [List.length_map]; exact hi),List.getElem?_map] at e
      cases z:ts[i]? with
      | none=>rw [z] at e; cases e
      | some t'=>rw [z] at e; cases e; exact ⟨rfl,rfl⟩
    · rw [List.getElem?_append_right (by rw [List.length_map]; exact Nat.le_of_not_lt hi)] at e
      have:=List.eq_of_mem_replicate (List.mem_of_getElem? e)
      cases this
  refine ⟨h1,⟨Same.refl _,nol,fun p o a b c=>⟨a,b,c⟩⟩,fun i t fl e=>?_,fun i j t u p ei ej=>?_,h2,(fun p hp=>by cases hp),?_⟩
  · obtain ⟨rfl,e'⟩:=key i t fl e
    obtain ⟨v,hv,r⟩:=h3.get e'
    exact ⟨v,a1r hv,fun _=>r,fun z=>by cases z⟩
  · obtain ⟨z,_⟩:=key i t true ei; cases z
  · unfold L2.start
    rw [List.length_append,List.length_append,List.length_map,List.length_map,List.length_replicate,List.length_replicate,h3.length]
theorem mj {x qual:Str} {st:Stmt} {f:Addr} {fd:FuncData} {N ps:List Str} {k:Nat} {b:S} (F:Fun K x qual st f fd) (Sc:jx N ps (j7 st)) (hN:ps.length≤N.length)
    (hb:∀ (cdv:Value) (A:Around) (outer:List Env) (s:Shared) (H:Hp) (E:XK) (B:Bas),K3 k (A.deeper (envOfC qual (j7 st) s.heap.objs.size f cdv)) →
      PSs (a4t CX0 P w K mg base N qual (j7 st) f cdv A outer s H E).nox (Bq st) (sOf K B b)):zy P w K mg base CX0 (k+1) f fd ps (spF K ps.length (iw N.length b)):=by
  refine F.ok Sc (fun vs H Q E h=>?_) fun cdv A outer s H vs Q E hr h=>?_
  · obtain ⟨S,as,sto,ts,t,sto',h1,h2,h3,h4,_⟩:=h
    rw [h3.length,h4]
  · obtain ⟨S,as,sto,ts,t,sto',h1,h2,h3,h4,h5,q⟩:=h
    refine ⟨_,hb cdv A outer s H E ⟨S,as,H⟩ hr,?_⟩
    have lv:vs.length=ps.length:=by rw [h3.length,h4]
    have R:Rel K ⟨S,as,H⟩ ⟨ts.map (fun t=>some (t,false))++List.replicate (N.length - ts.length) none,sto⟩ (L2.start N vs) H [] S as:=Rt h1 h2 h3 (by rw [h4]; exact hN)
    unfold iw at h5
    split at h5
    · rename_i t' s' e
      cases h5
      exact ⟨_,[],S,as,R,.ret t,s',e,fun v σ' H' S' as' R'=>q v H' S' as' R'.grow R'.sub R'.sto R'.top⟩
    · rename_i s' e
      cases h5
      exact ⟨_,[],S,as,R,.next,s',e,fun σ' H' S' as' R'=>q .non H' S' as' R'.grow R'.sub R'.sto .non⟩
    · cases h5
end
end C
end
noncomputable section
set_option linter.all false
set_option maxRecDepth 100000
set_option maxHeartbeats 4000002
set_option autoImplicit false
namespace C
open PySem PySem.Spec PyProof.Rows L2
theorem a2g {g:G} {b:S} {t:T} {r:List T} {s s':Sta} {fl:Flow} (h:forL g b (t::r) s=some (fl,s')):∃ s1 fb s2,g t s=some s1∧b s1=some (fb,s2) ∧
    (match fb with | .next=>forL g b r s2=some (fl,s') | .cont=>forL g b r s2=some (fl,s') | .brk=>fl=.next∧s'=s2 | .ret v=>fl=.ret v∧s'=s2):=by
  rw [forL] at h
  dsimp only at h
  split at h
  · rename_i s1 e1
    split at h
    · rename_i s2 e2; exact ⟨s1,.next,s2,e1,e2,h⟩
    · rename_i s2 e2; exact ⟨s1,.cont,s2,e1,e2,h⟩
    · rename_i s2 e2; cases h; exact ⟨s1,.brk,_,e1,e2,rfl,rfl⟩
    · rename_i v s2 e2; cases h; exact ⟨s1,.ret v,_,e1,e2,rfl,rfl⟩
    · cases h
  · cases h
structure O5 (K:PySem.W.Frag) (S:Hp) (as:List Addr) (H:Hp) (J:It) (ts:List T):Prop where
  go:∀ (i:Nat) t,ts[i]? = some t→J.go i H∧∀ x H',J.yld i H x H'→∃ S',Ext S H S' H'∧Rep K S' as x t
  stop:∀ i,ts.length≤i→J.stop i H
inductive iOf (K:PySem.W.Frag) (B:Bas) (m:M (List T)) (σ:L2.St) (H:Hp) (R:It→Hp→Prop):Prop
  | mk (st:Sta) (ps:List (V × T)) (S:Hp) (as:List Addr) (R0:Rel K B st σ H ps S as) (ts:List T) (st':Sta) (e:m st=some (ts,st')) (z:ts.length≤sizeLine) (q:∀ J H' S' as' ps',Rel K B st' σ H' (ps'++ps) S' as'→(∀ S as H,(∀ p∈ps',Rep K S as p.1 p.2)→Same S H→O5 K S as H J ts)→R J H')
noncomputable section
variable {X:Cx} {tg l:Expr} {tl:TE}
noncomputable def iSq (K:PySem.W.Frag) (tl:TE):TI:=fun σ H R=>tl σ H fun x H1=>∃ a,x=.ref a∧(((∃ xs,SqL K H1 a xs)∧R (Itl K a) H1)∨((∃ xs,SqT K H1 a xs)∧R (Itt K a) H1))
theorem aam (hl:PE X l tl):PI X tg l (iSq X.K tl):=by
  intro pins s σ H R I h
  refine thn (hl pins s σ H _ I h) fun v s1 z0=>?_
  obtain ⟨x,H1,I1,r1,q1⟩:=z0
  obtain ⟨a,e,q⟩:=q1
  subst e
  cases r1
  rcases q with ⟨⟨xs,hq⟩,q⟩ | ⟨⟨xs,hq⟩,q⟩
  · obtain ⟨its,rv,p,hz⟩:=I1.list hq
    refine wpAny_pyIter_list p.isList ?_
    refine ⟨s1.heap.objs.size,[s1.heap.objs.size],_,_,H1,rfl,I1.kept (t':=s1.toks) fun b o e=>Heap.get?_push_of_some _ e,a00 a _,⟨_,Heap.get?_push_size _ rfl,rfl,rfl⟩,fun b hb=>?_,q⟩
    have e:b=s1.heap.objs.size:=by simpa using hb
    subst e
    exact I1.aa4 (Nat.le_refl _) (I1.hok.fresh (Nat.le_refl _))
  · obtain ⟨its,rv,p,hz⟩:=I1.tuple hq
    refine wpAny_pyIter_tuple (show s1.heap.IsTuple a its.toArray from p) ?_
    refine ⟨s1.heap.objs.size,[s1.heap.objs.size],_,_,H1,rfl,I1.kept (t':=s1.toks) fun b o e=>Heap.get?_push_of_some _ e,Xm a _,⟨_,Heap.get?_push_size _ rfl,rfl,rfl⟩,fun b hb=>?_,q⟩
    have e:b=s1.heap.objs.size:=by simpa using hb
    subst e
    exact I1.aa4 (Nat.le_refl _) (I1.hok.fresh (Nat.le_refl _))
end
noncomputable section
variable {X:Cx} {B:Bas} {a b c e tg iter:Expr} {m m1 m2:M T} {pos p:Pos} {u v:S} {g:G} {it:M (List T)} {body:List Stmt}
theorem itL {K:PySem.W.Frag} {S:Hp} {as:List Addr} {H:Hp} {p:Addr} {vs:List V} {ts:List T} (sub:Same S H) (h:SqL K H p vs) (r:vq K S as vs ts):O5 K S as H (Itl K p) ts where
  go:=fun i t e=>by
    obtain ⟨v,hv,rv⟩:=r.get e
    exact ⟨⟨vs,v,h,hv⟩,fun x H' y=>⟨S,by rw [y.1]; exact Ext.refl sub,by have:=y.2 vs h; rw [hv] at this; cases this; exact rv⟩⟩
  stop:=fun i hi=>⟨vs,h,by rw [r.length]; exact hi⟩
theorem itT {K:PySem.W.Frag} {S:Hp} {as:List Addr} {H:Hp} {p:Addr} {vs:List V} {ts:List T} (sub:Same S H) (h:SqT K H p vs) (r:vq K S as vs ts):O5 K S as H (Itt K p) ts where
  go:=fun i t e=>by
    obtain ⟨v,hv,rv⟩:=r.get e
    exact ⟨⟨vs,v,h,hv⟩,fun x H' y=>⟨S,by rw [y.1]; exact Ext.refl sub,by have:=y.2 vs h; rw [hv] at this; cases this; exact rv⟩⟩
  stop:=fun i hi=>⟨vs,h,by rw [r.length]; exact hi⟩
theorem u5:lim≤sizeLine:=by rw [sizeLine_eq]; decide
theorem v8 (h:PE X iter (tOf X.K B m)):PI X tg iter (iOf X.K B (jy m)):=by
  intro pins s σ H R I hw
  refine aam h pins s σ H R I ?_
  obtain ⟨st,ps,S,as,Rl,ts,st',e,hz,q⟩:=hw
  unfold jy at e
  split at e
  · rename_i xs s1 e1
    split at e
    · rename_i hl
      cases e
      refine ⟨st,ps,S,as,Rl,_,_,e1,fun v H1 S1 as1 R1=>?_⟩
      have top:=R1.top
      cases top with
      | @lst a vs _ hs hr =>
        refine ⟨a,rfl,.inl ⟨⟨vs,qm R1.sub hs⟩,q _ H1 S1 as1 [(.ref a,.lst _)] R1 fun S2 as2 H2 hp hh=>?_⟩⟩
        have:=hp _ List.mem_cons_self
        cases this with
        | @lst _ vs2 _ hs2 hr2=>exact itL hh (qm hh hs2) hr2
    · cases e
  · rename_i xs s1 e1
    split at e
    · rename_i hl
      cases e
      refine ⟨st,ps,S,as,Rl,_,_,e1,fun v H1 S1 as1 R1=>?_⟩
      have top:=R1.top
      cases top with
      | @tup a vs _ hs hr =>
        refine ⟨a,rfl,.inr ⟨⟨vs,ou R1.sub hs⟩,q _ H1 S1 as1 [(.ref a,.tup _)] R1 fun S2 as2 H2 hp hh=>?_⟩⟩
        have:=hp _ List.mem_cons_self
        cases this with
        | @tup _ vs2 _ hs2 hr2=>exact itT hh (ou hh hs2) hr2
    · cases e
  · cases e
theorem Ni {a:M T} {ts:List T} {s s':Sta} (h:gn a s=some (ts,s')):∃ n:Int,a s=some (.int n,s')∧(-1000000<n∧n<1000000)∧ts=rangeT n.toNat:=by
  unfold gn at h
  split at h
  · rename_i n s1 e
    split at h
    · rename_i hl; cases h; exact ⟨n,e,by have:n.natAbs<1000000:=hl; omega,rfl⟩
    · cases h
  · cases h
theorem Wy {n i:Nat} {t:T} (h:(rangeT n)[i]? = some t):i<n∧t=.int (i:Int):=by
  unfold rangeT at h
  rw [List.getElem?_map] at h
  cases z:(List.range n)[i]? with
  | none=>rw [z] at h; cases h
  | some k =>
    rw [z] at h; cases h
    obtain ⟨hi,e⟩:=List.getElem?_eq_some_iff.mp z
    rw [List.getElem_range] at e; subst e
    rw [List.length_range] at hi
    exact ⟨hi,rfl⟩
theorem Dj (hg:Gl X "range") (hm:X.mg "range" = none) (h:PE X a (tOf X.K B m)) (hs:starEach [a] X.env=[(false,eval a X.env)]:=by rfl):PI X tg (.Call (.Name "range" p) [a] [] pos) (iOf X.K B (gn m)):=by
  intro pins s σ H R I hw
  refine a1o (ta:=Wv (tOf X.K B m) a8g) hg hm (qw h w6 hs) hs pins s σ H R I ?_
  obtain ⟨st,ps,S,as,Rl,ts,st',e,hz,q⟩:=hw
  obtain ⟨n,e1,hl,rfl⟩:=Ni e
  refine ⟨st,ps,S,as,Rl,_,_,e1,fun v H1 S1 as1 R1=>?_⟩
  cases R1.top
  refine ⟨n,rfl,by omega,by omega,q _ H1 S1 as1 [] R1.drop fun S2 as2 H2 _ hh=>⟨fun i t e=>?_,fun i hi=>?_⟩⟩
  · obtain ⟨hi,rfl⟩:=Wy e
    refine ⟨hi,fun x H' y=>⟨S2,by rw [y.1]; exact Ext.refl hh,?_⟩⟩
    have:=y.2; subst this
    rw [Int.zero_add]; exact .int _
  · show n.toNat≤i
    unfold rangeT at hi
    rwa [List.length_map,List.length_range] at hi
theorem Bl (hp:PassesOwn (model X.prog X.w) X.A X.env X.xe) (hc:X.calm=true) (hi:PI X tg iter (iOf X.K B it)) (hg:PG X tg (gOf X.K B g)) (hb:PSs X body (sOf X.K B u)) (hsz:∀ st ts st',it st=some (ts,st')→ts.length≤sizeLine)
    (hs:∀ x,foldedSetIterable iter X.env x=pure x:=by intro _; rfl):PS X (.For tg iter body [] pos) (sOf X.K B (m9 g it u)):=(a8w hp hc hi hg hb hs).imp fun D σ H z9=>by
  obtain ⟨st,ps,S,as,R,fl,st',e,q⟩:=z9
  obtain ⟨ts,s1,e1,e2⟩:=a2r e
  refine ⟨st,ps,S,as,R,ts,s1,e1,hsz _ _ _ e1,fun J H1 S1 as1 ps' R1 facts=>?_⟩
  refine ⟨fun i m σ H=>m=ts.length - i∧i≤ts.length∧∃ sti Si asi,Rel X.K B sti σ H (ps'++ps) Si asi∧forL g u (ts.drop i) sti=some (fl,st'),⟨ts.length,by simp,Nat.zero_le _,s1,S1,as1,R1,by simpa using e2⟩,?_⟩
  rintro i m σ2 H2 ⟨rfl,hi,sti,Si,asi,Ri,ei⟩
  have F:=facts Si asi H2 (fun p hp=>Ri.pend p (List.mem_append_left _ hp)) Ri.sub
  have sub:∀ p∈ps,p∈ps'++ps:=fun p hp=>List.mem_append_right _ hp
  by_cases hlt:i<ts.length
  · rw [List.drop_eq_getElem_cons hlt] at ei
    obtain ⟨s2,fb,s3,eg,eb,er⟩:=a2g ei
    have ht:ts[i]? = some ts[i]:=List.getElem?_eq_getElem hlt
    refine .inr ⟨(F.go i _ ht).1,fun σ' H'=>∃ sti Si asi,Rel X.K B sti σ' H' (ps'++ps) Si asi∧forL g u (ts.drop (i+1)) sti=some (fl,st'),fun σ' H' h=>⟨ts.length - (i+1),by omega,rfl,hlt,h⟩,fun x H' y=>?_⟩
    obtain ⟨S',ex,rx⟩:=(F.go i _ ht).2 x H' y
    refine ⟨sti,ps'++ps,S',asi,_,(Ri.ext ex).push rx,s2,eg,fun σ3 H3 S3 as3 R3=>⟨s2,ps'++ps,S3,as3,R3,fb,s3,eb,?_⟩⟩
    cases fb with
    | next=>exact fun σ' H' S' as' R'=>⟨s3,S',as',R',er⟩
    | cont=>exact fun σ' H' S' as' R'=>⟨s3,S',as',R',er⟩
    | brk =>
      obtain ⟨rfl,rfl⟩:=er
      exact fun σ' H' S' as' R'=>q σ' H' S' as' (R'.pick sub)
    | ret v =>
      obtain ⟨rfl,rfl⟩:=er
      exact fun v σ' H' S' as' R'=>q v σ' H' S' as' (R'.pick fun p hp=>by
        rcases List.mem_cons.mp hp with rfl | z
        · exact List.mem_cons_self
        · exact List.mem_cons_of_mem _ (sub p z))
  · have hie:i=ts.length:=by omega
    subst hie
    rw [List.drop_length] at ei
    cases ei
    exact .inl ⟨F.stop _ (Nat.le_refl _),q σ2 H2 Si asi (Ri.pick sub)⟩
end
end C
end
noncomputable section
set_option linter.all false
set_option maxRecDepth 100000
set_option maxHeartbeats 4000002
set_option autoImplicit false
namespace C
open PySem PySem.Spec PyProof.Rows L2
noncomputable section
variable {K:PySem.W.Frag} {B:Bas} {st:Sta} {σ:L2.St} {H H' S S':Hp} {ps ps2:List (V × T)} {as as':List Addr}
theorem Rel.a01 (r:Rel K B st σ H ps S as) {i:Nat} {t:T} (e:st.env[i]? = some (some (t,true))):∃ S',Rel K B { st with env:=st.env.set i (some (t,false)) } σ H ps S' as:=by
  obtain ⟨v,S',_,R⟩:=r.freeze e
  exact ⟨S',R.drop⟩
theorem Rel.d8:∀ (cap:List Nat) {st:Sta} {S:Hp},Rel K B st σ H ps S as→∃ S',Rel K B { st with env:=d8 cap st.env } σ H ps S' as
  | [],st,S,r=>⟨S,r⟩
  | i::l,st,S,r=>by
    unfold C.d8
    rw [List.foldl_cons]
    split
    · rename_i t f e
      cases f with
      | true =>
        obtain ⟨S1,R1⟩:=r.a01 e
        exact Rel.d8 l R1
      | false =>
        have e2:st.env.set i (some (t,false))=st.env:=by
          apply List.ext_getElem?
          intro j
          by_cases hij:i=j
          · subst hij
            rw [List.getElem?_set_self (List.getElem?_eq_some_iff.mp e).1,e]
          · rw [List.getElem?_set_ne hij]
        rw [e2]
        exact Rel.d8 l r
    · exact Rel.d8 l r
noncomputable def Fp (env:List Slot):Nat→List Slot
  | 0=>env
  | n+1=>match (Fp env n)[n]? with
    | some (some (t,_))=>(Fp env n).set n (some (t,false))
    | _=>Fp env n
theorem K6 (env:List Slot):∀ n,(Fp env n).length=env.length
  | 0=>rfl
  | n+1=>by
    rw [Fp]
    split
    · rw [List.length_set]; exact K6 env n
    · exact K6 env n
theorem Jg (env:List Slot):∀ (n j:Nat),(Fp env n)[j]? = if j<n then (env[j]?).map qx else env[j]?
  | 0,j=>by rw [if_neg (Nat.not_lt_zero _)]; rfl
  | n+1,j=>by
    have ihn:=Jg env n n
    rw [if_neg (Nat.lt_irrefl _)] at ihn
    have ihj:=Jg env n j
    rw [Fp,ihn]
    by_cases hj:j=n
    · subst hj
      rw [if_pos (Nat.lt_succ_self _)]
      cases z:env[j]? with
      | none=>simp only [z,Option.map_none]; rw [ihn,z]
      | some s =>
        have hl:j<(Fp env j).length:=by rw [K6]; exact (List.getElem?_eq_some_iff.mp z).1
        cases s with
        | none=>simp only [Option.map_some]; rw [ihn,z]; rfl
        | some p=>obtain ⟨t,f⟩:=p; simp only [Option.map_some]; rw [List.getElem?_set_self hl]; rfl
    · have e1:(if j<n+1 then (env[j]?).map qx else env[j]?)=(if j<n then (env[j]?).map qx else env[j]?):=by
        by_cases hlt:j<n
        · rw [if_pos hlt,if_pos (Nat.lt_succ_of_lt hlt)]
        · rw [if_neg hlt,if_neg (by omega)]
      rw [e1,← ihj]
      split
      · rw [List.getElem?_set_ne (Ne.symm hj)]
      · rfl
theorem Yo (env:List Slot):Fp env env.length=env.map qx:=by
  apply List.ext_getElem?
  intro j
  rw [Jg,List.getElem?_map]
  by_cases hj:j<env.length
  · rw [if_pos hj]
  · rw [if_neg hj,List.getElem?_eq_none (Nat.le_of_not_lt hj)]; rfl
theorem Rel.Fp (r:Rel K B st σ H ps S as):∀ n,∃ S',Rel K B { st with env:=C.Fp st.env n } σ H ps S' as
  | 0=>⟨S,r⟩
  | n+1=>by
    obtain ⟨S1,R1⟩:=Rel.Fp r n
    rw [C.Fp]
    split
    · rename_i t f e
      cases f with
      | true=>exact R1.a01 e
      | false =>
        have e2:(C.Fp st.env n).set n (some (t,false))=C.Fp st.env n:=by
          apply List.ext_getElem?
          intro j
          by_cases hij:n=j
          · subst hij
            rw [List.getElem?_set_self (List.getElem?_eq_some_iff.mp e).1,e]
          · rw [List.getElem?_set_ne hij]
        rw [e2]
        exact ⟨S1,R1⟩
    · exact ⟨S1,R1⟩
theorem Rel.ur (r:Rel K B st σ H ps S as):∃ S',Rel K B (ur st) σ H ps S' as:=by
  obtain ⟨S',R⟩:=r.Fp st.env.length
  rw [Yo] at R
  exact ⟨S',R⟩
noncomputable def a4g (st:Sta):Prop:=∀ (i:Nat) t,st.env[i]?≠some (some (t,true))
theorem Ci (st:Sta):a4g (C.ur st):=fun i t e=>by
  unfold C.ur at e
  rw [List.getElem?_map] at e
  cases z:st.env[i]? with
  | none=>rw [z] at e; cases e
  | some s =>
    rw [z] at e
    cases s with
    | none=>cases e
    | some p=>obtain ⟨t,f⟩:=p; cases e
theorem Rel.rebase (r:Rel K B st σ H ps S as) (n:a4g st):Rel K ⟨S,as,H⟩ st σ H ps S as :=
  ⟨r.sub,⟨Same.refl _,nol,fun p o a b c=>⟨a,b,c⟩⟩,fun i t f e=>by
    obtain ⟨v,h1,h2,_⟩:=r.slots i t f e
    exact ⟨v,h1,h2,fun z=>by subst z; exact absurd e (n i t)⟩,r.apart,r.sto,r.pend,r.len⟩
end
theorem Yy {g:G} {c:M Bool} {e:M T} {t:T} {r acc us:List T} {s s':Sta} (h:Fq g c e (t::r) s acc=some (us,s')):∃ s1 b s2,g t s=some s1∧c s1=some (b,s2) ∧
    ((b=true∧∃ u s3,e s2=some (u,s3)∧acc.length<lim∧Fq g c e r (ur s3) (acc++[u])=some (us,s'))∨(b=false∧Fq g c e r (ur s2) acc=some (us,s'))):=by
  rw [Fq] at h
  split at h
  · rename_i s1 e1
    split at h
    · rename_i s2 e2
      split at h
      · rename_i u s3 e3
        split at h
        · rename_i hl; exact ⟨s1,true,s2,e1,e2,.inl ⟨rfl,u,s3,e3,hl,h⟩⟩
        · cases h
      · cases h
    · rename_i s2 e2; exact ⟨s1,false,s2,e1,e2,.inr ⟨rfl,h⟩⟩
    · cases h
  · cases h
theorem Zb {nv:Nat} {cap:List Nat} {g:G} {it:M (List T)} {c:M Bool} {e:M T} {s s':Sta} {v:T} (h:p7 nv cap g it c e s=some (v,s')):∃ ts s1 us s2,it s=some (ts,s1) ∧
    Fq g c e ts ⟨List.replicate nv none++cap.map (fun i=>((d8 cap s1.env)[i]?).getD none),s1.sto⟩ []=some (us,s2)∧v=.lst us∧s'=⟨d8 cap s1.env,s2.sto⟩:=by
  unfold p7 at h
  split at h
  · rename_i ts s1 e1
    dsimp only at h
    split at h
    · rename_i us s2 e2; cases h; exact ⟨ts,s1,us,s2,e1,e2,rfl,rfl⟩
    · cases h
  · cases h
noncomputable section
variable {K:PySem.W.Frag} {B:Bas} {st:Sta} {σ:L2.St} {H H' S S':Hp} {ps ps2:List (V × T)} {as as':List Addr} {D:Addr} {ob:HO}
theorem J5.mem {sto:List SO} (r:J5 K S as H sto) {a:Addr} (h:a∈as):∃ o,H a=some o:=by
  obtain ⟨n,hn⟩:=List.getElem?_of_mem h
  have hl:=(List.getElem?_eq_some_iff.mp hn).1
  rw [r.len] at hl
  obtain ⟨a',h1,h2,h3⟩:=r.at' n _ (List.getElem?_eq_getElem hl)
  rw [hn] at h1; cases h1
  exact h3.there
theorem Rel.fresh (r:Rel K B st σ H ps S as) (h:H D=none):B.H D=none∧S D=none∧D∉as∧M7 st σ D:=by
  have sD:S D=none:=r.sub.free h
  have nD:D∉as:=fun z=>by obtain ⟨o,e⟩:=r.sto.mem z; rw [h] at e; cases e
  refine ⟨?_,sD,nD,fun j u e1 e2=>?_⟩
  · cases q:B.H D with
    | none=>rfl
    | some o =>
      have b1:B.S D=none:=by
        cases z:B.S D with
        | none=>rfl
        | some u=>have:=r.grow.same _ _ z; rw [sD] at this; cases this
      have b2:D∉B.as:=fun z=>by obtain ⟨l,e⟩:=r.grow.more; exact nD (by rw [e]; exact List.mem_append_left _ z)
      have:=(r.grow.keep D o q b1 b2).1
      rw [h] at this; cases this
  · obtain ⟨v,h1,_,h3⟩:=r.slots j u true e1
    rw [e2] at h1; cases h1
    obtain ⟨p,ep,o⟩:=h3 rfl
    cases ep
    obtain ⟨ob,ho⟩:=o.own.there
    rw [h] at ho; cases ho
theorem Rel.a7b (r:Rel K B st σ H ps S as) (bD:B.H D=none) (sD:S D=none) (nD:D∉as) (no:M7 st σ D):Rel K B st σ (upd H D ob) ps S as:=by
  have ne:∀ b u,S b=some u→b≠D:=fun b u e z=>by subst z; rw [sD] at e; cases e
  refine ⟨fun b u e=>by rw [nj (ne b u e)]; exact r.sub _ _ e,⟨r.grow.same,r.grow.more,fun p o x y z=>?_⟩,fun i t f e=>?_,r.apart,⟨r.sto.len,r.sto.nd,fun n so e=>?_⟩,r.pend,r.len⟩
  · obtain ⟨a,b,c⟩:=r.grow.keep p o x y z
    exact ⟨by rw [nj (fun w=>by subst w; rw [bD] at x; cases x)]; exact a,b,c⟩
  · obtain ⟨v,h1,h2,h3⟩:=r.slots i t f e
    refine ⟨v,h1,h2,fun z=>?_⟩
    obtain ⟨p,rfl,o⟩:=h3 z
    have n:p≠D:=fun w=>by subst w; subst z; exact no i t e h1
    exact ⟨p,rfl,o.own.mono (Same.refl _) (nj n).symm,o.out,o.nas,o.new⟩
  · obtain ⟨a,h1,h2,h3⟩:=r.sto.at' n so e
    exact ⟨a,h1,h2,h3.mono (Same.refl _) (nj (fun w=>by subst w; exact nD (List.mem_of_getElem? h1))).symm⟩
theorem Rel.a9j (r:Rel K B st σ H ps S as) (no:a4g st) (sD:S D=none) (nD:D∉as):Rel K ⟨S,as,upd H D ob⟩ st σ (upd H D ob) ps S as:=by
  have ne:∀ b u,S b=some u→b≠D:=fun b u e z=>by subst z; rw [sD] at e; cases e
  refine ⟨fun b u e=>by rw [nj (ne b u e)]; exact r.sub _ _ e,⟨Same.refl _,nol,fun p o x y z=>⟨x,y,z⟩⟩,fun i t f e=>?_,r.apart,⟨r.sto.len,r.sto.nd,fun n so e=>?_⟩,r.pend,r.len⟩
  · obtain ⟨v,h1,h2,_⟩:=r.slots i t f e
    exact ⟨v,h1,h2,fun z=>by subst z; exact absurd e (no i t)⟩
  · obtain ⟨a,h1,h2,h3⟩:=r.sto.at' n so e
    exact ⟨a,h1,h2,h3.mono (Same.refl _) (nj (fun w=>by subst w; exact nD (List.mem_of_getElem? h1))).symm⟩
end
theorem Gm:∀ (cap:List Nat) (env:List Slot) (k:Nat),(∀ t,env[k]?≠some (some (t,true)))→∀ t,(d8 cap env)[k]?≠some (some (t,true))
  | [],env,k,h=>h
  | i::l,env,k,h=>by
    have e:d8 (i::l) env=d8 l (match env[i]? with | some (some (t,_))=>env.set i (some (t,false)) | _=>env):=rfl
    rw [e]
    refine Gm l _ k fun t=>?_
    split
    · rename_i t' f e'
      by_cases hk:i=k
      · subst hk
        rw [List.getElem?_set_self (List.getElem?_eq_some_iff.mp e').1]
        intro z; cases z
      · rw [List.getElem?_set_ne hk]; exact h t
    · exact h t
theorem K7:∀ (cap:List Nat) (env:List Slot) (k:Nat),k∈cap→∀ t,(d8 cap env)[k]?≠some (some (t,true))
  | [],env,k,h=>by simp at h
  | i::l,env,k,h=>by
    have e:d8 (i::l) env=d8 l (match env[i]? with | some (some (t,_))=>env.set i (some (t,false)) | _=>env):=rfl
    rw [e]
    rcases List.mem_cons.mp h with rfl | h' -- here
    · refine Gm l _ k fun t=>?_
      split
      · rename_i t' f e'
        rw [List.getElem?_set_self (List.getElem?_eq_some_iff.mp e').1]
        intro z; cases z
      · rename_i hx
        intro z
        exact hx _ _ z
    · exact K7 l _ k h'
noncomputable def gE (K:PySem.W.Frag) (g:G):TG:=fun v σ H Q=>∃ B,gOf K B g v σ H Q
noncomputable def cE (K:PySem.W.Frag) (c:M Bool):TT:=fun σ H Q=>∃ B,cOf K B c σ H Q
noncomputable def eE (K:PySem.W.Frag) (e:M T):TE:=fun σ H Q=>∃ B,tOf K B e σ H Q
theorem pgE {X:Cx} {tg:Expr} {g:G} (h:∀ B,PG X tg (gOf X.K B g)):PG X tg (gE X.K g):=fun pins s σ H x u Q I r ⟨B,q⟩=>h B pins s σ H x u Q I r q
theorem ptE {X:Cx} {e:Expr} {c:M Bool} (h:∀ B,PT X e (cOf X.K B c)):PT X e (cE X.K c):=fun pins s σ H Q I ⟨B,q⟩=>h B pins s σ H Q I q
theorem peE {X:Cx} {e:Expr} {m:M T} (h:∀ B,PE X e (tOf X.K B m)):PE X e (eE X.K m):=fun pins s σ H Q I ⟨B,q⟩=>h B pins s σ H Q I q
theorem rm {X:Cx}:PTs X [] (cE X.K j5):=fun pins s σ H Q I z9=>by
  obtain ⟨B,st,ps,S,as,R,b,st',e,q⟩:=z9
  cases e
  exact a6e pins s σ H Q I (q H S as R)
theorem O2 {X:Cx} {e:Expr} {c:M Bool} (h:∀ B,PT X e (cOf X.K B c)):PTs X [e] (cE X.K c):=a65 (ptE h)
noncomputable section
variable {X:Cx} {scope:Scope} {N:List Str}
theorem Yl {B:Bas} {nv:Nat} {cap:List Nat} {g:G} {c:M Bool} {e:M T} {ts us:List T} {env:List Slot} {sto1:List SO} {s2:Sta} {σ:L2.St} {H1 S1:Hp} {as1:List Addr} {ps ps':List (V × T)} {J:It} {Q:VK}
    (hN:N.length=nv+cap.length) (hv:∀ i x,i<nv→N[i]? = some x→True)
    (hcap:∀ (j k:Nat),cap[j]? = some k→∃ x,N[nv+j]? = some x∧X.N[k]? = some x∧aa1 X scope x)
    (R1:Rel X.K B ⟨env,sto1⟩ σ H1 (ps'++ps) S1 as1) (hno:∀ k∈cap,∀ t,env[k]?≠some (some (t,true)))
    (facts:∀ S as H,Same B.S S→(∃ l,as=B.as++l)→(∀ p∈ps',Rep X.K S as p.1 p.2)→Same S H→O5 X.K S as H J ts)
    (hc:Fq g c e ts ⟨List.replicate nv none++cap.map (fun i=>(env[i]?).getD none),sto1⟩ []=some (us,s2))
    (fin:∀ D H' S' as',Rel X.K B ⟨env,s2.sto⟩ σ H' (ps'++ps) S' as'→O6 X.K B S' as' H' D (.lst us)→M7 ⟨env,s2.sto⟩ σ D→Q (.ref D) H') :
    T4 X scope N (gE X.K g) (cE X.K c) (eE X.K e) σ J H1 Q:=by
  intro D hD
  obtain ⟨bD,sD1,nD1,noD⟩:=R1.fresh hD
  have capg:∀ (i:Nat) s,(List.replicate nv (none:Slot)++cap.map (fun i=>(env[i]?).getD none))[i]? = some (some s)→∃ j k,i=nv+j∧cap[j]? = some k∧env[k]? = some (some s):=fun i s h=>by
    by_cases hi:i<nv
    · rw [List.getElem?_append_left (by rw [List.length_replicate]; exact hi)] at h
      have:=List.eq_of_mem_replicate (List.mem_of_getElem? h); cases this
    · rw [List.getElem?_append_right (by rw [List.length_replicate]; exact Nat.le_of_not_lt hi),List.length_replicate,List.getElem?_map] at h
      cases z:cap[i - nv]? with
      | none=>rw [z] at h; cases h
      | some k =>
        rw [z] at h
        refine ⟨i - nv,k,by omega,z,?_⟩
        cases w:env[k]? with
        | none=>simp [w] at h
        | some s'=>simp [w] at h; rw [h]
  have sig:∀ (j k:Nat) v,cap[j]? = some k→σ[k]? = some (some v)→(List.replicate nv (none:Option V)++cap.map (fun i=>(σ[i]?).getD none))[nv+j]? = some (some v):=fun j k v h1 h2=>by
    rw [List.getElem?_append_right (by rw [List.length_replicate]; omega),List.length_replicate,Nat.add_sub_cancel_left,List.getElem?_map,h1]
    simp [h2]
  refine ⟨List.replicate nv none++cap.map (fun i=>(σ[i]?).getD none),by rw [List.length_append,List.length_replicate,List.length_map,hN],fun i v x h1 h2 _=>?_,?_⟩
  · by_cases hi:i<nv
    · rw [List.getElem?_append_left (by rw [List.length_replicate]; exact hi)] at h1
      have:=List.eq_of_mem_replicate (List.mem_of_getElem? h1); cases this
    · rw [List.getElem?_append_right (by rw [List.length_replicate]; exact Nat.le_of_not_lt hi),List.length_replicate,List.getElem?_map] at h1
      cases z:cap[i - nv]? with
      | none=>rw [z] at h1; cases h1
      | some k =>
        rw [z] at h1
        obtain ⟨y,n1,n2,ck⟩:=hcap _ _ z
        have e:nv+(i - nv)=i:=by omega
        rw [e,h2] at n1; cases n1
        refine ⟨k,n2,?_,ck⟩
        cases w:σ[k]? with
        | none=>simp [w] at h1
        | some s'=>simp [w] at h1; rw [h1]
  refine ⟨fun i m σ' H'=>m=ts.length - i∧i≤ts.length∧∃ sti Si asi acc accv,Rel X.K ⟨Si,asi,H'⟩ sti σ' H' [] Si asi∧a4g sti∧Rel X.K B ⟨env,sti.sto⟩ σ H' (ps'++ps) Si asi∧H' D=some (.lst accv)∧Si D=none∧D∉asi ∧
    vq X.K Si asi accv acc∧Fq g c e (ts.drop i) sti acc=some (us,s2),⟨ts.length,by simp,Nat.zero_le _,_,S1,as1,[],[],?_,?_,?_,jj,sD1,nD1,.nil,hc⟩,?_⟩
  · refine Rel.a9j (B:=B) (H:=H1) ⟨R1.sub,R1.grow,fun i t f h=>?_,fun i j t u p hi hj=>?_,R1.sto,(fun p hp=>by cases hp),?_⟩ (fun i t h=>?_) sD1 nD1
    · obtain ⟨j,k,rfl,hk,ek⟩:=capg i _ h
      obtain ⟨v,h1,h2,h3⟩:=R1.slots k t f ek
      exact ⟨v,sig j k v hk h1,h2,h3⟩
    · obtain ⟨j,k,rfl,hk,ek⟩:=capg i _ hi
      exact absurd ek (hno k (List.mem_of_getElem? hk) t)
    · show (List.replicate nv (none:Option V)++cap.map _).length=(List.replicate nv (none:Slot)++cap.map _).length
      rw [List.length_append,List.length_append,List.length_replicate,List.length_replicate,List.length_map,List.length_map]
    · obtain ⟨j,k,rfl,hk,ek⟩:=capg i _ h
      exact absurd ek (hno k (List.mem_of_getElem? hk) t)
  · intro i t h
    obtain ⟨j,k,rfl,hk,ek⟩:=capg i _ h
    exact absurd ek (hno k (List.mem_of_getElem? hk) t)
  · exact R1.a7b bD sD1 nD1 noD
  rintro i m σ' H' ⟨rfl,hi,sti,Si,asi,acc,accv,Ri,no,Ro,hD',sD,nD,rA,ei⟩
  have F:=facts Si asi H' Ro.grow.same Ro.grow.more (fun p hp=>Ro.pend p (List.mem_append_left _ hp)) Ri.sub
  by_cases hlt:i<ts.length
  · rw [List.drop_eq_getElem_cons hlt] at ei
    obtain ⟨s3,b,s4,eg,ec,er⟩:=Yy ei
    have ht:ts[i]? = some ts[i]:=List.getElem?_eq_getElem hlt
    refine .inr ⟨(F.go i _ ht).1,fun x H2 y=>?_⟩
    obtain ⟨S2,ex,rx⟩:=(F.go i _ ht).2 x H2 y
    refine ⟨⟨Si,asi,H'⟩,sti,[],S2,asi,_,(Ri.ext ex).push rx,s3,eg,fun σ3 H3 S3 as3 R3=>⟨⟨Si,asi,H'⟩,s3,[],S3,as3,R3,b,s4,ec,fun H4 S4 as4 R4=>?_⟩⟩
    rcases er with ⟨rfl,w,s5,ee,hlen,erest⟩ | ⟨rfl,erest⟩
    · refine a7r ⟨⟨Si,asi,H'⟩,s4,[],S4,as4,R4,w,s5,ee,fun y H5 S5 as5 R5=>?_⟩
      obtain ⟨S6,R6⟩:=R5.ur
      obtain ⟨k1,k2,k3⟩:=R6.grow.keep D _ hD' sD nD
      have Ro2:=Ro.call R6.grow R6.sub R6.sto
      refine ⟨accv,k1,?_,ts.length - (i+1),by omega,rfl,hlt,ur s5,S6,as5,acc++[w],accv++[y],R6.drop.a9j (Ci _) k2 k3,Ci _,Ro2.a7b bD k2 k3 noD,jj,k2,k3,(rA.mono R6.grow.same R6.grow.more).append (.cons R6.top .nil),erest⟩
      rw [rA.length]; exact Nat.lt_of_lt_of_le hlen u5
    · refine a7m ?_
      obtain ⟨S6,R6⟩:=R4.ur
      obtain ⟨k1,k2,k3⟩:=R6.grow.keep D _ hD' sD nD
      have Ro2:=Ro.call R6.grow R6.sub R6.sto
      exact ⟨ts.length - (i+1),by omega,rfl,hlt,ur s4,S6,as4,acc,accv,R6.rebase (Ci _),Ci _,Ro2,k1,k2,k3,rA.mono R6.grow.same R6.grow.more,erest⟩
  · have hie:i=ts.length:=by omega
    subst hie
    rw [List.drop_length] at ei
    cases ei
    exact .inl ⟨F.stop _ (Nat.le_refl _),fin D H' Si asi Ro ⟨⟨accv,hD',rA⟩,sD,nD,bD⟩ noD⟩
theorem Rel.give {K:PySem.W.Frag} {B:Bas} {st:Sta} {σ:L2.St} {H S:Hp} {ps:List (V × T)} {as:List Addr} {p:Addr} {t:T} (r:Rel K B st σ H ps S as) (o:O6 K B S as H p t) (no:M7 st σ p):∃ S',Rel K B st σ H ((.ref p,t)::ps) S' as:=by
  obtain ⟨ob,ho⟩:=o.own.there
  have sS:Same S (upd S p ob):=Same.upd o.out ob
  have rep:Rep K (upd S p ob) as (.ref p) t:=by
    have w:=o.own
    cases t with
    | lst ts=>obtain ⟨vs,h,q⟩:=w; rw [ho] at h; cases h; exact .lst (SqL.of jj) (q.mono sS nol)
    | dic ts=>obtain ⟨vs,h,q⟩:=w; rw [ho] at h; cases h; exact .dic (.inl jj) (q.mono sS nol)
    | _=>exact w.elim
  have outs:∀ q,S q=none→q≠p→upd S p ob q=none:=fun q h n=>by rw [nj n]; exact h
  refine ⟨upd S p ob,Rel.push (v:=.ref p) (t:=t) ⟨?_,?_,?_,r.apart,?_,fun q hq=>(r.pend q hq).mono sS nol,r.len⟩ rep⟩
  · intro b u q
    by_cases z:b=p
    · subst z; rw [jj] at q; cases q; exact ho
    · rw [nj z] at q; exact r.sub _ _ q
  · refine ⟨r.grow.same.trans sS,r.grow.more,fun q w a b c=>?_⟩
    obtain ⟨x,y,z⟩:=r.grow.keep q w a b c
    refine ⟨x,outs q y fun n=>?_,z⟩
    subst n; rw [o.new] at a; cases a
  · intro j u f ej
    obtain ⟨v',a1,a2,a3⟩:=r.slots j u f ej
    refine ⟨v',a1,fun z=>(a2 z).mono sS nol,fun z=>?_⟩
    subst z
    obtain ⟨p',rfl,o'⟩:=a3 rfl
    refine ⟨p',rfl,o'.own.mono sS rfl,outs p' o'.out fun n=>?_,o'.nas,o'.new⟩
    subst n
    exact no j u ej a1
  · refine ⟨r.sto.len,r.sto.nd,fun n so en=>?_⟩
    obtain ⟨a,a1,a2,a3⟩:=r.sto.at' n so en
    refine ⟨a,a1,outs a a2 fun z=>?_,a3.mono sS rfl⟩
    subst z
    exact o.nas (List.mem_of_getElem? a1)
theorem Vw {K:PySem.W.Frag} {B:Bas} {m:M T} {σ:L2.St} {H:Hp} {Q:VK} (h:tOf K B m σ H Q):fOf K B m σ H Q:=by
  obtain ⟨st,ps,S,as,R,t,st',e,q⟩:=h
  refine ⟨st,ps,S,as,R,t,st',e,fun p H' S' as' R' o n=>?_⟩
  obtain ⟨S2,R2⟩:=R'.give o n
  exact q _ H' S2 as' R2
theorem su {e:Expr} {B:Bas} {m:M T} (h:PE X e (fOf X.K B m)):PE X e (tOf X.K B m):=h.imp fun σ H Q=>Vw
variable {B:Bas} {nv:Nat} {cap:List Nat} {g:G} {it:M (List T)} {c:M Bool} {e:M T} {tg iter elt:Expr} {ifs:List Expr} {pos:Pos}
structure a9h (X:Cx) (scope:Scope) (N:List Str) (nv:Nat) (cap:List Nat):Prop where
  len:N.length=nv+cap.length
  at':∀ (j k:Nat),cap[j]? = some k→∃ x,N[nv+j]? = some x∧X.N[k]? = some x∧aa1 X scope x
theorem Jq (co:a9h X scope N nv cap) (hsz:∀ st ts st',it st=some (ts,st')→ts.length≤sizeLine) {σ:L2.St} {H:Hp} {Q:VK} (h:fOf X.K B (p7 nv cap g it c e) σ H Q) :
    a7f X scope N (iOf X.K B it) (gE X.K g) (cE X.K c) (eE X.K e) σ H Q:=by
  obtain ⟨st,ps,S,as,R,t,st',e,q⟩:=h
  obtain ⟨ts,s1,us,s2,e1,e2,rfl,rfl⟩:=Zb e
  refine ⟨st,ps,S,as,R,ts,s1,e1,hsz _ _ _ e1,fun J H1 S1 as1 ps' R1 facts=>?_⟩
  obtain ⟨S2,R2⟩:=R1.d8 cap
  exact Yl co.len (fun _ _ _ _=>trivial) co.at' R2 (fun k hk=>K7 cap s1.env k hk) (fun S as H _ _=>facts S as H) e2 fun D H' S' as' R' o n=>q D H' S' as' (R'.pick fun p hp=>List.mem_append_right _ hp) o n
theorem xg (co:a9h X scope N nv cap) (sc:Mi X scope N) (calm:X.calm=true) (hi:PI X tg iter (iOf X.K B it)) (hsz:∀ st ts st',it st=some (ts,st')→ts.length≤sizeLine)
    (hg:∀ C s₀ H₀ ex pn,PG (yx X scope N C s₀ H₀ ex pn) tg (gE X.K g)) (hc:∀ C s₀ H₀ ex pn,PTs (yx X scope N C s₀ H₀ ex pn) ifs (cE X.K c)) (he:∀ C s₀ H₀ ex pn,PE (yx X scope N C s₀ H₀ ex pn) elt (eE X.K e))
    (hs:∀ x,foldedSetIterable iter X.env x=pure x:=by intro _; rfl):PE X (.ListComp elt [⟨tg,iter,ifs,0⟩] scope pos) (fOf X.K B (p7 nv cap g it c e)) :=
  (a6k sc calm hi hg hc he hs).imp fun σ H Q h=>Jq co hsz h
end
end C
end
noncomputable section
set_option linter.all false
set_option maxRecDepth 100000
set_option maxHeartbeats 4000002
set_option autoImplicit false
namespace C
open PySem PySem.Spec PyProof.Rows L2
noncomputable section
variable {X:Cx}
theorem a0z {f:Value→Value→Sem Value} {g:T→T→Option T} {r:R2} (h:OpR X f r)
    (k:∀ S as x y t u w,Rep X.K S as x t→Rep X.K S as y u→g t u=some w→∀ (H:Hp) (Q:VK),Same S H→(∀ v H' S',Ext S H S' H'→Rep X.K S' as v w→Q v H')→r x y H Q):OpT X f g:=by
  intro pins s σ H x y v u Q I rx ry z8
  obtain ⟨S,as,t,w,z,sub,ht,hu,hf,q⟩:=z8
  exact h pins s σ H x y v u Q I rx ry (k S as x y t w z ht hu hf H Q sub q)
theorem Gw {K:PySem.W.Frag} {S:Hp} {as:List Addr} {x y:V} {t u w:T} {g:T→T→Option T} {P:Prop} (ht:Rep K S as x t) (hu:Rep K S as y u) (hf:g t u=some w)
    (n1:∀ t u,(∀ i,t≠.int i)→g t u=none) (n2:∀ i u,(∀ j,u≠.int j)→g (.int i) u=none) (k:∀ i j,x=.int i→y=.int j→g (.int i) (.int j)=some w→P):P:=by
  by_cases h1:∃ i,t=.int i
  · obtain ⟨i,rfl⟩:=h1
    by_cases h2:∃ j,u=.int j
    · obtain ⟨j,rfl⟩:=h2
      cases ht; cases hu
      exact k i j rfl rfl hf
    · rw [n2 i u fun j e=>h2 ⟨j,e⟩] at hf; cases hf
  · rw [n1 t u fun i e=>h1 ⟨i,e⟩] at hf; cases hf
theorem Ny:OpT X (binaryOp .Sub) tu:=a0z a80 fun S as x y t u w ht hu hf H Q sub q =>
  Gw (g:=tu) ht hu hf (fun t u h=>by cases t <;> first | rfl | exact absurd rfl (h _)) (fun i u h=>by cases u <;> first | rfl | exact absurd rfl (h _)) fun i j ex ey hf=>by
  subst ex ey; cases hf
  exact ⟨_,_,rfl,rfl,q _ H S (Ext.refl sub) (.int _)⟩
theorem u9:OpT X (binaryOp .Mod) m6:=a0z a83 fun S as x y t u w ht hu hf H Q sub q =>
  Gw (g:=m6) ht hu hf (fun t u h=>by cases t <;> first | rfl | exact absurd rfl (h _)) (fun i u h=>by cases u <;> first | rfl | exact absurd rfl (h _)) fun i j ex ey hf=>by
  subst ex ey
  simp only [m6] at hf
  split at hf
  · cases hf; exact ⟨_,_,rfl,rfl,by assumption,q _ H S (Ext.refl sub) (.int _)⟩
  · cases hf
noncomputable def aaf (i j:Int):Prop:=0<j∧(j<1073741824∨j.natAbs<fdl)
theorem a3t:OpR X (binaryOp .FloorDiv) (rI aaf fun i j=>.int (i / j)):=opI fun i j _ _ _ _ _ hc q=>by
  have h1:(0:Int)<j:=hc.1
  have h2:j.natAbs<2 ^ 200:=by
    rcases hc.2 with h | h
    · exact Nat.lt_trans (show j.natAbs<1073741824 by omega) (by decide)
    · exact h
  exact floordiv_int (by omega) (by rw [Int.fdiv_eq_ediv_of_nonneg i (by omega)]; exact q) (.inl (PyProof.noPylong_of_log2 (Nat.lt_trans ((Nat.log2_lt (by omega)).mpr h2) (by decide))))
theorem qe:OpT X (binaryOp .FloorDiv) j6:=a0z a3t fun S as x y t u w ht hu hf H Q sub q =>
  Gw (g:=j6) ht hu hf (fun t u h=>by cases t <;> first | rfl | exact absurd rfl (h _)) (fun i u h=>by cases u <;> first | rfl | exact absurd rfl (h _)) fun i j ex ey hf=>by
  subst ex ey
  simp only [j6] at hf
  split at hf
  · rename_i hc; cases hf; exact ⟨_,_,rfl,rfl,hc,q _ H S (Ext.refl sub) (.int _)⟩
  · cases hf
theorem Zy:OpT X (binaryOp .Pow) a3c:=a0z a9i fun S as x y t u w ht hu hf H Q sub q =>
  Gw (g:=a3c) ht hu hf (fun t u h=>by cases t <;> first | rfl | exact absurd rfl (h _)) (fun i u h=>by cases u <;> first | rfl | exact absurd rfl (h _)) fun i j ex ey hf=>by
  subst ex ey
  simp only [a3c] at hf
  split at hf
  · rename_i h; cases hf; exact ⟨_,_,rfl,rfl,⟨h.1,by omega,by omega⟩,q _ H S (Ext.refl sub) (.int _)⟩
  · cases hf
theorem Zz:OpT X (compareOp .Lt) ltT:=a0z abl fun S as x y t u w ht hu hf H Q sub q =>
  Gw (g:=ltT) ht hu hf (fun t u h=>by cases t <;> first | rfl | exact absurd rfl (h _)) (fun i u h=>by cases u <;> first | rfl | exact absurd rfl (h _)) fun i j ex ey hf=>by
  subst ex ey; cases hf
  exact ⟨_,_,rfl,rfl,q _ H S (Ext.refl sub) (.bl _)⟩
theorem yw:UnT X (unaryOp .USub) qb:=by
  intro pins s σ H x v Q I rx z8
  obtain ⟨S,as,t,w,sub,ht,hf,q⟩:=z8
  cases ht <;> simp only [qb,reduceCtorEq] at hf
  cases hf
  exact a8h pins s σ H _ v Q I rx ⟨_,rfl,q _ H S (Ext.refl sub) (.int _)⟩
noncomputable def aby (K:PySem.W.Frag):R2:=fun x y H Q=>∃ l b xs zs,x=.ref l∧y=.ref b∧SqL K H l xs∧SqL K H b zs∧xs.length+zs.length≤sizeLine∧∀ p,H p=none→Q (.ref p) (upd H p (.lst (xs++zs)))
theorem Sy:OpR X (binaryOp .Add) (aby X.K):=by
  intro pins s σ H x y v u Q I rx ry h
  obtain ⟨l,b,xs,zs,rfl,rfl,hH,hB,hz,q⟩:=h
  cases rx
  cases ry
  obtain ⟨its,r,p1,hl⟩:=I.list hH
  obtain ⟨its2,r2,p2,hl2⟩:=I.list hB
  obtain ⟨⟨cls,dd,data,sl⟩,n,ho,hc,hd0,hd⟩:=id p1
  obtain ⟨⟨cls2,dd2,data2,sl2⟩,n2,ho2,hc2,hd02,hd2⟩:=id p2
  simp only at hc hd hc2 hd2
  subst hc hd hc2 hd2
  refine concat_meets ⟨_,ho,rfl⟩ ⟨_,ho2,rfl⟩ noFill_list_add seq_list_add PySem.F.slot_list_add PySem.F.entry_list_add (PySem.F.args_list_add_2 _ _)
      (list_addW l b its.toArray its2.toArray n n2 dd dd2 sl sl2 (by rw [List.size_toArray,List.size_toArray,← r.length,← r2.length]; exact hz)) ⟨ho,ho2,?_⟩
  have ea:its.toArray++its2.toArray=(its++its2).toArray:=by simp
  rw [ea]
  exact ⟨.ref _,_,I.acu (t':=s.toks) (r.append r2) (by rw [List.length_append]; exact hz),rfl,q _ I.fresh⟩
noncomputable def a8y (K:PySem.W.Frag):R2:=fun x y H Q=>∃ a b ys,x=.ref a∧y=.ref b∧SqT K H a []∧SqT K H b ys∧Q (.ref b) H
theorem a3p:OpR X (binaryOp .Add) (a8y X.K):=by
  intro pins s σ H x y v u Q I rx ry h
  obtain ⟨a,b,ys,rfl,rfl,ha,hb,q⟩:=h
  cases rx
  cases ry
  obtain ⟨its,r1,p1,_⟩:=I.tuple ha
  obtain ⟨its2,r2,p2,_⟩:=I.tuple hb
  cases r1
  obtain ⟨⟨cls,dd,data,sl⟩,ho,hc,n,hd⟩:=id p1
  obtain ⟨⟨cls2,dd2,data2,sl2⟩,ho2,hc2,n2,hd2⟩:=id p2
  simp only at hc hd hc2 hd2
  subst hc hd hc2 hd2
  exact concat_meets ⟨_,ho,rfl⟩ ⟨_,ho2,rfl⟩ noFill_tuple_add seq_tuple_add PySem.F.slot_tuple_add PySem.F.entry_tuple_add (PySem.F.args_tuple_add_2 _ _)
      (tuple_addW0 a b _ its2.toArray n n2 dd dd2 sl sl2 (by rfl)) ⟨ho,ho2,⟨.ref b,H,I,rfl,q⟩⟩
theorem qj:OpT X (binaryOp .Add) lu:=by
  intro pins s σ H x y v u Q I rx ry z8
  obtain ⟨S,as,t,t2,w,sub,ht,hu,hf,q⟩:=z8
  cases ht <;> first | exact nomatch (show none=some w from hf) | cases hu <;> first | exact nomatch (show none=some w from hf) | simp only [lu] at hf
  · cases hf
    exact a8u pins s σ H _ _ v u Q I rx ry ⟨_,_,rfl,rfl,q _ H S (Ext.refl sub) (.int _)⟩
  · split at hf
    · rename_i hl; cases hf
      exact Wu pins s σ H _ _ v u Q I rx ry ⟨_,_,rfl,rfl,Nat.le_trans (Nat.le_of_lt hl) u5,q _ H S (Ext.refl sub) (.str _)⟩
    · cases hf
  · rename_i a vs ts hs hr b ws us hs2 hr2
    split at hf
    · rename_i hl; cases hf
      have hz:vs.length+ws.length≤sizeLine:=by rw [hr.length,hr2.length]; exact Nat.le_trans (Nat.le_of_lt hl) u5
      cases hr with
      | nil=>exact a3p pins s σ H _ _ v u Q I rx ry ⟨_,_,_,rfl,rfl,ou sub hs,ou sub hs2,q _ H S (Ext.refl sub) (.tup hs2 hr2)⟩
      | @cons v0 t0 vs0 ts0 h1 h2 =>
        refine a6d pins s σ H _ _ v u Q I rx ry ⟨_,_,_,_,rfl,rfl,ou sub hs,ou sub hs2,by simp,hz,fun z=>?_,fun z p hp=>?_⟩
        · subst z
          cases hr2
          rw [List.append_nil] at q
          exact q _ H S (Ext.refl sub) (.tup hs (.cons h1 h2))
        · have x:=Ext.laid sub hp (.tup ((v0::vs0)++ws))
          exact q _ _ _ x (.tup (SqT.of jj) (((vq.cons h1 h2).append hr2).mono x.s nol))
    · cases hf
  · rename_i a vs ts hs hr b ws us hs2 hr2
    split at hf
    · rename_i hl; cases hf
      have hz:vs.length+ws.length≤sizeLine:=by rw [hr.length,hr2.length]; exact Nat.le_trans (Nat.le_of_lt hl) u5
      refine Sy pins s σ H _ _ v u Q I rx ry ⟨_,_,_,_,rfl,rfl,qm sub hs,qm sub hs2,hz,fun p hp=>?_⟩
      have x:=Ext.laid sub hp (.lst (vs++ws))
      exact q _ _ _ x (.lst (SqL.of jj) ((hr.append hr2).mono x.s nol))
    · cases hf
theorem a7c (x:Str) (n:Int) (h:0≤n):Txt.mul x n=⟨((List.replicate n.toNat x.cps.toList).flatten).toArray⟩:=by
  have key:∀ (k:Nat) (acc:Array Nat),(List.replicate k x.cps).foldl (· ++ ·) acc=acc++((List.replicate k x.cps.toList).flatten).toArray:=by
    intro k
    induction k with
    | zero=>intro acc; simp
    | succ k ih =>
      intro acc
      rw [List.replicate_succ,List.foldl_cons,ih,List.replicate_succ,List.flatten_cons]
      apply Array.ext'
      simp
  unfold Txt.mul
  by_cases h1:n<1
  · have:n=0:=by omega
    subst this
    rw [if_pos h1]; rfl
  · rw [if_neg h1]
    by_cases h2:(n==1||x.length==0)=true
    · rw [if_pos h2]
      rw [Bool.or_eq_true] at h2
      rcases h2 with h2 | h2
      · have:n=1:=by simpa using h2
        subst this
        cases x; simp
      · have h3:x.cps.size=0:=by simpa [Str.length] using h2
        obtain ⟨c⟩:=x
        have h4:c = #[]:=Array.eq_empty_of_size_eq_zero h3
        subst h4
        congr 1
        apply Array.ext'
        simp
    · rw [if_neg h2,key]
      congr 1
      apply Array.ext'
      simp
theorem Dh:OpT X (binaryOp .Mult) Jh:=by
  intro pins s σ H x y v u Q I rx ry z8
  obtain ⟨S,as,t,t2,w,sub,ht,hu,hf,q⟩:=z8
  cases ht <;> first | exact nomatch (show none=some w from hf) | cases hu <;> first | exact nomatch (show none=some w from hf) | simp only [Jh] at hf
  · split at hf
    · rename_i hb; cases hf
      refine a7y pins s σ H _ _ v u Q I rx ry ⟨_,_,rfl,rfl,?_,q _ H S (Ext.refl sub) (.int _)⟩
      rw [Bool.or_eq_true] at hb
      rcases hb with h | h
      · exact .inl (of_decide_eq_true h)
      · exact .inr (of_decide_eq_true h)
    · cases hf
  · rename_i z j
    split at hf
    · rename_i hb; cases hf
      obtain ⟨t',rfl⟩:=rx
      obtain ⟨t2',rfl⟩:=ry
      refine SB.mul ⟨?_,fun _ _=>?_,fun _ _=>?_⟩ fun t3 k=>⟨.str (Txt.mul z j),H,I.tok _,⟨_,rfl⟩,?_⟩
      · have h1:¬ j < -(2 ^ 63:Int):=by omega
        have h2:¬ j ≥ 2 ^ 63:=by omega
        rw [decide_eq_false h1,decide_eq_false h2]; rfl
      · have h1:(z.length:Int)≤100:=by omega
        have h2:(100:Int)≤(2 ^ 63 - 1) / j:=by
          have hj:0<j:=by
            rcases Int.lt_or_le 0 j with h | h
            · exact h
            · exfalso
              have:j=0:=by omega
              subst this
              rename_i a _; exact a (by decide)
          exact (Int.le_ediv_iff_mul_le hj).mpr (by omega)
        omega
      · have h3:z.length * j.toNat≤100 * 1000:=Nat.mul_le_mul hb.2.2 (by omega)
        unfold Builtin.Str.tooLong
        rw [sizeLine_eq]
        exact decide_eq_false (by omega)
      · rw [a7c z j hb.1]; exact q _ H S (Ext.refl sub) (.str _)
    · cases hf
end
end C
end
noncomputable section
set_option linter.all false
set_option maxRecDepth 100000
set_option maxHeartbeats 4000002
set_option autoImplicit false
namespace C
open PySem PySem.Spec PyProof.Rows L2
noncomputable section
variable {X:Cx} {B:Bas} {a b c e o:Expr} {m m1 m2:M T} {pos p:Pos}
theorem Vf (n:Nat) (i:Int):ixI n i=ixN n i:=rfl
theorem T9 {K:PySem.W.Frag} {S:Hp} {as:List Addr} {y:V} {t:T} {q:L2.Key} (r:Rep K S as y t) (h:keyOf t=some q):y=kV q:=by
  cases r <;> simp only [keyOf,reduceCtorEq] at h <;> (cases h; rfl)
noncomputable def ab4:R2:=fun x y H Q=>∃ a v,x=.ref a∧Xy H a y (some v)∧Q v H
theorem a6v (hu:X.A.units+1<cLine):IxR X ab4:=by
  intro value slice pins s σ H x y v u Q I rx ry z8 hs
  obtain ⟨a,w,ex,g,q⟩:=z8
  subst ex
  cases rx
  refine tail_any (U8 I g) slot_dict_getitem.lookup (Zv hu I g ry fun w' s' I' r'=>⟨w,H,I',r',q⟩) hs
theorem a1z (hu:X.A.units+1<cLine):IxR X (r2 X.K bx):=by
  intro value slice pins s σ H x y v u Q I rx ry z8 hs
  obtain ⟨S,as,t,t2,w,sub,ht,hu2,hf,q⟩:=z8
  cases ht with
  | @tup a vs ts h1 h2 =>
    cases hu2 <;> simp only [bx,reduceCtorEq] at hf
    rename_i i
    obtain ⟨j,e1,e2⟩:=Option.bind_eq_some_iff.mp hf
    obtain ⟨z,hz,rz⟩:=h2.get e2
    refine a92 value slice pins s σ H _ _ v u Q I rx ry ⟨a,vs,i,z,rfl,rfl,ou sub h1,?_,q z H S (Ext.refl sub) rz⟩ hs
    rw [Vf,← h2.length] at e1
    unfold atI; rw [e1]; exact hz
  | @lst a vs ts h1 h2 =>
    cases hu2 <;> simp only [bx,reduceCtorEq] at hf
    rename_i i
    obtain ⟨j,e1,e2⟩:=Option.bind_eq_some_iff.mp hf
    obtain ⟨z,hz,rz⟩:=h2.get e2
    refine Zk value slice pins s σ H _ _ v u Q I rx ry ⟨a,vs,i,z,rfl,rfl,qm sub h1,?_,q z H S (Ext.refl sub) rz⟩ hs
    rw [Vf,← h2.length] at e1
    unfold atI; rw [e1]; exact hz
  | str z =>
    cases hu2 <;> simp only [bx,reduceCtorEq] at hf
    rename_i i
    split at hf
    · rename_i hl
      obtain ⟨j,e1,e2⟩:=Option.bind_eq_some_iff.mp hf
      obtain ⟨cc,e3,e4⟩:=Option.map_eq_some_iff.mp e2
      subst e4
      refine a8t value slice pins s σ H _ _ v u Q I rx ry ⟨z,i,cc,rfl,rfl,Nat.le_trans (Nat.le_of_lt hl) u5,?_,q _ H S (Ext.refl sub) (.str _)⟩ hs
      rw [Vf] at e1
      unfold atI; rw [e1]; exact e3
    · cases hf
  | @dic a kvs ts h1 h2 =>
    simp only [bx] at hf
    obtain ⟨k,e1,e2⟩:=Option.bind_eq_some_iff.mp hf
    have ey:=T9 hu2 e1
    subst ey
    rcases h2.get k with ⟨z,t',a1,a2,a3⟩ | ⟨_,a2⟩
    · rw [e2] at a2; cases a2
      exact a6v hu value slice pins s σ H _ _ v u Q I rx ry ⟨a,z,rfl,.inl ⟨kvs,k,xq sub h1,rfl,a1.symm⟩,q z H S (Ext.refl sub) a3⟩ hs
    · rw [e2] at a2; cases a2
  | _=>simp only [bx,reduceCtorEq] at hf
theorem iu (hu:X.A.units+1<cLine) (ha:PE X a (tOf X.K B m1)) (hb:PE X b (tOf X.K B m2)) (hs:Uc b):PE X (.Subscript a b pos) (tOf X.K B (mOp bx m1 m2)):=Vk (a8p (a1z hu) ha hb hs)
theorem Ec:V0 X (.builtin "len") ql:=by
  intro pins s σ H xs us Q I rs z8
  obtain ⟨S,as,ts,w,sub,hr,hf,q⟩:=z8
  cases hr with
  | nil=>simp only [ql,reduceCtorEq] at hf
  | @cons x t xs' ts' h1 h2 =>
    cases h2 with
    | cons h3 h4=>simp only [ql,reduceCtorEq] at hf
    | nil =>
      cases h1 with
      | tup g1 g2=>simp only [ql] at hf; cases hf; exact Eh pins s σ H _ us Q I rs ⟨_,_,rfl,.inr (ou sub g1),by rw [g2.length]; exact q _ H S (Ext.refl sub) (.int _)⟩
      | lst g1 g2=>simp only [ql] at hf; cases hf; exact Eh pins s σ H _ us Q I rs ⟨_,_,rfl,.inl (qm sub g1),by rw [g2.length]; exact q _ H S (Ext.refl sub) (.int _)⟩
      | str z =>
        simp only [ql] at hf
        split at hf
        · rename_i hl; cases hf; exact Qv pins s σ H _ us Q I rs ⟨_,rfl,Nat.le_trans (Nat.le_of_lt hl) u5,q _ H S (Ext.refl sub) (.int _)⟩
        · cases hf
      | @dic a kvs ts g1 g2 =>
        simp only [ql] at hf; cases hf
        obtain ⟨u,rfl,ru⟩:=rs.one
        cases ru
        exact a9n I (xq sub g1) fun t s' I'=>⟨.int kvs.length,H,I',⟨t,rfl⟩,by rw [g2.length]; exact q _ H S (Ext.refl sub) (.int _)⟩
      | _=>simp only [ql,reduceCtorEq] at hf
theorem ud:V0 X (.type "tuple") yp:=by
  intro pins s σ H xs us Q I rs z8
  obtain ⟨S,as,ts,w,sub,hr,hf,q⟩:=z8
  cases hr with
  | nil=>simp only [yp,reduceCtorEq] at hf
  | @cons x t xs' ts' h1 h2 =>
    cases h2 with
    | cons h3 h4=>simp only [yp,reduceCtorEq] at hf
    | nil =>
      cases h1 with
      | @tup a vs ts g1 g2=>simp only [yp] at hf; cases hf; exact Ht pins s σ H _ us Q I rs ⟨_,_,rfl,.inr ⟨ou sub g1,q _ H S (Ext.refl sub) (.tup g1 g2)⟩⟩
      | @lst a vs ts g1 g2 =>
        simp only [yp] at hf; cases hf
        refine Ht pins s σ H _ us Q I rs ⟨_,_,rfl,.inl ⟨qm sub g1,fun p hp=>?_⟩⟩
        have x:=Ext.laid sub hp (.tup vs)
        exact q _ _ _ x (.tup (SqT.of jj) (g2.mono x.s nol))
      | _=>simp only [yp,reduceCtorEq] at hf
theorem Dy.put {K:PySem.W.Frag} {S:Hp} {as:List Addr} {k:L2.Key} {v:V} {t:T} (r:Rep K S as v t):∀ {vs:List (L2.Key × V)} {ts:List (L2.Key × T)},Dy K S as vs ts→Dy K S as (putK vs k v) (Lh k t ts):=by
  intro vs ts h
  have any:∀ {vs:List (L2.Key × V)} {ts:List (L2.Key × T)},Dy K S as vs ts→(vs.any fun kv=>decide (kv.1=k))=(ts.any fun p=>decide (p.1=k)):=by
    intro vs ts h
    induction vs generalizing ts with
    | nil=>cases h; rfl
    | cons p r ih=>cases h with | cons h1 h2=>rw [List.any_cons,List.any_cons,ih h2]
  have mp:∀ {vs:List (L2.Key × V)} {ts:List (L2.Key × T)},Dy K S as vs ts→Dy K S as (vs.map fun kv=>if kv.1=k then (kv.1,v) else kv) (ts.map fun p=>if p.1=k then (p.1,t) else p):=by
    intro vs ts h
    induction vs generalizing ts with
    | nil=>cases h; exact .nil
    | cons p rr ih =>
      cases h with
      | @cons q v0 t0 _ _ h1 h2 =>
        rw [List.map_cons,List.map_cons]
        by_cases e:q=k
        · rw [if_pos e,if_pos e]; exact .cons r (ih h2)
        · rw [if_neg e,if_neg e]; exact .cons h1 (ih h2)
  have ap:∀ {vs:List (L2.Key × V)} {ts:List (L2.Key × T)},Dy K S as vs ts→Dy K S as (vs++[(k,v)]) (ts++[(k,t)]):=by
    intro vs ts h
    induction vs generalizing ts with
    | nil=>cases h; exact .cons r .nil
    | cons p rr ih=>cases h with | cons h1 h2=>exact .cons h1 (ih h2)
  unfold putK Lh
  rw [any h]
  split
  · exact mp h
  · exact ap h
end
end C
end
noncomputable section
set_option linter.all false
set_option maxRecDepth 100000
set_option maxHeartbeats 4000002
set_option autoImplicit false
namespace C
open PySem PySem.Spec PyProof.Rows L2
theorem Ua {i:Nat} {k d:M T} {s s':Sta} {t:T} (h:Eb i k d s=some (t,s')):O4 i s=true∧∃ kt s1 dt kvs f q,k s=some (kt,s1)∧d s1=some (dt,s')∧s'.env[i]? = some (some (.dic kvs,f))∧keyOf kt=some q∧t=(Lf q kvs).getD dt:=by
  unfold Eb at h
  split at h
  · rename_i hd
    refine ⟨hd,?_⟩
    split at h
    · rename_i kt s1 e1
      split at h
      · rename_i dt s2 e2
        split at h
        · rename_i kvs f e3
          split at h
          · rename_i q e4
            cases h
            exact ⟨kt,s1,dt,kvs,f,q,e1,e2,e3,e4,rfl⟩
          · cases h
        · cases h
      · cases h
    · cases h
  · cases h
theorem U5 {i:Nat} {s s':Sta} {t:T} (h:Ei i s=some (t,s')):s'=s∧((∃ xs f,s.env[i]? = some (some (.lst xs,f))∧t=.int xs.length)∨(∃ xs f,s.env[i]? = some (some (.dic xs,f))∧t=.int xs.length)):=by
  unfold Ei at h
  split at h
  · rename_i xs f e; cases h; exact ⟨rfl,.inl ⟨xs,f,e,rfl⟩⟩
  · rename_i xs f e; cases h; exact ⟨rfl,.inr ⟨xs,f,e,rfl⟩⟩
  · cases h
noncomputable section
variable {K:PySem.W.Frag} {B:Bas} {st:Sta} {σ:L2.St} {H S:Hp} {ps:List (V × T)} {as:List Addr}
theorem Rel.dictAt (r:Rel K B st σ H ps S as) {i:Nat} {kvs:List (L2.Key × T)} {f:Bool} (e:st.env[i]? = some (some (.dic kvs,f))):∃ p vs,σ[i]? = some (some (.ref p))∧Rd H p (.dK vs)∧Dy K S as vs kvs:=by
  obtain ⟨v,h1,h2,h3⟩:=r.slots i _ f e
  cases f with
  | false =>
    have h:=h2 rfl
    cases h with
    | dic a b=>exact ⟨_,_,h1,xq r.sub a,b⟩
  | true =>
    obtain ⟨p,rfl,o⟩:=h3 rfl
    obtain ⟨vs,h,q⟩:=o.own
    exact ⟨p,vs,h1,.inl h,q⟩
end
noncomputable section
variable {X:Cx} {B:Bas} {a b c e o k d:Expr} {m mo mk md mv:M T} {pos p:Pos}
theorem Qn {i:Nat} {s:Sta} (h:O4 i s=true):∃ kvs f,s.env[i]? = some (some (.dic kvs,f)):=by
  unfold O4 at h
  split at h
  · rename_i kvs f e; exact ⟨kvs,f,e⟩
  · cases h
theorem Ep {i:Nat} {s:Sta} (h:jf i s=true):∃ kvs f,s.env[i]? = some (some (.lst kvs,f)):=by
  unfold jf at h
  split at h
  · rename_i kvs f e; exact ⟨kvs,f,e⟩
  · cases h
theorem R8 (i:Nat) {apos:Pos} (hu:X.A.units+1<cLine) (ho:PE X o (W3 i)) (hk:PE X k (tOf X.K B mk)) (hd:PE X d (tOf X.K B md)) (m:M2 X o "get" apos k d pos):PE X (.Call (.Attribute o "get" apos) [k,d] [] pos) (tOf X.K B (Eb i mk md)) :=
  (Vm hu ho hk hd m).imp fun σ H Q z9=>by
    obtain ⟨st,ps,S,as,R,t,st',e,q⟩:=z9
    obtain ⟨hd,kt,s1,dt,kvs,f,qk,e1,e2,e3,e4,rfl⟩:=Ua e
    obtain ⟨kvs0,f0,e0⟩:=Qn hd
    obtain ⟨p0,vs0,s0,rd0,_⟩:=R.dictAt e0
    refine ⟨_,s0,p0,rfl,.inl ⟨vs0,rd0⟩,st,ps,S,as,R,kt,s1,e1,fun u H1 S1 as1 R1=>⟨s1,_,S1,as1,R1,dt,st',e2,fun w H2 S2 as2 R2=>?_⟩⟩
    obtain ⟨p1,vs1,z1,rd1,h4⟩:=R2.dictAt e3
    rw [s0] at z1; cases z1
    have ey:=T9 R2.top2 e4
    subst ey
    refine ⟨Ls vs1 qk,.inl ⟨vs1,qk,rd1,rfl,rfl⟩,?_⟩
    rcases h4.get qk with ⟨z,t',a1,a2,a3⟩ | ⟨a1,a2⟩
    · rw [a1]; rw [a2] at q; exact q z H2 S2 as2 (R2.drop.drop.push a3)
    · rw [a1]; rw [a2] at q; exact q w H2 S2 as2 (R2.drop.drop.push R2.top)
theorem a4s {apos:Pos} (hu:X.A.units+1<cLine) (ho:PE X o (tOf X.K B mo)) (hk:PE X k (tOf X.K B mk)) (hd:PE X d (tOf X.K B md)) (m:M2 X o "get" apos k d pos):PE X (.Call (.Attribute o "get" apos) [k,d] [] pos) (tOf X.K B (gb a3h (ak mo (ak mk (ak md d9))))) :=
  (Vm hu ho hk hd m).imp fun σ H Q z9=>by
    obtain ⟨st,ps,S,as,R,t,st',e,q⟩:=z9
    obtain ⟨ts,e1,ef⟩:=Df e
    obtain ⟨to,s1,r1,eo,e2,rfl⟩:=Ak e1
    obtain ⟨tk,s2,r2,ek,e3,rfl⟩:=Ak e2
    obtain ⟨td,s3,r3,ed,e4,rfl⟩:=Ak e3
    cases e4
    refine ⟨st,ps,S,as,R,to,s1,eo,fun v H1 S1 as1 R1=>?_⟩
    have top:=R1.top
    cases top with
    | @dic a vs kvs g1 g2 =>
      simp only [a3h] at ef
      obtain ⟨qk,e4,e5⟩:=Option.map_eq_some_iff.mp ef
      subst e5
      refine ⟨a,rfl,.inl ⟨vs,xq R1.sub g1⟩,s1,_,S1,as1,R1,tk,s2,ek,fun u H2 S2 as2 R2=>⟨s2,_,S2,as2,R2,td,_,ed,fun w H3 S3 as3 R3=>?_⟩⟩
      have ey:=T9 R3.top2 e4
      subst ey
      have top3:Rep X.K S3 as3 (.ref a) (.dic kvs):=R3.pend _ (List.mem_cons_of_mem _ (List.mem_cons_of_mem _ List.mem_cons_self))
      cases top3 with
      | @dic _ vs3 _ g3 g4 =>
        refine ⟨Ls vs3 qk,.inl ⟨vs3,qk,xq R3.sub g3,rfl,rfl⟩,?_⟩
        rcases g4.get qk with ⟨z,t',a1,a2,a3⟩ | ⟨a1,a2⟩
        · rw [a1]; rw [a2] at q; exact q z H3 S3 as3 (R3.drop.drop.drop.push a3)
        · rw [a1]; rw [a2] at q; exact q w H3 S3 as3 (R3.drop.drop.drop.push R3.top)
    | _=>simp only [a3h,reduceCtorEq] at ef
theorem Kd (i:Nat) {pos':Pos} (hu:X.A.units+1<cLine) (ho:PE X o (W3 i)) (hk:PE X k (tOf X.K B mk)) (hv:PE X e (tOf X.K B mv)) (hs:swapsWith e (some (.Subscript o k pos')) pos.line X.env=pure false) :
    PS X (.Assign [.Subscript o k pos'] e pos) (sOf X.K B (Aq i mk mv)):=(Ym hu ho hk hv hs).imp fun D σ H z9=>by
  obtain ⟨st,ps,S,as,R,fl,st',e,q⟩:=z9
  obtain ⟨t,s1,kt,s2,kvs,qk,e1,hd,e3,e4,e5,hl,rfl,rfl⟩:=Uk e
  obtain ⟨kvs0,f0,e0⟩:=Qn hd
  refine ⟨st,ps,S,as,R,t,s1,e1,fun v H1 S1 as1 R1=>?_⟩
  obtain ⟨p0,vs0,s0,rd0,_⟩:=R1.dictAt e0
  refine ⟨_,s0,s1,_,S1,as1,R1,kt,s2,e3,fun y H3 S3 as3 R3=>?_⟩
  obtain ⟨w,h1,_,h3⟩:=R3.slots i _ true e4
  rw [s0] at h1; cases h1
  obtain ⟨p',ep,ow⟩:=h3 rfl
  cases ep
  obtain ⟨vs,hH,h4⟩:=ow.own
  have ey:=T9 R3.top e5
  subst ey
  exact ⟨p0,_,rfl,a5t.k hH (by rw [h4.length]; exact Nat.lt_of_lt_of_le hl u5),q _ _ S3 as3 (R3.drop.drop.turn e4 s0 ⟨_,jj,h4.put R3.top2⟩)⟩
end
end C
end
noncomputable section
set_option linter.all false
set_option maxRecDepth 100000
set_option maxHeartbeats 4000002
set_option autoImplicit false
namespace C
open PySem PySem.Spec PyProof.Rows L2
theorem dg {ms:M (List T)} {n:Nat} (h:∀ st ts st',ms st=some (ts,st')→ts.length≤n) (hn:n≤1000):∀ st ts st',ms st=some (ts,st')→ts.length≤1000:=fun st ts st' e=>Nat.le_trans (h st ts st' e) hn
theorem v7 {m:M T}:∀ st ts st',jy m st=some (ts,st')→ts.length≤sizeLine:=fun st ts st' e=>by
  unfold jy at e
  split at e
  · split at e
    · rename_i h; cases e; exact Nat.le_trans (Nat.le_of_lt h) u5
    · cases e
  · split at e
    · rename_i h; cases e; exact Nat.le_trans (Nat.le_of_lt h) u5
    · cases e
  · cases e
theorem Dd {m:M T}:∀ st ts st',gn m st=some (ts,st')→ts.length≤sizeLine:=fun st ts st' e=>by
  obtain ⟨n,_,h,rfl⟩:=Ni e
  unfold rangeT
  rw [List.length_map,List.length_range]
  refine Nat.le_trans ?_ u5
  show n.toNat≤1000000
  omega
noncomputable def gw (P:Program) (w:World) (K:PySem.W.Frag) (mg:Str→Option Value) (base:Heap) (x:Str) (k:Nat) (ps:List Str) (F:Fn):Prop :=
  ∃ f fd,zy P w K mg base CX0 k f fd ps (spF K ps.length F)∧Binds K fd ps []∧PySem.W.keepIn K (.ref f)=true∧mg x=some (.ref f)
theorem gw.mono {P:Program} {w:World} {K:PySem.W.Frag} {mg:Str→Option Value} {base:Heap} {x:Str} {j k:Nat} {ps:List Str} {F:Fn} (d:gw P w K mg base x j ps F) (h:j≤k):gw P w K mg base x k ps F:=by
  obtain ⟨f,fd,h1,h2⟩:=d
  exact ⟨f,fd,h1.mono h,h2⟩
noncomputable section
variable {X:Cx} {B:Bas} {a b c e o k:Expr} {m m1 m2:M T} {pos p:Pos} {es:List Expr} {ms:M (List T)} {F:Fn} {x:Str} {n:Nat} {pn:List Str}
theorem gk (D:gw X.prog X.w X.K X.mg X.base x n pn F) (hr:K3 n X.A) (hg:Gl X x)
    (ha:PA X (e::es) (aOf X.K B ms)) (hl:∀ st ts st',ms st=some (ts,st')→ts.length=pn.length) (hdb:(x==("__debug__" : Str))=false:=by decide)
    (he:starEach (e::es) X.env=(false,eval e X.env)::starEach es X.env:=by rfl) (hpl:(backTo pos (starEach es X.env)).any (·.1)=false:=by rfl) :
    PE X (.Call (.Name x p) (e::es) [] pos) (tOf X.K B (dj F ms)):=by
  obtain ⟨f,fd,h1,h2,h3,h4⟩:=D
  exact a7g h1 hr hg h4 h3 h2 ha hl hdb he hpl
theorem J1 (h:PA X es (aOf X.K B ms)) (hm:∀ st ts st',ms st=some (ts,st')→ts.length≤1000):PE X (.List es pos) (fOf X.K B (gb (fun l=>some (.lst l)) ms)) :=
  (a5n h).imp fun σ H Q z9=>by
    obtain ⟨st,ps,S,as,R,t,st',e,q⟩:=z9
    obtain ⟨ts,e1,e2⟩:=Df e
    cases e2
    refine ⟨st,ps,S,as,R,ts,st',e1,fun vs H1 S1 as1 R1 rs=>⟨?_,fun p hp=>?_⟩⟩
    · rw [rs.length]; exact Nat.le_of_lt (Hs (hm _ _ _ e1))
    · obtain ⟨bD,sD,nD,no⟩:=R1.fresh hp
      exact q p _ S1 as1 (R1.a7b bD sD nD no) ⟨⟨vs,jj,rs⟩,sD,nD,bD⟩ no
theorem Yi:PE X (.Dict [] [] pos) (fOf X.K B (aq (.dic []))):=a2l.imp fun σ H Q z9=>by
  obtain ⟨st,ps,S,as,R,t,st',e,q⟩:=z9
  cases e
  intro p hp
  obtain ⟨bD,sD,nD,no⟩:=R.fresh hp
  exact q p _ S as (R.a7b bD sD nD no) ⟨⟨[],jj,.nil⟩,sD,nD,bD⟩ no
theorem Rel.listAt {K:PySem.W.Frag} {B:Bas} {st:Sta} {σ:L2.St} {H S:Hp} {ps:List (V × T)} {as:List Addr} (r:Rel K B st σ H ps S as) {i:Nat} {xs:List T} {f:Bool} (e:st.env[i]? = some (some (.lst xs,f))):∃ p vs,σ[i]? = some (some (.ref p))∧SqL K H p vs∧vq K S as vs xs:=by
  obtain ⟨v,h1,h2,h3⟩:=r.slots i _ f e
  cases f with
  | false =>
    have h:=h2 rfl
    cases h with
    | lst a b=>exact ⟨_,_,h1,qm r.sub a,b⟩
  | true =>
    obtain ⟨p,rfl,o⟩:=h3 rfl
    obtain ⟨vs,h,q⟩:=o.own
    exact ⟨p,vs,h1,SqL.of h,q⟩
theorem yq (i:Nat) {st:Stmt} (h:PS X st (a3k (tBM X.K "list" a05 (W3 i) (Wv (tOf X.K B m) a8g)))):PS X st (sOf X.K B (dz i m)):=h.imp fun D σ H z9=>by
  obtain ⟨st,ps,S,as,R,fl,st',e,q⟩:=z9
  obtain ⟨hd,t,s1,xs,e1,e2,hl,rfl,rfl⟩:=U7 e
  obtain ⟨xs0,f0,e0⟩:=Ep hd
  obtain ⟨p0,vs0,s0,q0,_⟩:=R.listAt e0
  refine ⟨_,s0,.inl ⟨rfl,_,q0⟩,st,ps,S,as,R,t,s1,e1,fun v H1 S1 as1 R1=>?_⟩
  obtain ⟨w,h1,_,h3⟩:=R1.slots i _ true e2
  rw [s0] at h1; cases h1
  obtain ⟨p',ep,ow⟩:=h3 rfl
  cases ep
  obtain ⟨vs,hH,h4⟩:=ow.own
  exact ⟨p0,vs,v,rfl,rfl,hH,by rw [h4.length]; exact Nat.lt_of_lt_of_le hl u5,q _ _ S1 as1 (R1.drop.turn e2 s0 ⟨_,jj,h4.append (.cons R1.top .nil)⟩)⟩
end
end C
end
noncomputable section
set_option linter.all false
set_option maxRecDepth 100000
set_option maxHeartbeats 4000002
set_option autoImplicit false
namespace C
open PySem PySem.Spec PyProof.Rows L2
noncomputable section
variable {X:Cx} {B:Bas} {a b c e o k:Expr} {m m1 m2:M T} {pos p:Pos}
theorem Rg {K:PySem.W.Frag} {S:Hp} {as:List Addr}:∀ {vs:List V} {ts:List T} {l:List Str},vq K S as vs ts→J6 ts=some l→vs=l.map V.str
  | _,_,l,.nil,h=>by cases h; rfl
  | _,_,l,.cons (t:=t) h1 h2,h=>by
    cases h1 <;> simp only [J6,reduceCtorEq] at h
    obtain ⟨l',e1,e2⟩:=Option.map_eq_some_iff.mp h
    subst e2
    rw [Rg h2 e1]; rfl
theorem Inv.jf {pins:List (Addr × Obj)} {σ:L2.St} {H:Hp} {s:Shared} {a:Addr} {xs:List V} (I:L2.Inv X pins σ H s) (h:SqL X.K H a xs):a<s.heap.objs.size:=by
  obtain ⟨its,_,⟨o,n,h1,_⟩,_⟩:=I.list h
  exact Heap.lt_size h1
theorem Mh:∀ {l:List Str} {us:List Value},Vals (l.map V.str) us→StrsAre us l
  | [],_,r=>by cases r; exact .nil
  | x::l,_,r=>by
    rw [List.map_cons] at r
    cases r with
    | cons r1 r2=>obtain ⟨t,rfl⟩:=r1; exact .cons x t (Mh r2)
theorem Q6 {l:List Str} {us:List Value} (h:StrsAre us l):Vals (l.map V.str) us:=by
  induction h with
  | nil=>exact .nil
  | cons x t _ ih=>exact .cons ⟨t,rfl⟩ ih
noncomputable abbrev Fl (a b:Str):Prop:=¬ b.cps.toList<a.cps.toList
theorem Ku {a b c:Str} (h1:Fl a b) (h2:Fl b c):Fl a c:=fun h=>by
  have h3:a.cps.toList≤b.cps.toList:=List.not_lt.mp h1
  have h4:b.cps.toList≤c.cps.toList:=List.not_lt.mp h2
  exact List.not_lt.mpr (List.le_trans h3 h4) h
theorem X8 {a b:Str} (h1:Fl a b) (h2:Fl b a):a=b:=by
  have h3:a.cps.toList≤b.cps.toList:=List.not_lt.mp h1
  have h4:b.cps.toList≤a.cps.toList:=List.not_lt.mp h2
  have h5:=List.le_antisymm h3 h4
  cases a; cases b
  simp at h5; subst h5; rfl
theorem Jm:∀ (p:Str) (l:List Str),risingS p l=true→(p::l).Pairwise Fl
  | p,[],_=>by simp
  | p,x::r,h=>by
    rw [risingS,Bool.and_eq_true] at h
    have ih:=Jm x r h.2
    have hx:Fl p x:=fun z=>by
      have:=h.1
      rw [ltCps_eq,decide_eq_true z] at this
      cases this
    refine List.pairwise_cons.mpr ⟨fun y hy=>?_,ih⟩
    rcases List.mem_cons.mp hy with rfl | hy -- here
    · exact hx
    · exact Ku hx (List.rel_of_pairwise_cons ih hy)
theorem Tn (l:List Str) (h:sortedS l=true):l.Pairwise Fl:=by
  cases l with
  | nil=>exact .nil
  | cons x r=>exact Jm x r h
theorem Jx (x:Str):∀ l,(Y0 x l).Perm (x::l)
  | []=>.refl _
  | y::r=>by
    rw [Y0]
    split
    · exact .refl _
    · exact ((Jx x r).cons y).trans (.swap x y r)
theorem Rm (x:Str):∀ l:List Str,l.Pairwise Fl→(Y0 x l).Pairwise Fl
  | [],_=>by simp [Y0]
  | y::r,h=>by
    rw [Y0]
    split
    · rename_i hx
      have hx:=of_decide_eq_true hx
      have hxy:Fl x y:=fun z=>List.lt_irrefl _ (List.lt_trans hx z)
      refine List.pairwise_cons.mpr ⟨fun z hz=>?_,h⟩
      rcases List.mem_cons.mp hz with rfl | hz -- here
      · exact hxy
      · exact Ku hxy (List.rel_of_pairwise_cons h hz)
    · rename_i hx
      have hx:Fl y x:=fun z=>hx (decide_eq_true z)
      refine List.pairwise_cons.mpr ⟨fun z hz=>?_,Rm x r (List.pairwise_cons.mp h).2⟩
      rcases List.mem_cons.mp ((Jx x r).mem_iff.mp hz) with rfl | hz
      · exact hx
      · exact List.rel_of_pairwise_cons h hz
theorem Ik:∀ (l acc:List Str),acc.Pairwise Fl→(l.foldl (fun acc x=>Y0 x acc) acc).Pairwise Fl∧(l.foldl (fun acc x=>Y0 x acc) acc).Perm (l++acc)
  | [],acc,h=>⟨h,.refl _⟩
  | x::l,acc,h=>by
    obtain ⟨h1,h2⟩:=Ik l (Y0 x acc) (Rm x acc h)
    exact ⟨h1,h2.trans (((Jx x acc).append_left l).trans (List.perm_middle))⟩
theorem Xf (l:List Str):(Bs l).Pairwise Fl:=(Ik l [] .nil).1
theorem Ie (l:List Str):(Bs l).Perm l:=by
  have:=(Ik l [] .nil).2
  rwa [List.append_nil] at this
theorem Vl {l l':List Str} (h1:sortedS l'=true) (h2:l'.Perm l):l'=Bs l :=
  List.Perm.eq_of_pairwise (le:=Fl) (fun _ _ _ _=>X8) (Tn l' h1) (Xf l) (h2.trans (Ie l).symm)
theorem Jr {K:PySem.W.Frag} {S:Hp} {as:List Addr}:∀ l:List Str,vq K S as (l.map V.str) (l.map T.str)
  | []=>.nil
  | x::l=>.cons (.str x) (Jr l)
theorem Wk {pins:List (Addr × Obj)} {σ:L2.St} {H S:Hp} {s:Shared} {as:List Addr} {a:Addr} {l:List Str} {Q:VK} (I:L2.Inv X pins σ H s) (sub:Same S H) (g1:SqL X.K H a (l.map V.str)) (h64:l.length<64)
    (q:∀ v H' S',Ext S H S' H'→Rep X.K S' as v (.lst ((Bs l).map .str))→Q v H'):wpAny (model X.prog X.w) X.A (call (.builtin "sorted") [.ref a]) (EP X pins σ Q) X.xe s:=by
  obtain ⟨its,r,p,hz⟩:=I.list g1
  refine sorted_strs p.isList (Mh r) (by rw [← r.length,List.length_map]; exact h64) fun out ss' a1 a2 a3=>?_
  have es:=Vl a3 a2
  subst es
  obtain ⟨e,he⟩:=sortedAll_at s.heap its out
  have hl:(List.map V.str (Bs l)).length≤sizeLine:=by
    rw [List.length_map,(Ie l).length_eq]
    exact Nat.le_trans (Nat.le_of_lt h64) (by rw [sizeLine_eq]; decide)
  have hn:H (s.heap.objs.size+1)=none:=I.hok.fresh (Nat.le_succ _)
  have x:=Ext.laid sub hn (.lst ((Bs l).map V.str))
  refine ⟨.ref (s.heap.objs.size+1),_,I.laid (a:=s.heap.objs.size+1) (o:=.lst ((Bs l).map V.str)) (h':=sortedAll s.heap its out) (t':=s.toks) (fun _ _=>sortedAll_old) (Nat.le_succ _) ⟨hl,out.toList,e,Q6 a1,he⟩,rfl,q _ _ _ x (.lst (SqL.of jj) (Jr _))⟩
theorem Ob:Dz X (.builtin "sorted") (fun xs H Q=>∃ S as ts l,Same S H∧vq X.K S as xs [.lst ts]∧ts.length<64∧J6 ts=some l∧∀ v H' S',Ext S H S' H'→Rep X.K S' as v (.lst ((Bs l).map .str))→Q v H'):=by
  intro pins s σ H xs us Q I rs z8
  obtain ⟨S,as,ts,l,sub,hr,h64,e1,q⟩:=z8
  cases hr with
  | cons h1 h2 =>
    cases h2
    cases h1 with
    | @lst a vs _ g1 g2 =>
      have ev:=Rg g2 e1
      subst ev
      obtain ⟨u,rfl,ru⟩:=rs.one
      cases ru
      have hl:=g2.length
      rw [List.length_map] at hl
      exact Wk I sub (qm sub g1) (by omega) q
noncomputable def tyOf:T→Option Value
  | .non=>some (.type "NoneType")
  | .bl _=>some (.type "bool")
  | .int _=>some (.type "int")
  | .str _=>some (.type "str")
  | .tup _=>some (.type "tuple")
  | .lst _=>some (.type "list")
  | .dic _=>some (.type "dict")
  | .obj _=>none
theorem a8d {pins:List (Addr × Obj)} {σ:L2.St} {H S:Hp} {s:Shared} {as:List Addr} {x:V} {u c:Value} {t:T} {ty:Value} {b:Bool} {Q:Value→Shared→Prop} {E:Value→Shared→Prop} (I:L2.Inv X pins σ H s) (sub:Same S H) (rx:RelV x u) (r:Rep X.K S as x t) (hty:tyOf t=some ty)
    (e:PySem.W.kitOne X.K ty c=some b) (h:∀ tk,Q (.bool b) { s with toks:=tk }):wpAny (model X.prog X.w) X.A (call (.builtin "isinstance") [u,c]) Q E s:=by
  cases r with
  | non=>cases hty; exact Gu I rx .non e h
  | bl y=>cases hty; exact Gu I rx (.bl y) e h
  | int y=>cases hty; exact Gu I rx (.int y) e h
  | str y=>cases hty; exact Gu I rx (.str y) e h
  | @tup a vs ts g1 g2 =>
    cases hty
    cases (show u=Value.ref a from rx)
    obtain ⟨its,_,⟨o,h1,h2,_⟩,_⟩:=I.tuple (ou sub g1)
    exact PySem.W.kia_one PySem.W.kitx_tuple I.kIn ⟨o,h1,h2⟩ e (fun z=>nomatch z) h
  | @lst a vs ts g1 g2 =>
    cases hty
    cases (show u=Value.ref a from rx)
    obtain ⟨its,_,⟨o,n,h1,h2,_⟩,_⟩:=I.list (qm sub g1)
    exact PySem.W.kia_one PySem.W.kitx_list I.kIn ⟨o,h1,h2⟩ e (fun z=>nomatch z) h
  | @dic a kvs ts g1 g2 =>
    cases hty
    cases (show u=Value.ref a from rx)
    obtain ⟨_,_,vs,_,o,es,ep,h1,h2,_⟩:=Im I.hok (xq sub g1)
    exact PySem.W.kia_one PySem.W.kitx_dict I.kIn ⟨o,h1,h2.1⟩ e (fun z=>nomatch z) h
  | obj h=>cases hty
example (K:PySem.W.Frag):PySem.W.kitOne K (.type "bool") (.type "int")=some true:=by rfl
example (K:PySem.W.Frag):PySem.W.kitOne K (.type "str") (.type "int")=some false:=by rfl
end
end C
end
noncomputable section
set_option linter.all false
set_option maxRecDepth 100000
set_option maxHeartbeats 4000002
set_option autoImplicit false
namespace C
open PySem PySem.Spec PyProof.Rows L2
theorem Sg (l b:Addr) (xs0 ys0:Array Value) (n n2:Nat) (dd2:Option Addr) (sl2:Array (Option Value)) (hs0:¬(!xs0.isEmpty&&Builtin.List.listTooLong (xs0.size+ys0.size))=true) (hs1:xs0.size≤sizeLine) (hs2:xs0.size+ys0.size≤sizeLine+1) :
    Meets (Builtin.«list.extend» ⟨[.ref l,.ref b],[]⟩) (fun _ R s=>s.heap.get? l=some { cls:=.type "list",dict:=none,data:=.seq xs0 n,slots:=#[] }∧s.heap.get? b=some { cls:=.type "list",dict:=dd2,data:=.seq ys0 n2,slots:=sl2 }∧R (.ok (.ret Value.none)) { s with heap:=s.heap.update l (Obj.mapSeq fun x=>x++ys0),toks:=s.toks }) :=
  .of_wp fun pr wd Ar R z h=>by
    obtain ⟨hp,gs,dr,tk,os⟩:=z; obtain ⟨hl,hb,h⟩:=h; have f1:=AutoSeq1.idx_int; have f2:=AutoSeq1.sub_tuple_tuple; have f3:=AutoSeq1.sub_list_list; have f4:=AutoSeq1.sub_tuple_list; have f5:=AutoSeq1.sub_list_tuple
    have hz':(xs0++ys0).size≤sizeLine+1:=by rw [Array.size_append]; exact hs2
    wp_walk using (wpAny_updateSeq hl rfl (hz:=hs1) (_hz':=hz')),AutoSeq1.wpAny_loadPart' hl,AutoSeq1.wpAny_loadPart' hb; exact ⟨_,rfl,h⟩
theorem Q0 (l b:Addr) (xs0 ys0:Array Value) (n n2:Nat) (dd2:Option Addr) (sl2:Array (Option Value)) (hs0:¬(!xs0.isEmpty&&Builtin.List.listTooLong (xs0.size+ys0.size))=true) (hs1:xs0.size≤sizeLine) (hs2:xs0.size+ys0.size≤sizeLine+1) :
    Meets (Builtin.«list.extend» ⟨[.ref l,.ref b],[]⟩) (fun _ R s=>s.heap.get? l=some { cls:=.type "list",dict:=none,data:=.seq xs0 n,slots:=#[] }∧s.heap.get? b=some { cls:=.type "tuple",dict:=dd2,data:=.seq ys0 n2,slots:=sl2 }∧R (.ok (.ret Value.none)) { s with heap:=s.heap.update l (Obj.mapSeq fun x=>x++ys0),toks:=s.toks }) :=
  .of_wp fun pr wd Ar R z h=>by
    obtain ⟨hp,gs,dr,tk,os⟩:=z; obtain ⟨hl,hb,h⟩:=h; have f1:=AutoSeq1.idx_int; have f2:=AutoSeq1.sub_tuple_tuple; have f3:=AutoSeq1.sub_list_list; have f4:=AutoSeq1.sub_tuple_list; have f5:=AutoSeq1.sub_list_tuple
    have hz':(xs0++ys0).size≤sizeLine+1:=by rw [Array.size_append]; exact hs2
    wp_walk using (wpAny_updateSeq hl rfl (hz:=hs1) (_hz':=hz')),AutoSeq1.wpAny_loadPart' hl,AutoSeq1.wpAny_loadPart' hb; exact ⟨_,rfl,h⟩
noncomputable section
variable {X:Cx} {B:Bas} {m:M T}
noncomputable def Vg (K:PySem.W.Frag):V→List V→Hp→VK→Prop:=fun x vs H Q=>∃ l b xs zs,x=.ref l∧vs=[.ref b]∧H l=some (.lst xs)∧(SqL K H b zs∨SqT K H b zs)∧xs.length+zs.length≤sizeLine∧Q .non (upd H l (.lst (xs++zs)))
theorem Ac:MtM X "list.extend" (Vg X.K):=by
  intro pins s σ H x vs v us Q I rx rv h
  obtain ⟨l,b,xs,zs,rfl,rfl,hH,hB,hz,q⟩:=h
  cases rx
  obtain ⟨u,rfl,ru⟩:=rv.one
  cases ru
  obtain ⟨z,its,n,r,hl,e⟩:=I.aag hH
  have fin:∀ its2:List Value,Vals zs its2→L2.Inv X pins σ (upd H l (.lst (xs++zs))) { s with heap:=s.heap.update l (Obj.mapSeq fun x=>x++its2.toArray),toks:=s.toks }:=fun its2 r2 =>
    I.aaz (its':=its++its2) hH e (by simp) (r.append r2) (by rw [List.length_append]; exact hz)
  have hlong:∀ its2:List Value,Vals zs its2→¬ (!its.toArray.isEmpty&&Builtin.List.listTooLong (its.toArray.size+its2.toArray.size))=true:=fun its2 r2=>by
    have hsz:its.toArray.size+its2.toArray.size≤sizeLine:=by rw [List.size_toArray,List.size_toArray,← hl,← r2.length]; exact hz
    rw [a3w hsz,Bool.and_false]
    exact Bool.false_ne_true
  rcases hB with hB | hB
  · obtain ⟨its2,r2,⟨⟨cls2,dd2,data2,sl2⟩,n2,ho2,hc2,hd02,hd2⟩,_⟩:=I.list hB
    simp only at hc2 hd2
    subst hc2 hd2
    refine call_meets F.slot_list_extend ⟨_,e,rfl⟩ F.entry_list_extend (F.args_list_extend_2 _ _)
      (Sg l b its.toArray its2.toArray n n2 dd2 sl2 (hlong its2 r2) (by rw [List.size_toArray,← hl]; omega) (by rw [List.size_toArray,List.size_toArray,← hl,← r2.length]; omega)) ⟨e,ho2,?_⟩
    exact ⟨.non,_,fin its2 r2,rfl,q⟩
  · obtain ⟨its2,r2,⟨⟨cls2,dd2,data2,sl2⟩,ho2,hc2,n2,hd2⟩,_⟩:=I.tuple hB
    simp only at hc2 hd2
    subst hc2 hd2
    refine call_meets F.slot_list_extend ⟨_,e,rfl⟩ F.entry_list_extend (F.args_list_extend_2 _ _)
      (Q0 l b its.toArray its2.toArray n n2 dd2 sl2 (hlong its2 r2) (by rw [List.size_toArray,← hl]; omega) (by rw [List.size_toArray,List.size_toArray,← hl,← r2.length]; omega)) ⟨e,ho2,?_⟩
    exact ⟨.non,_,fin its2 r2,rfl,q⟩
theorem Bm (i:Nat) {st:Stmt} (h:PS X st (a3k (tBM X.K "list" (Vg X.K) (W3 i) (Wv (tOf X.K B m) a8g)))):PS X st (sOf X.K B (fu i m)):=h.imp fun D σ H z9=>by
  obtain ⟨st,ps,S,as,R,fl,st',e,q⟩:=z9
  obtain ⟨hd,t,s1,xs,ys,e1,ey,e2,hl,rfl,rfl⟩:=Ui e
  obtain ⟨xs0,f0,e0⟩:=Ep hd
  obtain ⟨p0,vs0,s0,q0,_⟩:=R.listAt e0
  refine ⟨_,s0,.inl ⟨rfl,_,q0⟩,st,ps,S,as,R,t,s1,e1,fun v H1 S1 as1 R1=>?_⟩
  obtain ⟨w,h1,_,h3⟩:=R1.slots i _ true e2
  rw [s0] at h1; cases h1
  obtain ⟨p',ep,ow⟩:=h3 rfl
  cases ep
  obtain ⟨vs,hH,h4⟩:=ow.own
  have top:=R1.top
  cases top with
  | @tup b zs _ g1 g2 =>
    simp only [jh] at ey; cases ey
    exact ⟨p0,b,vs,zs,rfl,rfl,hH,.inr (ou R1.sub g1),by rw [h4.length,g2.length]; exact Nat.le_trans (Nat.le_of_lt hl) u5,q _ _ S1 as1 (R1.drop.turn e2 s0 ⟨_,jj,h4.append g2⟩)⟩
  | @lst b zs _ g1 g2 =>
    simp only [jh] at ey; cases ey
    exact ⟨p0,b,vs,zs,rfl,rfl,hH,.inl (qm R1.sub g1),by rw [h4.length,g2.length]; exact Nat.le_trans (Nat.le_of_lt hl) u5,q _ _ S1 as1 (R1.drop.turn e2 s0 ⟨_,jj,h4.append g2⟩)⟩
  | _=>simp only [jh,reduceCtorEq] at ey
end
end C
end
noncomputable section
set_option linter.all false
set_option maxRecDepth 100000
set_option maxHeartbeats 4000002
set_option autoImplicit false
namespace C
open PySem PySem.Spec PyProof.Rows L2
theorem Rel.newObj {K:PySem.W.Frag} {B:Bas} {st:Sta} {σ:L2.St} {H S:Hp} {ps:List (V × T)} {as:List Addr} {p:Addr} {ob:HO} {so:SO} (r:Rel K B st σ H ps S as) (hp:H p=none) (h:a4u K S (as++[p]) (upd H p ob) p so) :
    Rel K B { st with sto:=st.sto++[so] } σ (upd H p ob) ((.ref p,.obj st.sto.length)::ps) S (as++[p]):=by
  obtain ⟨bD,sD,nD,no⟩:=r.fresh hp
  have mo:∃ l,as++[p]=as++l:=⟨[p],rfl⟩
  have other:∀ q,q≠p→H q=upd H p ob q:=fun q n=>(nj n).symm
  refine Rel.push (st:={ st with sto:=st.sto++[so] }) (H:=upd H p ob) (v:=.ref p) (t:=.obj st.sto.length) ⟨fun b u e=>?_,⟨r.grow.same,?_,fun q o a b c=>?_⟩,fun i t f e=>?_,r.apart,⟨?_,?_,fun n so2 e=>?_⟩,fun q hq=>(r.pend q hq).mono (Same.refl _) mo,r.len⟩ (.obj ?_)
  · rw [nj (fun z=>by subst z; rw [sD] at e; cases e)]; exact r.sub _ _ e
  · obtain ⟨l,e⟩:=r.grow.more
    exact ⟨l++[p],by rw [e,List.append_assoc]⟩
  · obtain ⟨x,y,z⟩:=r.grow.keep q o a b c
    have n:q≠p:=fun w=>by subst w; rw [bD] at a; cases a
    refine ⟨by rw [nj n]; exact x,y,fun m=>?_⟩
    rcases List.mem_append.mp m with m | m
    · exact z m
    · exact n (List.mem_singleton.mp m)
  · obtain ⟨v,h1,h2,h3⟩:=r.slots i t f e
    refine ⟨v,h1,fun z=>(h2 z).mono (Same.refl _) mo,fun z=>?_⟩
    obtain ⟨q,rfl,o⟩:=h3 z
    have n:q≠p:=fun w=>by subst w; subst z; exact no i t e h1
    refine ⟨q,rfl,o.own.more (Same.refl _) mo (other q n),o.out,fun m=>?_,o.new⟩
    rcases List.mem_append.mp m with m | m
    · exact o.nas m
    · exact n (List.mem_singleton.mp m)
  · show (as++[p]).length=(st.sto++[so]).length
    rw [List.length_append,List.length_append,r.sto.len]; rfl
  · refine List.nodup_append.mpr ⟨r.sto.nd,by simp,fun a ha b hb=>?_⟩
    rw [List.mem_singleton.mp hb]
    intro z; subst z; exact nD ha
  · have e:(st.sto++[so])[n]? = some so2:=e
    by_cases hn:n<st.sto.length
    · rw [List.getElem?_append_left hn] at e
      obtain ⟨a,h1,h2,h3⟩:=r.sto.at' n so2 e
      have na:a≠p:=fun z=>by subst z; exact nD (List.mem_of_getElem? h1)
      refine ⟨a,a02 h1,h2,?_⟩
      cases so2 with
      | dic ts=>obtain ⟨vs,x,y⟩:=h3; exact ⟨vs,by rw [nj na]; exact x,y.mono (Same.refl _) mo⟩
      | lst ts=>obtain ⟨vs,x,y⟩:=h3; exact ⟨vs,by rw [nj na]; exact x,y.mono (Same.refl _) mo⟩
      | dit ts=>obtain ⟨vs,x,y⟩:=h3; exact ⟨vs,by rw [nj na]; exact x,y.mono (Same.refl _) mo⟩
    · rw [List.getElem?_append_right (Nat.le_of_not_lt hn)] at e
      have hn0:n - st.sto.length=0:=by
        have:=(List.getElem?_eq_some_iff.mp e).1
        simp at this; omega
      rw [hn0] at e; cases e
      have hne:n=as.length:=by rw [r.sto.len]; omega
      subst hne
      exact ⟨p,by rw [List.getElem?_append_right (Nat.le_refl _),Nat.sub_self]; rfl,sD,h⟩
  · rw [← r.sto.len,List.getElem?_append_right (Nat.le_refl _),Nat.sub_self]; rfl
noncomputable def PN (X:Cx) (e:Expr) (N:L2.St→V→Prop):Prop:=PE X e (fun σ H Q=>∃ v,N σ v∧Q v H)
noncomputable def MN (K:PySem.W.Frag) (m:M T) (N:L2.St→V→Prop):Prop:=∀ (B:Bas) (st:Sta) (σ:L2.St) (H:Hp) (ps:List (V × T)) (S:Hp) (as:List Addr) (t:T) (st':Sta),Rel K B st σ H ps S as→m st=some (t,st')→st'=st∧∃ v,N σ v∧Rep K S as v t
structure PM (X:Cx) (e:Expr) (m:M T) (N:L2.St→V→Prop):Prop where
  p:PN X e N
  m:MN X.K m N
noncomputable section
variable {X:Cx} {B:Bas} {a b e e1 e2:Expr} {m m1 m2:M T} {N N1 N2:L2.St→V→Prop} {pos p:Pos}
end
end C
end
noncomputable section
set_option linter.all false
set_option autoImplicit false
namespace C
open PySem PySem.Spec PyProof.Rows L2
inductive a2q:List Expr→List Str→Prop where
  | nil:a2q [] []
  | cons {x:Str} {k:Nat} {q:Pos} {es:List Expr} {xs:List Str}:a2q es xs→a2q (.Constant (.str x) k q::es) (x::xs)
theorem Zx {X:Cx} {B:Bas}:∀ {es:List Expr} {xs:List Str},a2q es xs→PA X es (aOf X.K B (ji xs))
  | _,_,.nil=>bf
  | _,_,.cons h=>aj iy (Zx h)
theorem len_strs:∀ (xs:List Str) (st:Sta) (ts:List T) (st':Sta),ji xs st=some (ts,st')→ts.length≤xs.length
  | [],st,ts,st',e=>cj st ts st' e
  | _::xs,st,ts,st',e=>ao (len_strs xs) st ts st' e
noncomputable section
variable {X:Cx} {B:Bas} {a b c e o k:Expr} {m m1 m2:M T} {pos p p2:Pos}
theorem a04 (i:Nat) (hm:X.mg "len" = none) {es:Expr} (hg:Gl X "len") (h:PE X es (W3 i)) (he:starEach [es] X.env=(false,eval es X.env)::starEach [] X.env:=by rfl) (hpl:(backTo pos (starEach [] X.env)).any (·.1)=false:=by rfl) :
    PE X (.Call (.Name "len" p) [es] [] pos) (tOf X.K B (Ei i)):=by
  have hc:Dz X (.builtin "len") (fun xs H Q=>∃ q,xs=[.ref q]∧((∃ ys,SqL X.K H q ys∧Q (.int ys.length) H)∨(∃ kvs,Rd H q (.dK kvs)∧Q (.int kvs.length) H))):=by
    intro pins s σ H xs us Q I rs z8
    obtain ⟨q,ex,h⟩:=z8
    rcases h with ⟨ys,h1,h2⟩ | ⟨kvs,h1,h2⟩
    · exact Eh pins s σ H xs us Q I rs ⟨q,ys,ex,.inl h1,h2⟩
    · subst ex
      obtain ⟨u,rfl,ru⟩:=rs.one
      cases ru
      exact a9n I h1 fun t s' I'=>⟨.int kvs.length,H,I',⟨t,rfl⟩,h2⟩
  refine (yt hc hg hm PySem.boot_len (qw h w6 he) (by decide) (by decide) he hpl).imp fun σ H Q z0=>?_
  obtain ⟨st,ps,S,as,R,t,st',e,q⟩:=z0
  obtain ⟨rfl,h⟩:=U5 e
  rcases h with ⟨xs,f,e1,rfl⟩ | ⟨xs,f,e1,rfl⟩
  · obtain ⟨p0,vs,s0,h1,h2⟩:=R.listAt e1
    exact ⟨_,s0,p0,rfl,.inl ⟨vs,h1,by rw [h2.length]; exact q _ H S as (R.push (.int _))⟩⟩
  · obtain ⟨p0,vs,s0,h1,h2⟩:=R.dictAt e1
    exact ⟨_,s0,p0,rfl,.inr ⟨vs,h1,by rw [h2.length]; exact q _ H S as (R.push (.int _))⟩⟩
end
end C
end
noncomputable section
set_option linter.all false
set_option autoImplicit false
namespace C
open PySem
mutual
theorem Dq:∀ (t:T) {d:PyData},dat t=some d→d.canLay0=true
  | .non,_,h=>by simp only [dat] at h; cases h; simp only [PyData.canLay0]
  | .bl b,_,h=>by simp only [dat] at h; cases h; simp only [PyData.canLay0]
  | .int i,_,h=>by simp only [dat] at h; cases h; simp only [PyData.canLay0]
  | .str x,_,h=>by
    simp only [dat] at h
    split at h
    · rename_i hx; cases h; exact hx
    · cases h
  | .tup xs,_,h=>by
    simp only [dat] at h
    obtain ⟨l,e1,e2⟩:=Option.map_eq_some_iff.mp h
    subst e2
    simp only [PyData.canLay0]
    exact Nr xs e1
  | .lst xs,_,h=>by
    simp only [dat] at h
    obtain ⟨l,e1,e2⟩:=Option.map_eq_some_iff.mp h
    subst e2
    simp only [PyData.canLay0]
    exact Nr xs e1
  | .dic _,_,h=>by simp only [dat] at h; cases h
  | .obj _,_,h=>by simp only [dat] at h; cases h
theorem Nr:∀ (ts:List T) {l:List PyData},Ld ts=some l→PyData.canLayAll0 l=true
  | [],_,h=>by simp only [Ld] at h; cases h; simp only [PyData.canLayAll0]
  | x::r,_,h=>by
    simp only [Ld] at h
    split at h
    · rename_i a ea
      obtain ⟨l,e1,e2⟩:=Option.map_eq_some_iff.mp h
      subst e2
      simp only [PyData.canLayAll0]
      rw [Dq x ea,Nr r e1]; rfl
    · cases h
end
theorem a1t {x:T} {r:List T} {l:List PyData} (h:Ld (x::r)=some l):∃ a l',dat x=some a∧Ld r=some l'∧l=a::l':=by
  simp only [Ld] at h
  split at h
  · rename_i a ea
    obtain ⟨l,e1,e2⟩:=Option.map_eq_some_iff.mp h
    exact ⟨a,l,ea,e1,e2.symm⟩
  · cases h
theorem Tc {t u:T} {b:Bool} (h:eqD t u=some b):∃ x y,dat t=some x∧dat u=some y∧x.depth≤40∧b=PyData.eqv x y:=by
  unfold eqD at h
  split at h
  · rename_i x ex
    split at h
    · rename_i y ey
      split at h
      · rename_i hd; cases h; exact ⟨x,y,ex,ey,hd,rfl⟩
      · cases h
    · cases h
  · cases h
theorem a6t {t u:T} {b:Bool} (h:eqT t u=some b):(∃ x y,t=.dic x∧u=.dic y∧((x.length=y.length∧a7s x y=some b)∨(x.length≠y.length∧b=false)))∨eqD t u=some b:=by
  unfold eqT at h
  split at h
  · split at h
    · rename_i hl; exact .inl ⟨_,_,rfl,rfl,.inl ⟨hl,h⟩⟩
    · rename_i hl; cases h; exact .inl ⟨_,_,rfl,rfl,.inr ⟨hl,rfl⟩⟩
  · exact .inr h
end C
end
noncomputable section
set_option linter.all false
set_option maxRecDepth 100000
set_option maxHeartbeats 4000002
set_option autoImplicit false
namespace C
open PySem PySem.Spec PyProof.Rows L2
noncomputable section
variable {X:Cx} {pins:List (Addr × Obj)} {σ:L2.St} {H S:Hp} {s:Shared} {as:List Addr}
theorem a07 (I:L2.Inv X pins σ H s) (sub:Same S H):(∀ {v:V} {t:T},Rep X.K S as v t→∀ {d:PyData} {u:Value},dat t=some d→RelV v u→∃ bs,Reads s.heap u d bs)∧∀ {vs:List V} {ts:List T},vq X.K S as vs ts→∀ {ds:List PyData} {us:List Value},Ld ts=some ds→Vals vs us→∃ bs,ReadsAll s.heap us ds bs:=by
  have tp:∀ {a:Addr} {vs:List V} {ts:List T},SqT X.K S a vs→vq X.K S as vs ts→(∀ {ds:List PyData} {us:List Value},Ld ts=some ds→Vals vs us→∃ bs,ReadsAll s.heap us ds bs)→∀ {d:PyData} {u:Value},dat (.tup ts)=some d→RelV (.ref a) u→∃ bs,Reads s.heap u d bs:=by
    intro a vs ts h _ q d u e r
    simp only [dat] at e
    obtain ⟨l,e1,e2⟩:=Option.map_eq_some_iff.mp e
    subst e2
    cases r
    obtain ⟨its,rv,⟨o,h1,h2,n,h3⟩,_⟩:=I.tuple (ou sub h)
    obtain ⟨bs,rb⟩:=q e1 rv
    exact ⟨_,.tuple h1 h2 h3 rb⟩
  have ls:∀ {a:Addr} {vs:List V} {ts:List T},SqL X.K S a vs→vq X.K S as vs ts→(∀ {ds:List PyData} {us:List Value},Ld ts=some ds→Vals vs us→∃ bs,ReadsAll s.heap us ds bs)→∀ {d:PyData} {u:Value},dat (.lst ts)=some d→RelV (.ref a) u→∃ bs,Reads s.heap u d bs:=by
    intro a vs ts h _ q d u e r
    simp only [dat] at e
    obtain ⟨l,e1,e2⟩:=Option.map_eq_some_iff.mp e
    subst e2
    cases r
    obtain ⟨its,rv,⟨o,n,h1,h2,_,h3⟩,_⟩:=I.list (qm sub h)
    obtain ⟨bs,rb⟩:=q e1 rv
    exact ⟨_,.list h1 h2 h3 rb⟩
  have st:∀ (x:Str) {d:PyData} {u:Value},dat (.str x)=some d→RelV (.str x) u→∃ bs,Reads s.heap u d bs:=by
    intro x d u e r
    simp only [dat] at e
    split at e
    · cases e; obtain ⟨t,rfl⟩:=r; exact ⟨_,.str x t⟩
    · cases e
  have cn:∀ {v:V} {t:T} {vs:List V} {ts:List T},Rep X.K S as v t→vq X.K S as vs ts→(∀ {d:PyData} {u:Value},dat t=some d→RelV v u→∃ bs,Reads s.heap u d bs)→(∀ {ds:List PyData} {us:List Value},Ld ts=some ds→Vals vs us→∃ bs,ReadsAll s.heap us ds bs)→∀ {ds:List PyData} {us:List Value},Ld (t::ts)=some ds→Vals (v::vs) us→∃ bs,ReadsAll s.heap us ds bs:=by
    intro v t vs ts _ _ h q ds us e r
    obtain ⟨a,l,e1,e2,e3⟩:=a1t e
    subst e3
    cases r with
    | cons r1 r2 =>
      obtain ⟨b1,x1⟩:=h e1 r1
      obtain ⟨b2,x2⟩:=q e2 r2
      exact ⟨_,.cons x1 x2⟩
  have nl:∀ {ds:List PyData} {us:List Value},Ld []=some ds→Vals [] us→∃ bs,ReadsAll s.heap us ds bs:=by
    intro ds us e r; simp only [Ld] at e; cases e; cases r; exact ⟨_,.nil⟩
  have no:∀ {d:PyData} {u:Value},dat .non=some d→RelV .non u→∃ bs,Reads s.heap u d bs:=by
    intro d u e r; simp only [dat] at e; cases e; cases r; exact ⟨_,.none⟩
  have bo:∀ (b:Bool) {d:PyData} {u:Value},dat (.bl b)=some d→RelV (.bl b) u→∃ bs,Reads s.heap u d bs:=by
    intro b d u e r; simp only [dat] at e; cases e; cases r; exact ⟨_,.bool b⟩
  have it:∀ (i:Int) {d:PyData} {u:Value},dat (.int i)=some d→RelV (.int i) u→∃ bs,Reads s.heap u d bs:=by
    intro i d u e r; simp only [dat] at e; cases e; obtain ⟨t,rfl⟩:=r; exact ⟨_,.int i t⟩
  have di:∀ {a:Addr} {ts:List (L2.Key × T)} {d:PyData} {u:Value},dat (.dic ts)=some d→RelV (.ref a) u→∃ bs,Reads s.heap u d bs:=by
    intro a ts d u e; simp only [dat] at e; cases e
  have ob:∀ {a:Addr} {n:Nat} {d:PyData} {u:Value},dat (.obj n)=some d→RelV (.ref a) u→∃ bs,Reads s.heap u d bs:=by
    intro a n d u e; simp only [dat] at e; cases e
  exact ⟨fun h=>Rep.rec (motive_1:=fun v t _=>∀ {d:PyData} {u:Value},dat t=some d→RelV v u→∃ bs,Reads s.heap u d bs) (motive_2:=fun vs ts _=>∀ {ds:List PyData} {us:List Value},Ld ts=some ds→Vals vs us→∃ bs,ReadsAll s.heap us ds bs) (motive_3:=fun _ _ _=>True) no bo it st tp ls (fun _ _ _=>di) (fun _=>ob) nl cn trivial (fun _ _ _ _=>trivial) h,
    fun h=>vq.rec (motive_1:=fun v t _=>∀ {d:PyData} {u:Value},dat t=some d→RelV v u→∃ bs,Reads s.heap u d bs) (motive_2:=fun vs ts _=>∀ {ds:List PyData} {us:List Value},Ld ts=some ds→Vals vs us→∃ bs,ReadsAll s.heap us ds bs) (motive_3:=fun _ _ _=>True) no bo it st tp ls (fun _ _ _=>di) (fun _=>ob) nl cn trivial (fun _ _ _ _=>trivial) h⟩
theorem Rep.reads (I:L2.Inv X pins σ H s) (sub:Same S H) {v:V} {t:T} (h:Rep X.K S as v t) {d:PyData} {u:Value} (e:dat t=some d) (r:RelV v u):∃ bs,Reads s.heap u d bs:=(a07 I sub).1 h e r
theorem a4x (I:L2.Inv X pins σ H s) (sub:Same S H) {x y:V} {t u:T} {v w:Value} {b:Bool} {A:Around} (hx:Rep X.K S as x t) (hy:Rep X.K S as y u) (rx:RelV x v) (ry:RelV y w) (e:eqD t u=some b) (hu:A.units+40<cLine):SeqAt.EqAt A s v w b:=by
  obtain ⟨dx,dy,e1,e2,hd,rfl⟩:=Tc e
  obtain ⟨b1,x1⟩:=hx.reads I sub e1 rx
  obtain ⟨b2,x2⟩:=hy.reads I sub e2 ry
  exact SeqAt.eqAt_reads dx dy A s v w b1 b2 x1 x2 (Dq _ e1) (Dq _ e2) (by have:=Nat.min_le_left dx.depth dy.depth; omega)
theorem a0r (I:L2.Inv X pins σ H s) (sub:Same S H) {A:Around} (hu:A.units+40<cLine) {kb:List (L2.Key × V)} {ub:List (L2.Key × T)} {wb:List (L2.Key × Value)} (rb:Dy X.K S as kb ub) (vb:KV kb wb) :
    ∀ {ka:List (L2.Key × V)} {ua:List (L2.Key × T)} {wa:List (L2.Key × Value)} {r:Bool},Dy X.K S as ka ua→KV ka wa→a7s ua ub=some r→PySem.W.KeqHits A s wb wa r
  | _,[],_,_,h0,va,e=>by
    cases h0
    simp only [a7s] at e; cases e
    cases va
    exact .nil
  | _,(k,_)::_,_,_,h0,va,e=>by
    cases h0 with | cons h q=>?_
    simp only [a7s] at e
    cases va with
    | @cons _ p2 _ _ hp hr =>
      obtain ⟨pk,pv⟩:=p2
      obtain ⟨ek,rv⟩:=hp
      dsimp only at ek rv
      subst ek
      rcases rb.get k with ⟨z,t',a1,a2,a3⟩ | ⟨a1,a2⟩
      · rw [a2] at e
        dsimp only at e
        have rel:=KV.val vb k
        rw [a1] at rel
        obtain ⟨w',hw,rw'⟩:=Px.some_of rel
        split at e
        · rename_i eb he
          obtain ⟨b',e1,e2⟩:=Option.map_eq_some_iff.mp e
          subst e2
          exact .hit hw (a4x I sub h a3 rv rw' he hu) (a0r I sub hu rb vb q hr e1)
        · cases e
      · rw [a2] at e
        cases e
        have rel:=KV.val vb k
        rw [a1] at rel
        exact .miss (Px.none_of rel)
end
noncomputable section
variable {X:Cx}
theorem Qq {op:CmpOp} {neg:Bool} (hop:(op=.Eq∧neg=false)∨(op=.NotEq∧neg=true)) {g:T→T→Option T} (hg:∀ t u w,g t u=some w→∃ b,eqT t u=some b∧w=.bl (xor neg b)) (hu:X.A.units+64<cLine):OpT X (compareOp op) g:=by
  intro pins s σ H x y v u Q I rx ry z8
  obtain ⟨S,as,t,t2,w,sub,ht,hu2,hf,q⟩:=z8
  obtain ⟨b,e,rfl⟩:=hg _ _ _ hf
  have fin:EP X pins σ Q (.bool (xor neg b)) s:=⟨.bl (xor neg b),H,I,rfl,q _ H S (Ext.refl sub) (.bl _)⟩
  rcases a6t e with ⟨xs,ys,rfl,rfl,hd⟩ | he
  · cases ht with
    | @dic a kvs _ g1 g2 =>
      cases hu2 with
      | @dic a' kvs' _ k1 k2 =>
        cases rx
        cases ry
        obtain ⟨z,hs,vs,rel,dd⟩:=Im I.hok (xq sub g1)
        obtain ⟨z',hs',vs',rel',dd'⟩:=Im I.hok (xq sub k1)
        have l1:vs.length=xs.length:=by rw [← rel.length]; exact g2.length
        have l2:vs'.length=ys.length:=by rw [← rel'.length]; exact k2.length
        have hu1:X.A.in1.units+40<cLine:=by show X.A.units+1+40<cLine; omega
        rcases hd with ⟨hl,eb⟩ | ⟨hl,rfl⟩
        · have hits:vs.length=vs'.length→PySem.W.KeqHits X.A.in1 s vs' vs b:=fun _=>a0r I sub hu1 k2 rel' g2 rel eb
          have el:(vs.length==vs'.length)=true:=by rw [l1,l2,hl]; exact beq_self_eq_true _
          rcases hop with ⟨rfl,rfl⟩ | ⟨rfl,rfl⟩
          · refine PySem.W.keq_eq hs hs' dd dd' (by omega) hits ?_
            rw [el]; simpa using fin
          · refine PySem.W.keq_ne hs hs' dd dd' (by omega) hits ?_
            rw [el]; simpa using fin
        · have hits:vs.length=vs'.length→PySem.W.KeqHits X.A.in1 s vs' vs true:=fun h=>absurd (by rw [← l1,← l2]; exact h) hl
          have el:(vs.length==vs'.length)=false:=by rw [l1,l2]; exact beq_eq_false_iff_ne.mpr hl
          rcases hop with ⟨rfl,rfl⟩ | ⟨rfl,rfl⟩
          · refine PySem.W.keq_eq hs hs' dd dd' (by omega) hits ?_
            rw [el]; simpa using fin
          · refine PySem.W.keq_ne hs hs' dd dd' (by omega) hits ?_
            rw [el]; simpa using fin
  · obtain ⟨dx,dy,e1,e2,hd,rfl⟩:=Tc he
    obtain ⟨b1,x1⟩:=ht.reads I sub e1 rx
    obtain ⟨b2,x2⟩:=hu2.reads I sub e2 ry
    have hm:X.A.units+min dx.depth dy.depth<cLine:=by have:=Nat.min_le_left dx.depth dy.depth; omega
    rcases hop with ⟨rfl,rfl⟩ | ⟨rfl,rfl⟩
    · exact SeqAt.compareEq_reads x1 x2 (Dq _ e1) (Dq _ e2) hm (by simpa using fin)
    · exact SeqAt.compareNe_reads x1 x2 (Dq _ e1) (Dq _ e2) hm (by simpa using fin)
theorem ug (hu:X.A.units+64<cLine):OpT X (compareOp .Eq) eqO:=Qq (.inl ⟨rfl,rfl⟩) (fun t u w h=>by
  unfold eqO at h
  split at h
  · rename_i b e; cases h; exact ⟨b,e,by simp⟩
  · cases h) hu
theorem Ji (hu:X.A.units+64<cLine):OpT X (compareOp .NotEq) neO:=Qq (.inr ⟨rfl,rfl⟩) (fun t u w h=>by
  unfold neO at h
  split at h
  · rename_i b e; cases h; exact ⟨b,e,by simp⟩
  · cases h) hu
open Classical in
noncomputable def a5q (h:Heap) (dx:PyData) (y:Value):Bool:=if e:∃ d bs,Reads h y d bs∧d.canLay0=true then PyData.eqv (Classical.choose e) dx else false
theorem a5w {h:Heap} {dx d:PyData} {y:Value} {bs:List Addr} (r:Reads h y d bs) (l:d.canLay0=true):a5q h dx y=PyData.eqv d dx:=by
  have e:∃ d bs,Reads h y d bs∧d.canLay0=true:=⟨d,bs,r,l⟩
  unfold a5q
  rw [dif_pos e]
  obtain ⟨bs',r',l'⟩:=Classical.choose_spec e
  rw [SeqAt.Reads.unique _ _ _ _ _ l' r' r]
theorem Z9 {pins:List (Addr × Obj)} {σ:L2.St} {H S:Hp} {s:Shared} {as:List Addr} {A:Around} (I:L2.Inv X pins σ H s) (sub:Same S H) (hu:A.units+40<cLine) {x:V} {t:T} {v:Value} {dx:PyData} (hx:Rep X.K S as x t) (rx:RelV x v) (ex:dat t=some dx) :
    ∀ {vs:List V} {ts:List T} {us:List Value} {b:Bool},vq X.K S as vs ts→Vals vs us→inL t ts=some b→(∀ y∈us,SeqAt.EqAt A s y v (a5q s.heap dx y))∧us.any (a5q s.heap dx)=b
  | _,[],_,_,h0,r,e=>by cases h0; simp only [inL] at e; cases e; cases r; exact ⟨fun y h=>(nomatch h),rfl⟩
  | _,_::_,_,_,h0,r,e=>by
    cases h0 with | cons h q=>?_
    simp only [inL] at e
    cases r with
    | @cons _ u1 _ us1 r1 r2 =>
      split at e
      · rename_i eb he
        obtain ⟨b',e1,e2⟩:=Option.map_eq_some_iff.mp e
        subst e2
        obtain ⟨i1,i2⟩:=Z9 I sub hu hx rx ex q r2 e1
        obtain ⟨dy,dx',f1,f2,hd,rfl⟩:=Tc he
        rw [ex] at f2; cases f2
        obtain ⟨b1,x1⟩:=h.reads I sub f1 r1
        have hb:=a5w (dx:=dx) x1 (Dq _ f1)
        refine ⟨fun y hy=>?_,by rw [List.any_cons,i2,hb]⟩
        rcases List.mem_cons.mp hy with rfl | hy -- here
        · rw [hb]; exact a4x I sub h hx r1 rx he hu
        · exact i1 y hy
      · cases e
theorem Z7 {t u w:T} (h:inT t u=some w):(∃ ys b,(u=.tup ys∨u=.lst ys)∧inL t ys=some b∧(dat t).isSome=true∧w=.bl b)∨(∃ kvs q,u=.dic kvs∧keyOf t=some q∧w=.bl (Lf q kvs).isSome):=by
  unfold inT at h
  split at h
  · obtain ⟨q,e1,e2⟩:=Option.map_eq_some_iff.mp h
    exact .inr ⟨_,q,rfl,e1,e2.symm⟩
  · split at h
    · rename_i hd
      split at h
      · obtain ⟨b,e1,e2⟩:=Option.map_eq_some_iff.mp h; exact .inl ⟨_,b,.inl rfl,e1,hd,e2.symm⟩
      · obtain ⟨b,e1,e2⟩:=Option.map_eq_some_iff.mp h; exact .inl ⟨_,b,.inr rfl,e1,hd,e2.symm⟩
      · cases h
    · cases h
theorem Yt {op:CmpOp} {neg:Bool} (hop:(op=.In∧neg=false)∨(op=.NotIn∧neg=true)) {g:T→T→Option T} (hg:∀ t u w,g t u=some w→∃ w',inT t u=some w'∧∃ b,w'=.bl b∧w=.bl (xor neg b)) (hu:X.A.units+64<cLine):OpT X (compareOp op) g:=by
  intro pins s σ H x y v u Q I rx ry z8
  obtain ⟨S,as,t,t2,w,sub,ht,hu2,hf,q⟩:=z8
  obtain ⟨w',ei,b0,rfl,rfl⟩:=hg _ _ _ hf
  rcases Z7 ei with ⟨ys,b,hy,e,hdt,eb⟩ | ⟨kvs,qk,rfl,ek,eb⟩
  · cases eb
    obtain ⟨dx,ex⟩:=Option.isSome_iff_exists.mp hdt
    have fin:EP X pins σ Q (.bool (xor neg b0)) s:=⟨.bl (xor neg b0),H,I,rfl,q _ H S (Ext.refl sub) (.bl _)⟩
    have hu1:X.A.in1.units+40<cLine:=by show X.A.units+1+40<cLine; omega
    rcases hy with rfl | rfl
    · cases hu2 with
      | @tup a vs _ g1 g2 =>
        cases ry
        obtain ⟨its,r,p,hz⟩:=I.tuple (ou sub g1)
        obtain ⟨i1,i2⟩:=Z9 I sub hu1 ht rx ex g2 r e
        have he:∀ y,y∈its.toArray→SeqAt.EqAt X.A.in1 s y v (a5q s.heap dx y):=fun y hy=>i1 y (by simpa using hy)
        have ha:its.toArray.any (a5q s.heap dx)=b0:=by rw [← i2]; simp
        rcases hop with ⟨rfl,rfl⟩ | ⟨rfl,rfl⟩
        · exact SeqAt.in_tupleAt _ (show s.heap.IsTuple a its.toArray from p) he (by rw [ha]; simpa using fin)
        · exact SeqAt.notIn_tupleAt _ (show s.heap.IsTuple a its.toArray from p) he (by rw [ha]; simpa using fin)
    · cases hu2 with
      | @lst a vs _ g1 g2 =>
        cases ry
        obtain ⟨its,r,p,hz⟩:=I.list (qm sub g1)
        obtain ⟨i1,i2⟩:=Z9 I sub hu1 ht rx ex g2 r e
        have he:∀ y,y∈its.toArray→SeqAt.EqAt X.A.in1 s y v (a5q s.heap dx y):=fun y hy=>i1 y (by simpa using hy)
        have ha:its.toArray.any (a5q s.heap dx)=b0:=by rw [← i2]; simp
        rcases hop with ⟨rfl,rfl⟩ | ⟨rfl,rfl⟩
        · exact SeqAt.in_listAt _ p.isList he (by rw [ha]; simpa using fin)
        · exact SeqAt.notIn_listAt _ p.isList he (by rw [ha]; simpa using fin)
  · cases eb
    cases hu2 with
    | @dic a kv _ g1 g2 =>
      cases ry
      have ey:=T9 ht ek
      subst ey
      have hs:(Lf qk kvs).isSome=(Ls kv qk).isSome:=by
        rcases g2.get qk with ⟨z,t',a1,a2,_⟩ | ⟨a1,a2⟩
        · simp [a1,a2]
        · simp [a1,a2]
      rw [hs] at q
      have gd:Xy H a (kV qk) (Ls kv qk):=.inl ⟨kv,qk,xq sub g1,rfl,rfl⟩
      rcases hop with ⟨rfl,rfl⟩ | ⟨rfl,rfl⟩
      · exact adh (by omega) I gd rx fun s' I'=>⟨.bl _,H,I',rfl,by simpa using q _ H S (Ext.refl sub) (.bl _)⟩
      · exact a6z (by omega) I gd rx fun s' I'=>⟨.bl _,H,I',rfl,by simpa using q _ H S (Ext.refl sub) (.bl _)⟩
theorem a4m (hu:X.A.units+64<cLine):OpT X (compareOp .In) inT:=Yt (.inl ⟨rfl,rfl⟩) (fun t u w h=>by
  rcases Z7 h with ⟨ys,b,h1,h2,h3,rfl⟩ | ⟨kvs,q,rfl,h2,rfl⟩
  · exact ⟨_,h,b,rfl,by simp⟩
  · exact ⟨_,h,_,rfl,by simp⟩) hu
end
end C
end
noncomputable section
set_option linter.all false
set_option maxRecDepth 100000
set_option maxHeartbeats 4000002
set_option autoImplicit false
namespace C
open PySem PySem.Spec PyProof.Rows L2
noncomputable def a6w (K:PySem.W.Frag) (ar:Nat) (F:Fn):Sp:=fun vs H Q _=>∃ S as sto ts t sto',Same S H∧J5 K S as H sto∧vq K S as vs ts∧ts.length=ar∧F ts sto=some (t,sto') ∧
  ∀ p H' S' as',aa8 ⟨S,as,H⟩ S' as' H'→Same S' H'→J5 K S' as' H' sto'→O6 K ⟨S,as,H⟩ S' as' H' p t→Q (.ref p) H'
inductive a4i (K:PySem.W.Frag) (B:Bas) (s:S) (D:Ends) (σ:L2.St) (H:Hp):Prop
  | mk (st:Sta) (ps:List (V × T)) (S0:Hp) (as:List Addr) (R:Rel K B st σ H ps S0 as) (t:T) (st':Sta) (e:s st=some (.ret t,st')) (q:∀ p σ' H' S' as',Rel K B st' σ' H' ps S' as'→O6 K B S' as' H' p t→D.rt (.ref p) H')
theorem a6r {u v:S} {s s':Sta} {t:T} (h:jc (sNx u) v s=some (.ret t,s')):∃ s1,u s=some (.next,s1)∧v s1=some (.ret t,s'):=by
  unfold jc sNx at h
  cases e:u s with
  | none=>rw [e] at h; cases h
  | some p =>
    obtain ⟨fl,s1⟩:=p
    rw [e] at h
    cases fl <;> first | exact ⟨s1,rfl,h⟩ | cases h
theorem U4 {i:Nat} {s s':Sta} {t:T} (h:g8 i s=some (.ret t,s')):s.env[i]? = some (some (t,true))∧s'=s:=by
  unfold g8 at h
  split at h
  · rename_i t' e; cases h; exact ⟨e,rfl⟩
  · cases h
theorem a7e {g:G} {m:M T} {s s':Sta} {fl:Flow} (h:sGo g m s=some (fl,s')):∃ t s1,m s=some (t,s1)∧g t s1=some s'∧fl=.next:=by
  unfold sGo at h
  split at h
  · rename_i t s1 e
    split at h
    · rename_i s2 e2; cases h; exact ⟨t,s1,e,e2,rfl⟩
    · cases h
  · cases h
theorem Qz {i:Nat} {s s':Sta} {fl:Flow} (h:dw i s=some (fl,s')):∃ xs,s.env[i]? = some (some (.lst xs,true))∧fl=.next∧s'=dh i (.lst xs.reverse) true s:=by
  unfold dw at h
  split at h
  · rename_i xs e; cases h; exact ⟨xs,e,rfl,rfl⟩
  · cases h
noncomputable def Q7 (v:S):Prop:=∀ s s',v s≠some (.next,s')
theorem Jz (m:M T):Q7 (jr m):=fun s s' h=>by
  unfold jr at h
  split at h <;> cases h
theorem Oe (i:Nat):Q7 (g8 i):=fun s s' h=>by
  unfold g8 at h
  split at h <;> cases h
theorem yh {u v:S} (h:Q7 v):Q7 (jc u v):=fun s s' e=>by
  unfold jc at e
  split at e
  · exact h _ _ e
  · rename_i hn; exact hn _ e
noncomputable section
variable {X:Cx} {B:Bas} {a b c e:Expr} {m m1 m2:M T} {pos p:Pos} {u v:S} {es:List Expr} {ms:M (List T)} {k n:Nat} {f:Addr} {fd:FuncData} {pn:List Str} {F:Fn} {x:Str}
theorem yg {st:Stmt} {rest:List Stmt} (h1:PS X st (sOf X.K B u)) (h2:PSs X rest (a4i X.K B v)):PSs X (st::rest) (a4i X.K B (jc (sNx u) v)):=(Np h1 h2).imp fun D σ H z9=>by
  obtain ⟨st,ps,S,as,R,t,st',e,q⟩:=z9
  obtain ⟨s1,e1,e2⟩:=a6r e
  exact ⟨st,ps,S,as,R,.next,s1,e1,fun σ' H' S' as' R'=>⟨s1,ps,S',as',R',t,st',e2,q⟩⟩
theorem Tf (i:Nat) (he:PE X e (W3 i)):PSs X [.Return (some e) pos] (a4i X.K B (g8 i)):=(Tp (Yr he)).imp fun D σ H z9=>by
  obtain ⟨st,ps,S,as,R,t,st',e,q⟩:=z9
  obtain ⟨e1,rfl⟩:=U4 e
  obtain ⟨v,h1,_,h3⟩:=R.slots i t true e1
  obtain ⟨p,rfl,o⟩:=h3 rfl
  exact ⟨_,h1,q p σ H S as R o⟩
theorem Ov (he:PE X e (fOf X.K B m)):PSs X [.Return (some e) pos] (a4i X.K B (jr m)):=(Tp (Yr he)).imp fun D σ H z9=>by
  obtain ⟨st,ps,S,as,R,t,st',e,q⟩:=z9
  obtain ⟨t',e1,ef⟩:=V7 e
  cases ef
  exact ⟨st,ps,S,as,R,t,st',e1,fun p H' S' as' R' o _=>q p σ H' S' as' R' o⟩
theorem a72 {g:G} {s:Stmt} (h:PS X s (a7l (tOf X.K B m) (gOf X.K B g))):PS X s (sOf X.K B (sGo g m)):=h.imp fun D σ H z9=>by
  obtain ⟨st,ps,S,as,R,fl,st',e,q⟩:=z9
  obtain ⟨t,s1,e1,e2,rfl⟩:=a7e e
  exact ⟨st,ps,S,as,R,t,s1,e1,fun v H' S' as' R'=>⟨s1,ps,S',as',t,R',st',e2,fun σ' H'' S'' as'' R''=>q σ' H'' S'' as'' R''⟩⟩
theorem Wt (i:Nat) {st:Stmt} (h:PS X st (a3k (ace X.K "list" Wi (W3 i)))):PS X st (sOf X.K B (dw i)):=h.imp fun D σ H z9=>by
  obtain ⟨st,ps,S,as,R,fl,st',e,q⟩:=z9
  obtain ⟨xs,e2,rfl,rfl⟩:=Qz e
  obtain ⟨w,h1,_,h3⟩:=R.slots i _ true e2
  obtain ⟨p0,rfl,ow⟩:=h3 rfl
  obtain ⟨vs,hH,h4⟩:=ow.own
  exact ⟨_,h1,.inl ⟨rfl,_,SqL.of hH⟩,p0,vs,rfl,rfl,hH,q _ _ S as (R.turn e2 h1 ⟨_,jj,h4.reverse⟩)⟩
end
noncomputable def Bg (P:Program) (w:World) (K:PySem.W.Frag) (mg:Str→Option Value) (base:Heap) (x:Str) (k:Nat) (ps:List Str) (F:Fn):Prop :=
  ∃ f fd,zy P w K mg base CX0 k f fd ps (a6w K ps.length F)∧Binds K fd ps []∧PySem.W.keepIn K (.ref f)=true∧mg x=some (.ref f)
theorem Bg.mono {P:Program} {w:World} {K:PySem.W.Frag} {mg:Str→Option Value} {base:Heap} {x:Str} {j k:Nat} {ps:List Str} {F:Fn} (d:Bg P w K mg base x j ps F) (h:j≤k):Bg P w K mg base x k ps F:=by
  obtain ⟨f,fd,h1,h2⟩:=d
  exact ⟨f,fd,h1.mono h,h2⟩
noncomputable section
variable {X:Cx} {B:Bas} {a b c e:Expr} {m m1 m2:M T} {pos p:Pos} {es:List Expr} {ms:M (List T)} {n:Nat} {pn:List Str} {F:Fn} {x:Str}
theorem Fg (D:Bg X.prog X.w X.K X.mg X.base x n pn F) (hr:K3 n X.A) (hg:Gl X x)
    (ha:PA X (e::es) (aOf X.K B ms)) (hl:∀ st ts st',ms st=some (ts,st')→ts.length=pn.length) (hdb:(x==("__debug__" : Str))=false:=by decide)
    (he:starEach (e::es) X.env=(false,eval e X.env)::starEach es X.env:=by rfl) (hpl:(backTo pos (starEach es X.env)).any (·.1)=false:=by rfl) :
    PE X (.Call (.Name x p) (e::es) [] pos) (fOf X.K B (dj F ms)):=by
  obtain ⟨f,fd,G,hb,hk,hm⟩:=D
  refine (Yz G hr hg hm hk hb .nil a90 ha hdb he hpl).imp fun σ H Q z0=>?_
  obtain ⟨st,ps,S,as,R,t,st',e,q⟩:=z0
  obtain ⟨ts,s1,sto,e1,e2,rfl⟩:=Rq e
  refine ⟨st,ps,S,as,R,ts,s1,e1,fun vs H1 S1 as1 R1 rs=>?_⟩
  show a6w X.K pn.length F (vs++[]) H1 Q E0
  rw [List.append_nil]
  exact ⟨S1,as1,s1.sto,ts,t,sto,R1.sub,R1.sto,rs,hl _ _ _ e1,e2,fun p H2 S2 as2 g sub so o=>by
    obtain ⟨b1,b2,b3,b4⟩:=R1.fresh o.new
    exact q p H2 S2 as2 (R1.call g sub so) ⟨o.own,o.out,o.nas,b1⟩ b4⟩
end
noncomputable section
variable {P:Program} {w:World} {K:PySem.W.Frag} {mg:Str→Option Value} {base:Heap}
theorem Ja {x qual:Str} {st:Stmt} {f:Addr} {fd:FuncData} {N ps:List Str} {k:Nat} {b:S} (F:Fun K x qual st f fd) (Sc:jx N ps (j7 st)) (hN:ps.length≤N.length) (he:Q7 b)
    (hb:∀ (cdv:Value) (A:Around) (outer:List Env) (s:Shared) (H:Hp) (E:XK) (B:Bas),K3 k (A.deeper (envOfC qual (j7 st) s.heap.objs.size f cdv)) →
      PSs (a4t CX0 P w K mg base N qual (j7 st) f cdv A outer s H E).nox (Bq st) (a4i K B b)):zy P w K mg base CX0 (k+1) f fd ps (a6w K ps.length (iw N.length b)):=by
  refine F.ok Sc (fun vs H Q E h=>?_) fun cdv A outer s H vs Q E hr h=>?_
  · obtain ⟨S,as,sto,ts,t,sto',h1,h2,h3,h4,_⟩:=h
    rw [h3.length,h4]
  · obtain ⟨S,as,sto,ts,t,sto',h1,h2,h3,h4,h5,q⟩:=h
    refine ⟨_,hb cdv A outer s H E ⟨S,as,H⟩ hr,?_⟩
    have lv:vs.length=ps.length:=by rw [h3.length,h4]
    have R:Rel K ⟨S,as,H⟩ ⟨ts.map (fun t=>some (t,false))++List.replicate (N.length - ts.length) none,sto⟩ (L2.start N vs) H [] S as:=Rt h1 h2 h3 (by rw [h4]; exact hN)
    unfold iw at h5
    split at h5
    · rename_i t' s' e
      cases h5
      exact ⟨_,[],S,as,R,t,s',e,fun p σ' H' S' as' R' o=>q p H' S' as' R'.grow R'.sub R'.sto o⟩
    · rename_i s' e
      exact absurd e (he _ _)
    · cases h5
end
end C
end
noncomputable section
set_option linter.all false
set_option maxRecDepth 100000
set_option maxHeartbeats 4000002
set_option autoImplicit false
namespace C
open PySem PySem.Spec PyProof.Rows L2
noncomputable section
variable {X:Cx} {B:Bas} {a b c e:Expr} {m m1 m2:M T} {pos p p2 pos2:Pos}
theorem Yd:V0 X (.builtin "abs") sy:=by
  intro pins s σ H xs us Q I rs z8
  obtain ⟨S,as,ts,w,sub,hr,hf,q⟩:=z8
  cases hr with
  | nil=>simp only [sy,reduceCtorEq] at hf
  | @cons x t xs' ts' h1 h2 =>
    cases h2 with
    | cons h3 h4=>cases h1 <;> simp only [sy,reduceCtorEq] at hf
    | nil =>
      cases h1 <;> simp only [sy,reduceCtorEq] at hf
      cases hf
      exact a2m pins s σ H _ us Q I rs ⟨_,rfl,q _ H S (Ext.refl sub) (.int _)⟩
theorem Ext.junk {S H:Hp} (h:Same S H) {p:Addr} (n:H p=none) (o:HO):Ext S H S (upd H p o) :=
  ⟨Same.refl _,Same.upd n o,fun b u q=>(Same.upd n o) _ _ (h _ _ q),fun _ q=>.inl q⟩
noncomputable def ada (ta:TA):TE:=fun σ H Q=>ta σ H fun vs H1=>∃ j:Int,vs=[.int j]∧∀ r,H1 r=none→Q (.ref r) (upd H1 r (.rng 0 j))
theorem a9v {ta:TA} (hg:Gl X "range") (hm:X.mg "range" = none) (ha:PA X [a] ta) (hs:starEach [a] X.env=[(false,eval a X.env)]:=by rfl):PE X (.Call (.Name "range" p) [a] [] pos) (ada ta):=by
  intro pins s σ H Q I h
  refine Call_ (N8 I hg hm boot_range (PyProof.Rows.callWith_type1 (thn (ha pos pins s σ H _ I h) fun us s1 z0=>?_) hs rfl))
  obtain ⟨vs,H1,I1,r1,q1⟩:=z0
  obtain ⟨j,e,q⟩:=q1
  subst e
  cases r1 with
  | cons r rr =>
    cases rr
    obtain ⟨t,rfl⟩:=r
    refine call_range_1 ⟨.ref s1.heap.objs.size,upd H1 s1.heap.objs.size (.rng 0 j),I1.laid (fun b u e=>Heap.get?_push_of_some _ e) (Nat.le_refl _) ⟨_,_,_,Heap.get?_push_size _ rfl⟩,rfl,q _ (I1.hok.fresh (Nat.le_refl _))⟩
noncomputable def rLR (xs:List V) (H:Hp) (Q:VK):Prop:=∃ r j,xs=[.ref r]∧H r=some (.rng 0 j)∧(-1000000<j∧j<1000000)∧∀ l,H l=none→Q (.ref l) (upd H l (.lst ((List.range j.toNat).map fun (k:Nat)=>V.int (k:Int))))
theorem Ww (hc:X.calm=true):Dz X (.type "list") rLR:=by
  intro pins s σ H xs us Q I rs z8
  obtain ⟨r,j,ex,hr,hj,q⟩:=z8
  subst ex
  obtain ⟨u,rfl,ru⟩:=rs.one
  cases ru
  obtain ⟨t,u,v,er⟩:∃ t u v,s.heap.get? r=some { cls:=.type "range",data:=.fields #[.int 0 t,.int j u,.int 1 v] }:=(Rd.ok (.inl hr) I.hok)
  have hn:Builtin.Range.rangeSize 0 j 1=(j.toNat:Int):=by rw [rangeSize_one]; split <;> omega
  refine call_list_range (n:=j.toNat) (I.ok.hd hc) er (small_one (by omega) (by omega) (by omega) (by omega)) hn (by omega) fun h' tk acc c' hk hS hacc=>?_
  have hl:((List.range j.toNat).map fun (k:Nat)=>V.int (k:Int)).length≤sizeLine:=by
    rw [List.length_map,List.length_range,sizeLine_eq]; omega
  have hv:Vals ((List.range j.toNat).map fun (k:Nat)=>V.int (k:Int)) acc.toList:=by
    obtain ⟨n1,n2⟩:=hacc
    have gen:∀ (us:List Value) (k:Nat),(∀ (i:Nat) (v:Value),us[i]? = some v→∃ t,v=Value.int ((k+i:Nat):Int) t)→Vals ((List.range' k us.length).map fun (k:Nat)=>V.int (k:Int)) us:=by
      intro us
      induction us with
      | nil=>intro k _; exact .nil
      | cons x us ih =>
        intro k h
        rw [List.length_cons,List.range'_succ,List.map_cons]
        refine .cons ?_ (ih (k+1) fun i v e=>?_)
        · exact h 0 x rfl
        · have:=h (i+1) v (by simpa using e)
          rw [show k+1+i=k+(i+1) by omega]; exact this
    have:=gen acc.toList 0 (fun i v e=>by
      obtain ⟨t,e'⟩:=n2 i v (by rw [← Array.getElem?_toList]; exact e)
      exact ⟨t,by rw [e']; congr 1; omega⟩)
    rw [Array.length_toList,n1,← List.range_eq_range'] at this
    exact this
  exact ⟨.ref s.heap.objs.size,_,I.laid (a:=s.heap.objs.size) (o:=.lst ((List.range j.toNat).map fun (k:Nat)=>V.int (k:Int))) (h':=h') (t':=tk) hk (Nat.le_refl _) ⟨hl,acc.toList,c',hv,hS⟩,rfl,q _ (I.hok.fresh (Nat.le_refl _))⟩
theorem Ry {K:PySem.W.Frag} {S:Hp} {as:List Addr}:∀ l:List Nat,vq K S as (l.map fun (k:Nat)=>V.int (k:Int)) (l.map fun (k:Nat)=>T.int (k:Int))
  | []=>.nil
  | x::l=>.cons (.int x) (Ry l)
theorem a1l (hc:X.calm=true) (hg:Gl X "list") (hm:X.mg "list" = none) (hg2:Gl X "range") (hm2:X.mg "range" = none) (ha:PE X a (tOf X.K B m)) (hs:starEach [a] X.env=[(false,eval a X.env)]:=by rfl)
    (he:starEach [.Call (.Name "range" p2) [a] [] pos2] X.env=(false,eval (.Call (.Name "range" p2) [a] [] pos2) X.env)::starEach [] X.env:=by rfl) (hpl:(backTo pos (starEach [] X.env)).any (·.1)=false:=by rfl) :
    PE X (.Call (.Name "list" p) [.Call (.Name "range" p2) [a] [] pos2] [] pos) (tOf X.K B (gb Js (ak m d9))):=by
  refine (qt (Ww hc) hg hm PyProof.Rows.boot_list (qw (a9v hg2 hm2 (qw ha w6 hs) hs) w6 he) (by decide) (by decide) he hpl).imp fun σ H Q z0=>?_
  obtain ⟨st,ps,S,as,R,t,st',e,q⟩:=z0
  obtain ⟨ts,e1,e2⟩:=Df e
  obtain ⟨t1,s1,us,ea,en,rfl⟩:=Ak e1
  cases en
  cases t1 <;> simp only [Js,reduceCtorEq] at e2
  rename_i n
  split at e2
  · rename_i hn'
    have hn:-1000000<n∧n<1000000:=by have:n.natAbs<1000000:=hn'; omega
    cases e2
    refine ⟨st,ps,S,as,R,_,_,ea,fun v H1 S1 as1 R1=>?_⟩
    cases R1.top
    refine ⟨n,rfl,fun r hr=>⟨r,n,rfl,jj,hn,fun l hl=>?_⟩⟩
    have x1:=Ext.junk R1.sub hr (.rng 0 n)
    have x2:=Ext.laid x1.sub hl (.lst ((List.range n.toNat).map fun (k:Nat)=>V.int (k:Int)))
    exact q _ _ _ _ (((R1.drop.ext x1).ext x2).push (.lst (SqL.of jj) (Ry _)))
  · cases e2
noncomputable def Y6:List Nat→TGs
  | []=>ac6
  | i::is=>a8x (Qf i) (Y6 is)
theorem Wc {K:PySem.W.Frag} {H S:Hp} {as:List Addr} {ps:List (V × T)}:∀ (is:List Nat) {vs:List V} {xs:List T} {st:Sta} {σ:L2.St} {Q:L2.St→Hp→Prop},Rel K B st σ H ps S as→vq K S as vs xs→xs.length=is.length →
    (∀ σ',Rel K B ((is.zip xs).foldl (fun s p=>dh p.1 p.2 false s) st) σ' H ps S as→Q σ' H)→Y6 is vs σ H Q
  | [],_,_,_,_,_,R,.nil,_,q=>⟨rfl,q _ R⟩
  | i::is,_,_,_,_,_,R,.cons r rs,hl,q=>⟨_,_,rfl,Wc is (R.put (i:=i) r) rs (by simpa using hl) q⟩
  | [],_,_,_,_,_,_,.cons _ _,hl,_=>by simp at hl
  | _::_,_,_,_,_,_,_,.nil,hl,_=>by simp at hl
theorem Ai {is:List Nat} {tg:Expr} (h:PG X tg (acd X.K is.length (Y6 is))):PG X tg (gOf X.K B (m5 is)):=fun pins s σ H x u Q I r z9=>h pins s σ H x u Q I r (by
  obtain ⟨st,ps,S,as,t,R,st',e,q⟩:=z9
  have top:=R.top
  cases t with
  | tup xs =>
    cases top with
    | @tup a vs _ g1 g2 =>
      simp only [m5] at e
      split at e
      · rename_i hl
        cases e
        exact ⟨a,vs,rfl,ou R.sub g1,by rw [g2.length]; exact hl,Wc is R.drop g2 hl fun σ' R'=>q σ' H S as R'⟩
      · cases e
  | _=>simp only [m5,reduceCtorEq] at e)
end
end C
namespace C
open PySem PySem.Spec PyProof.Rows L2
end C
end
noncomputable section
set_option linter.all false
set_option maxRecDepth 100000
set_option maxHeartbeats 4000002
set_option autoImplicit false
namespace C
open PySem PySem.Spec PyProof.Rows L2
noncomputable section
variable {X:Cx} {B:Bas} {a b c e lo hi:Expr} {m m1 m2 ml mh:M T} {pos p p2:Pos}
theorem vq.take {K:PySem.W.Frag} {S:Hp} {as:List Addr}:∀ (n:Nat) {vs:List V} {ts:List T},vq K S as vs ts→vq K S as (vs.take n) (ts.take n)
  | 0,_,_,_=>.nil
  | _+1,_,_,.nil=>.nil
  | n+1,_,_,.cons h r=>.cons h (vq.take n r)
end
end C
end
noncomputable section
set_option linter.all false
set_option maxRecDepth 100000
set_option maxHeartbeats 4000002
set_option autoImplicit false
namespace C
open PySem PySem.Spec PyProof.Rows L2
noncomputable section
variable {X:Cx} {B:Bas} {a b c e o k:Expr} {m mo mk mv:M T} {pos p:Pos}
end
end C
end
noncomputable section
set_option linter.all false
set_option maxRecDepth 100000
set_option maxHeartbeats 4000002
set_option autoImplicit false
namespace C
open PySem PySem.Spec PyProof.Rows L2
noncomputable section
variable {X:Cx} {B:Bas} {pins:List (Addr × Obj)} {σ:L2.St} {H S:Hp} {s:Shared} {as:List Addr} {Q:VK}
theorem gather {R:List Value→Shared→Prop} {A:Around} {E:Value→Shared→Prop} {T:String} {r d:Addr} {n:Nat} {P:Nat→Value→Prop} {OK:Heap→Prop} (KS:PySem.W.KdlSrc X.prog X.w T r d n P OK) (nh:A.handled=none) (ok0:OK s.heap) (sz:n≤sizeLine)
    (k:∀ (h1:Heap) (tk:Nat) (got:Array Value),s.heap.objs.size<h1.objs.size→(∀ b o,s.heap.get? b=some o→h1.get? b=some o)→ItemsOf P got n→R got.toList { s with heap:=h1,toks:=tk }) :
    wpAny (model X.prog X.w) A (collect (.ref r)) R E s:=by
  have lt0:=KS.there _ ok0
  unfold collect
  refine wpAny_bind (wpAny_runValue
    (codeAny_builtin entry_proto_collect' ?_))
  rw [Around.under_plainId
    PySem.F.plain_proto_collect _]
  show wpAny _ A.in1 (newList [] >>= fun z=>again (.builtin "list.__iadd__" ⟨[z,.ref r],[]⟩)) _ _ s
  refine wpAny_bind (wpAny_newObj_type (wpAny_pure ⟨plainId_quiet PySem.F.plain_list_iadd _,codeAny_builtin entry_list_iadd' ?_⟩))
  rw [Around.under_plainId
    PySem.F.plain_list_iadd _]
  change wpAny _ A.in1 (Builtin.List.listExtendWith (.ref s.heap.objs.size) (.ref r) (.ref s.heap.objs.size)) _ _ _
  have new0:(s.heap.push { cls:=.type "list",data:=.seq ([]:List Value).toArray }).get? s.heap.objs.size=some { cls:=.type "list",data:=.seq #[] }:=Heap.get?_push_size _ rfl
  have walk:=PySem.W.kdl_extend (A:=A) (s:={ s with heap:=s.heap.push { cls:=.type "list",data:=.seq ([]:List Value).toArray } })
    (R:=fun (f:Result) (s1:Shared)=>∃ (h1:Heap) (tk:Nat) (got:Array Value) (c1:Nat),f=.ok (.ret (.ref s.heap.objs.size))∧s1 = { s with heap:=h1,toks:=tk }∧(∀ b o,s.heap.get? b=some o→h1.get? b=some o) ∧
      h1.get? s.heap.objs.size=some { cls:=.type "list",dict:=none,data:=.seq got c1,slots:=#[] }∧ItemsOf P got n)
    KS nh (KS.keep _ _ ok0 fun b _ o e=>Heap.get?_push_of_some _ e) s.heap.objs.size (Nat.ne_of_gt lt0.1) (Nat.ne_of_gt lt0.2) (.ref s.heap.objs.size) 0 new0
    (fun h1 tk got c1 old at1 its=>⟨h1,tk,got,c1,rfl,rfl,fun b o e=>old b o (Nat.ne_of_lt (Heap.lt_size e)) (Heap.get?_push_of_some _ e),at1,its⟩) sz
  have last:∀ (h1:Heap) (tk:Nat) (got:Array Value) (c1:Nat),(∀ b o,s.heap.get? b=some o→h1.get? b=some o)→h1.get? s.heap.objs.size=some { cls:=.type "list",dict:=none,data:=.seq got c1,slots:=#[] }→ItemsOf P got n →
      wpAny (model X.prog X.w) A (load s.heap.objs.size >>= fun o=>match o.data with | .seq xs _=>pure xs.toList | _=>unsupported "internal:collect") R E { s with heap:=h1,toks:=tk } :=
    fun h1 tk got c1 old at1 its=>wpAny_bind (wpAny_load at1 (wpAny_pure (k h1 tk got (Heap.lt_size at1) old its)))
  refine wpAny_mono walk (fun fin s1 x=>?_) fun e s1 x=>?_
  · cases fin with
    | done f =>
      obtain ⟨h1,tk,got,c1,ef,rfl,old,at1,its⟩:=x
      cases ef
      exact last h1 tk got c1 old at1 its
    | again c =>
      refine ⟨x.1,codeAny_mono x.2 fun f s2 y=>?_⟩
      obtain ⟨h1,tk,got,c1,rfl,rfl,old,at1,its⟩:=y
      exact last h1 tk got c1 old at1 its
  · obtain ⟨_,_,_,_,ef,_⟩:=x
    cases ef
theorem Zd {T:String} {r d:Addr} {n:Nat} {P:Nat→Value→Prop} {OK:Heap→Prop} {l:List Str} (KS:PySem.W.KdlSrc X.prog X.w T r d n P OK) (hc:X.calm=true) (I:L2.Inv X pins σ H s) (sub:Same S H) (hok:OK s.heap) (h64:n<64)
    (hi:∀ vs:List Value,vs.length=n→(∀ (j:Nat) (v:Value),vs[j]? = some v→P j v)→∃ l',StrsAre vs l'∧l'.Perm l)
    (q:∀ v H' S',Ext S H S' H'→Rep X.K S' as v (.lst ((Bs l).map .str))→Q v H'):wpAny (model X.prog X.w) X.A (call (.builtin "sorted") [.ref r]) (EP X pins σ Q) X.xe s:=by
  have hn:n≤sizeLine:=Nat.le_trans (Nat.le_of_lt h64) (by rw [sizeLine_eq]; decide)
  refine Calls.call_function_entry kind_sorted plain_sorted
    entry_sorted (args_sorted1 _) ?_
  unfold Builtin.«sorted»
  refine wpAny_bind (m:=checkCount "sorted" 1 1 _) (wpAny_pure (wpAny_bind ?_))
  refine (gather (A:=X.A.in1) KS (show X.A.in1.handled=none from I.ok.hd hc) hok hn fun h' tk acc hlt hk hacc=>?_)
  have hl:acc.toList.length=n:=Array.length_toList.trans hacc.1
  obtain ⟨l',hS,hp⟩:=hi acc.toList hl fun j v e=>hacc.2 j v (by rw [← Array.getElem?_toList]; exact e)
  refine wpAny_bind (wpAny_newList ?_ (hl ▸ hn))
  have hoL:(h'.push (seqObj "list" acc.toList.toArray 0)).get? h'.objs.size=some (seqObj "list" acc.toList.toArray 0):=Heap.get?_push_size _ rfl
  refine wpAny_bind (wpAny_holding (wpAny_call_entry slot_list_sort ⟨_,hoL,rfl⟩ entry_list_sort (list_sort_treeK strKind_oneLt hoL hS.keysOf (fun v₁ v₂ rest e=>keyKind_strs (by rw [← e]; exact hS)) (by rw [hl]; exact h64) fun st' a1 a2=>⟨_,rfl,?_⟩) (args_list_sort _)))
  refine wpAny_pure ⟨_,rfl,(?_:EP X pins σ Q _ _)⟩
  obtain ⟨ss',b1,b2,b3⟩:=sorted_out_str hS a1 a2
  have es:=Vl b3 (b2.trans hp)
  subst es
  have hle:=Nat.le_of_lt hlt
  obtain ⟨e,he⟩:=sortedHeap_at (out:=(arrOf st').map (·.2)) hoL
  have hsz:(List.map V.str (Bs l)).length≤sizeLine:=by
    rw [List.length_map,(Ie l).length_eq,← hp.length_eq,← hS.length,hl]
    exact hn
  have hnn:H h'.objs.size=none:=I.hok.fresh hle
  have x:=Ext.laid sub hnn (.lst ((Bs l).map V.str))
  refine ⟨.ref h'.objs.size,_,I.laid (a:=h'.objs.size) (o:=.lst ((Bs l).map V.str)) (t':=tk) (fun b u eb=>?_) hle ⟨hsz,_,e,Q6 b1,he⟩,rfl,q _ _ _ x (.lst (SqL.of jj) (Jr _))⟩
  have hb:=Heap.lt_size (hk _ _ eb)
  rw [sortedHeap_old (Nat.ne_of_lt hb) (by rw [Heap.size_push]; exact Nat.lt_succ_of_lt hb)]
  exact Heap.get?_push_of_some _ (hk _ _ eb)
theorem Q8:∀ {kvs:List (L2.Key × V)} {ts:List (L2.Key × T)} {l:List Str},kvs.map (·.1)=ts.map (·.1)→J6 (ts.map fun p=>Xj p.1)=some l→kvs.map (·.1)=l.map Sum.inr
  | [],[],l,_,h=>by simp only [List.map_nil,J6] at h; cases h; rfl
  | (k,v)::kvs,(k2,t)::ts,l,e,h=>by
    simp only [List.map_cons,List.cons.injEq] at e
    obtain ⟨e1,e2⟩:=e
    subst e1
    cases k with
    | inl i=>simp only [List.map_cons,Xj,J6,reduceCtorEq] at h
    | inr x =>
      simp only [List.map_cons,Xj,J6] at h
      obtain ⟨l',h1,h2⟩:=Option.map_eq_some_iff.mp h
      subst h2
      rw [List.map_cons,List.map_cons,Q8 e2 h1]
theorem Dy.keys {K:PySem.W.Frag} {S:Hp} {as:List Addr}:∀ {kvs:List (L2.Key × V)} {ts:List (L2.Key × T)},Dy K S as kvs ts→kvs.map (·.1)=ts.map (·.1)
  | _,_,.nil=>rfl
  | _,_,.cons h q=>by rw [List.map_cons,List.map_cons,Dy.keys q]
theorem Io {prog:Program} {w:World}:∀ {vs:List (L2.Key × Value)} {us:List Value} {l:List Str},vs.map (·.1)=l.map Sum.inr→us.length=vs.length→(∀ (j:Nat) (v:Value),us[j]? = some v→∃ k x,vs[j]? = some (k,x)∧(qu prog w).is k v=true)→StrsAre us l
  | [],us,l,e,hl,h=>by
    cases us with
    | cons _ _=>simp at hl
    | nil=>cases l with
      | nil=>exact .nil
      | cons _ _=>simp at e
  | (k,x)::vs,us,l,e,hl,h=>by
    cases us with
    | nil=>simp at hl
    | cons u us =>
      cases l with
      | nil=>simp at e
      | cons y l =>
        simp only [List.map_cons,List.cons.injEq] at e
        obtain ⟨e1,e2⟩:=e
        subst e1
        obtain ⟨k',x',h1,h2⟩:=h 0 u rfl
        simp only [List.getElem?_cons_zero,Option.some.injEq,Prod.mk.injEq] at h1
        obtain ⟨rfl,rfl⟩:=h1
        rw [Wj] at h2
        have hu:∃ t,u=.str y t:=by
          rcases vh h2 with ⟨i,t,e',_⟩ | ⟨z,t,e',hz⟩
          · cases e'
          · cases e'; exact ⟨t,hz⟩
        obtain ⟨t,rfl⟩:=hu
        exact .cons y t (Io e2 (by simpa using hl) fun j v ev=>by simpa using h (j+1) v (by simpa using ev))
theorem Ir (hc:X.calm=true):V0 X (.builtin "sorted") Cp:=by
  intro pins s σ H xs us Q I rs z8
  obtain ⟨S,as,ts,w,sub,hr,hf,q⟩:=z8
  cases hr with
  | nil=>simp only [Cp,reduceCtorEq] at hf
  | @cons x t xs' ts' h1 h2 =>
    cases h2 with
    | cons h3 h4=>cases h1 <;> simp only [Cp,reduceCtorEq] at hf
    | nil =>
      cases h1 with
      | @lst a vs ts g1 g2 =>
        simp only [Cp] at hf
        split at hf
        · rename_i h64
          obtain ⟨l,e1,e2⟩:=Option.map_eq_some_iff.mp hf
          subst e2
          exact Ob pins s σ H _ us Q I rs ⟨S,as,ts,l,sub,.cons (.lst g1 g2) .nil,h64,e1,q⟩
        · cases hf
      | @dic a kvs ts g1 g2 =>
        simp only [Cp] at hf
        split at hf
        · rename_i h64
          obtain ⟨l,e1,e2⟩:=Option.map_eq_some_iff.mp hf
          subst e2
          obtain ⟨u,rfl,ru⟩:=rs.one
          cases ru
          obtain ⟨z,hd,vs,rel,dd⟩:=Im I.hok (xq sub g1)
          obtain ⟨ep,hat⟩:=dd.dictAt
          have hlen:vs.length=ts.length:=by rw [← rel.length]; exact g2.length
          have hk:=Q8 g2.keys e1
          rw [KV.keys rel] at hk
          exact Zd (PySem.W.kdl_dict (knd:=qu X.prog X.w) (kvs:=vs) (ep:=ep) hd) hc I sub hat (by rw [hlen]; exact h64) (fun us hl hp=>⟨l,Io hk hl hp,.refl _⟩) q
        · cases hf
      | _=>simp only [Cp,reduceCtorEq] at hf
end
end C
end
noncomputable section
set_option linter.all false
set_option maxRecDepth 100000
set_option maxHeartbeats 4000002
set_option autoImplicit false
namespace C
open PySem PySem.Spec PyProof.Rows L2
noncomputable section
variable {prog:Program} {w:World} {A:Around} {E:Value→Shared→Prop} {s:Shared}
theorem M4:typeLookup (.type "list") "keys" = pure none:=am_miss_of_fast (by decide +kernel)
theorem Z0 {l:Addr} {xs:Array Value} {k:Nat} {sl:Array (Option Value)} {Q:Option Value→Shared→Prop} (hx:s.heap.get? l=some { cls:=.type "list",dict:=none,data:=.seq xs k,slots:=sl }) (nh:A.handled=none)
    (h:∀ h' tk e,Heap.NewExcOf s.heap h' e "AttributeError" → Q none { s with heap:=h',toks:=tk }):wpAny (model prog w) A (getAttr? (.ref l) "keys") Q E s:=by
  obtain ⟨h0,g0,d0,tk,os⟩:=s
  have hT:∀ tk',(⟨h0,g0,d0,tk',os⟩:Shared).TypeIs (.ref l) "list" := fun _=>⟨_,hx,rfl⟩
  have g1:=sub_AttributeError
  have g3:=F.slot_list_getattribute.lookup
  have g4:=F.slot_list_getattribute.bind (.ref l)
  have g5:=am_list_getattr_none
  unfold getAttr?
  unfold getAttrBy?
  unfold getAttrBy
  repeat (any_goals (first | assumption | exact hT _ | ((with_reducible show wpAny _ _ (call (Value.builtin "list.__getattribute__") _ _) _ _ _); refine call_meets F.slot_list_getattribute (hT _) am_entry_list_getattribute (F.args_list_getattribute_2 _ _) (meets_getattribute_miss_list l xs k sl "keys" _ M4 (by decide +kernel)) ⟨hx,nh,fun h' tk' e y=>?_⟩) | wp_step))
  obtain ⟨t',u',he⟩:=y.there
  change wpAny _ _ (getattributeRaised _ _ _ _ _ _ _) _ _ _
  unfold getattributeRaised
  repeat (any_goals first | assumption | wp_step)
  exact h _ _ _ y.of
theorem K8:typeLookup (.type "tuple") "keys" = pure none:=am_miss_of_fast (by decide +kernel)
theorem Xb {l:Addr} {xs:Array Value} {k:Nat} {sl:Array (Option Value)} {Q:Option Value→Shared→Prop} (hx:s.heap.get? l=some { cls:=.type "tuple",dict:=none,data:=.seq xs k,slots:=sl }) (nh:A.handled=none)
    (h:∀ h' tk e,Heap.NewExcOf s.heap h' e "AttributeError" → Q none { s with heap:=h',toks:=tk }):wpAny (model prog w) A (getAttr? (.ref l) "keys") Q E s:=by
  obtain ⟨h0,g0,d0,tk,os⟩:=s
  have hT:∀ tk',(⟨h0,g0,d0,tk',os⟩:Shared).TypeIs (.ref l) "tuple" := fun _=>⟨_,hx,rfl⟩
  have g1:=sub_AttributeError
  have g3:=F.slot_tuple_getattribute.lookup
  have g4:=F.slot_tuple_getattribute.bind (.ref l)
  have g5:=am_tuple_getattr_none
  unfold getAttr?
  unfold getAttrBy?
  unfold getAttrBy
  repeat (any_goals (first | assumption | exact hT _ | ((with_reducible show wpAny _ _ (call (Value.builtin "tuple.__getattribute__") _ _) _ _ _); refine call_meets F.slot_tuple_getattribute (hT _) am_entry_tuple_getattribute (F.args_tuple_getattribute_2 _ _) (meets_getattribute_miss_tuple l xs k sl "keys" _ K8 (by decide +kernel)) ⟨hx,nh,fun h' tk' e y=>?_⟩) | wp_step))
  obtain ⟨t',u',he⟩:=y.there
  change wpAny _ _ (getattributeRaised _ _ _ _ _ _ _) _ _ _
  unfold getattributeRaised
  repeat (any_goals first | assumption | wp_step)
  exact h _ _ _ y.of
end
end C
end
noncomputable section
set_option linter.all false
set_option maxRecDepth 100000
set_option maxHeartbeats 4000002
set_option autoImplicit false
namespace C
open PySem PySem.Spec PyProof.Rows L2
theorem Ux {prog:Program} {w:World} {A:Around} {E:Value→Shared→Prop} {s:Shared} {t:Addr} {o:Obj} {xs:Array Value} {m:Nat} {Q:Option (Array Value)→Shared→Prop} (h:s.heap.get? t=some o) (hd:o.data=.seq xs m) (q:Q (some xs) s):wpAny (model prog w) A (seqItems? (.ref t)) Q E s:=by
  show wpAny _ A (load t >>= fun o=>match o.data with | .seq xs _=>pure (some xs) | _=>pure none) _ _ s
  refine wpAny_bind (wpAny_load h ?_)
  rw [hd]
  exact wpAny_pure q
theorem Cq:entryFor table "dict.update.loop" = some Builtin.«dict.update.loop»:=entryFor_of_tree (by kernel_rfl)
theorem vp:plainId "dict.update.loop" = true:=by decide +kernel
noncomputable section
variable {prog:Program} {w:World} {A:Around} {R:Result→Shared→Prop} {I:Addr} {fp wr:List Addr} {G:Array GenState→Array GenState→Prop} {n:Nat} {P:Nat→Value→Prop} {St:Nat→Shared→Prop} {κ:Type} [DecidableEq κ] {knd:PySem.KeyKind prog w κ}
theorem W0 (W:WalksS prog w A.in1 I fp wr G n P St) (D:Addr) (hDf:D∉fp) (result:Value) (h0:Heap) (kvs:Nat→List (κ × Value)) (key:Nat→κ) (val:Nat→Value) (hs:∀ i,kvs (i+1)=stored (kvs i) (key i) (val i)) (hz:∀ i,i≤n→(kvs i).length≤sizeLine)
    (hit:∀ i v,P i v→∃ t kx o m,v=.ref t∧t≠D∧t∉wr∧h0.get? t=some o∧o.cls=.type "tuple" ∧ o.data=.seq #[kx,val i] m∧knd.is (key i) kx=true) :
    ∀ (j i:Nat) (c:Nat) (s:Shared),n - i=j→i≤n→St i s→(∀ b o,b≠D→b∉wr→h0.get? b=some o→s.heap.get? b=some o)→s.heap.DictOf knd D (kvs i) →
      (∀ s',Moved (D::wr) G s s'→s'.heap.DictOf knd D (kvs n)→R (.ok (.ret result)) s')→codeAny (model prog w) A (.builtin "dict.update.loop" ⟨[.ref D,.ref I,rawInt (c:Int),result],[]⟩) R s:=by
  have hDw:D∉wr:=fun z=>hDf (W.sub _ z)
  have more:∀ b∈wr,b∈D::wr:=fun b hb=>List.mem_cons_of_mem _ hb
  intro j
  induction j with
  | zero =>
    intro i c s hk hi hst keep hD hR
    have e:i=n:=by omega
    subst e
    refine codeAny_builtin Cq ?_
    rw [Around.under_plainId vp _]
    change wpAny _ A.in1 (pyNext (.ref I) >>= _) _ _ s
    refine wpAny_bind (W.done s _ _ hst (fun s' hm=>?_))
    show wpAny _ A.in1 (Builtin.Dict.addKeywords D [] >>= fun _=>ret result) _ _ s'
    refine wpAny_bind (wpAny_pure (wpAny_pure (hR s' (hm.mono more) ?_)))
    obtain ⟨o,es,ep,ho,rest⟩:=hD
    exact ⟨o,es,ep,hm.heap D _ hDw ho,rest⟩
  | succ j ih =>
    intro i c s hk hi hst keep hD hR
    have hlt:i<n:=by omega
    refine codeAny_builtin Cq ?_
    rw [Around.under_plainId vp _]
    change wpAny _ A.in1 (pyNext (.ref I) >>= _) _ _ s
    refine wpAny_bind (W.item i s _ _ hlt hst (fun v s' hP hst' hm=>?_))
    obtain ⟨t,kx,o,m,rfl,htD,htw,ht,hc,hd,hkey⟩:=hit i v hP
    have ht':s'.heap.get? t=some o:=hm.heap t o htw (keep t o htD htw ht)
    have hD':s'.heap.DictOf knd D (kvs i):=by
      obtain ⟨o,es,ep,ho,rest⟩:=hD
      exact ⟨o,es,ep,hm.heap D _ hDw ho,rest⟩
    have hT:s'.TypeIs (.ref t) "tuple" := ⟨o,ht',hc⟩
    dsimp only
    refine wpAny_bind (wpAny_holding (wpAny_bind (wpAny_tryCatch ?_)))
    unfold Builtin.Dict.pairItems
    refine wpAny_bind (wpAny_typeOf (T := "tuple") hT ?_)
    rw [if_pos (by decide)]
    refine wpAny_bind (Ux ht' hd ?_)
    refine wpAny_pure ?_
    show wpAny _ A.in1 (holding [kx,val i] (dictSet D kx (val i))) _ _ s'
    refine wpAny_holding (wpAny_dictSet_pairs hkey hD' (fun h2 hD2 same=>?_) (hz i hi))
    rw [← hs i] at hD2
    refine wpAny_pure ⟨plainId_quiet vp _,?_⟩
    have ec:((c:Int)+1)=((c+1:Nat):Int):=by omega
    rw [ec]
    refine ih (i+1) (c+1) _ (by omega) hlt (W.frame _ s' _ _ hst' (Nat.le_succ _) fun b hb o e=>?_) (fun b o hb hw e=>?_) hD2 fun s2 hm2 hD3=>?_
    · rw [same.2 b (fun h:b=D=>hDf (by rw [← h]; exact hb))]; exact e
    · show h2.get? b=some o
      rw [same.2 b hb]; exact hm.heap b o hw (keep b o hb hw e)
    · refine hR s2 (Moved.trans W.gtrans ((hm.mono more).then_heap (Nat.le_succ _) fun b o hb e=>?_) hm2) hD3
      rw [same.2 b (fun h:b=D=>hb (by rw [h]; exact List.mem_cons_self))]; exact e
end
end C
end
noncomputable section
set_option linter.all false
set_option maxRecDepth 100000
set_option maxHeartbeats 4000002
set_option autoImplicit false
namespace C
open PySem PySem.Spec PyProof.Rows L2
noncomputable section
variable {prog:Program} {w:World} {A:Around} {E:Value→Shared→Prop} {s:Shared} {κ:Type} [DecidableEq κ] {knd:PySem.KeyKind prog w κ}
noncomputable def told (key:Nat→κ) (val:Nat→Value):Nat→List (κ × Value)
  | 0=>[]
  | i+1=>stored (told key val i) (key i) (val i)
theorem Xa (l:List (κ × Value)) (k:κ) (v:Value):(stored l k v).length≤l.length+1:=by
  unfold stored
  split
  · rw [List.length_map]; omega
  · rw [List.length_append,List.length_singleton]; exact Nat.le_refl _
theorem Hg (key:Nat→κ) (val:Nat→Value):∀ i,(told key val i).length≤i
  | 0=>Nat.le_refl _
  | i+1=>Nat.le_trans (Xa _ _ _) (Nat.succ_le_succ (Hg key val i))
theorem Rw {l:Addr} {its:Array Value} {m:Nat} {sl:Array (Option Value)} {key:Nat→κ} {val:Nat→Value} {Q:Value→Shared→Prop} (nh:A.handled=none) (hl:s.heap.get? l=some { cls:=.type "list",dict:=none,data:=.seq its m,slots:=sl }) (hz:its.size≤sizeLine)
    (hit:∀ i v,its[i]? = some v→∃ t kx o n,v=.ref t∧s.heap.get? t=some o∧o.cls=.type "tuple" ∧ o.data=.seq #[kx,val i] n∧knd.is (key i) kx=true)
    (q:∀ h' tk,h'.DictOf knd s.heap.objs.size (told key val its.size)→(∀ b o,s.heap.get? b=some o→h'.get? b=some o)→Q (.ref s.heap.objs.size) { s with heap:=h',toks:=tk }) :
    wpAny (model prog w) A (call (.type "dict") [.ref l]) Q E s:=by
  refine callType_codes (Q₁:=fun ob z=>ob=.ref s.heap.objs.size∧z = { s with heap:=s.heap.push { cls:=.type "dict",data:=.dict #[] } }) F.kt_called_dict (F.kt_typeCall_dict_1 _) F.entry_dict_init (kt_code_dict_new _ ⟨rfl,rfl⟩) ?_
  rintro obj s₁ ⟨rfl,rfl⟩
  have new0:(s.heap.push { cls:=.type "dict",data:=.dict #[] }).DictOf knd s.heap.objs.size []:=Heap.DictOf.new s.heap
  have hl1:(s.heap.push { cls:=.type "dict",data:=.dict #[] }).get? l=some { cls:=.type "list",dict:=none,data:=.seq its m,slots:=sl }:=Heap.get?_push_of_some _ hl
  have hll:l<s.heap.objs.size:=Heap.lt_size hl
  refine ⟨new0.typeIs,F.args_dict_init_2 _ _,?_⟩
  unfold Builtin.«dict.__init__» Builtin.Dict.selfAndRest
  refine wpAny_bind (wpAny_bind (wpAny_notOrdered_dict new0.typeIs ?_))
  show wpAny _ _ (pure (s.heap.objs.size,[Value.ref l])) _ _ _
  refine wpAny_pure ?_
  show wpAny _ _ (Builtin.Dict.updateFrom "dict.__init__" s.heap.objs.size (.ref l) [] .none) _ _ _
  unfold Builtin.Dict.updateFrom; refine wpAny_bind (wpAny_typeOf (T := "list") ⟨_,hl1,rfl⟩ ?_)
  rw [if_pos (by decide)]
  refine wpAny_bind (Z0 hl1 nh fun h2 tk e ne=>?_)
  rw [if_pos (show (none:Option Value).isNone=true from rfl)]
  have old2:∀ b o,(s.heap.push { cls:=.type "dict",data:=.dict #[] }).get? b=some o→h2.get? b=some o:=fun b o hb=>ne.keeps b o hb
  have hl2:h2.IsList l its:=⟨_,old2 _ _ hl1,rfl,m,rfl⟩
  have hD2:s.heap.objs.size<h2.objs.size:=by
    obtain ⟨o,es,ep,ho,rest⟩:=new0
    exact Heap.lt_size (old2 _ _ ho)
  refine wpAny_bind (wpAny_rule (wpAny_bind (wpAny_pyIter_list hl2 ?_)))
  refine wpAny_pure ⟨plainId_quiet vp _,?_⟩
  have nl:l≠h2.objs.size:=Nat.ne_of_lt (Nat.lt_trans hll hD2)
  have nD:s.heap.objs.size∉[h2.objs.size,l]:=by
    simp only [List.mem_cons,List.mem_singleton,List.not_mem_nil,or_false,not_or]
    exact ⟨Nat.ne_of_lt hD2,Nat.ne_of_gt hll⟩
  have hD3:(h2.push { cls:=.type "list_iterator",data:=.fields #[.ref l,.int 0 0] }).DictOf knd s.heap.objs.size (told key val 0):=by
    obtain ⟨o,es,ep,ho,rest⟩:=new0
    exact ⟨o,es,ep,Heap.get?_push_of_some _ (old2 _ _ ho),rest⟩
  refine W0 (knd:=knd) ((Walks.list (A:=A.in1.in1) (show A.in1.in1.handled=none from nh) h2.objs.size l nl its).toS) s.heap.objs.size nD .none s.heap (told key val) key val (fun _=>rfl) (fun i hi=>Nat.le_trans (Hg key val i) (Nat.le_trans hi hz))
    (fun i v hv=>?_) (its.size - 0) 0 0 _ rfl (Nat.zero_le _) ⟨⟨_,Heap.get?_push_size _ rfl,rfl,rfl⟩,hl2.push _⟩ (fun b o _ _ hb=>Heap.get?_push_of_some _ (old2 _ _ (Heap.get?_push_of_some _ hb))) hD3 fun s3 hm hD4=>?_
  · obtain ⟨t,kx,o,n,rfl,ht,hc,hd,hk⟩:=hit i v hv
    have tl:=Heap.lt_size ht
    refine ⟨t,kx,o,n,rfl,Nat.ne_of_lt tl,?_,ht,hc,hd,hk⟩
    simp only [List.mem_singleton]
    exact Nat.ne_of_lt (Nat.lt_trans tl hD2)
  · obtain ⟨h3,g3,d3,t3,o3⟩:=s3
    have eg:g3=s.gens:=hm.gens
    have ed:d3=s.drawn:=hm.drawn
    have eo:o3=s.os:=hm.os
    subst eg; subst ed; subst eo
    refine ⟨rfl,q h3 t3 hD4 fun b o hb=>?_⟩
    have bl:=Heap.lt_size hb
    refine hm.heap b o ?_ (Heap.get?_push_of_some _ (old2 _ _ (Heap.get?_push_of_some _ hb)))
    simp only [List.mem_cons,List.mem_singleton,List.not_mem_nil,or_false,not_or]
    exact ⟨Nat.ne_of_lt bl,Nat.ne_of_lt (Nat.lt_trans bl hD2)⟩
theorem Ol {l:Addr} {its:Array Value} {m:Nat} {sl:Array (Option Value)} {key:Nat→κ} {val:Nat→Value} {Q:Value→Shared→Prop} (nh:A.handled=none) (hl:s.heap.get? l=some { cls:=.type "tuple",dict:=none,data:=.seq its m,slots:=sl }) (hz:its.size≤sizeLine)
    (hit:∀ i v,its[i]? = some v→∃ t kx o n,v=.ref t∧s.heap.get? t=some o∧o.cls=.type "tuple" ∧ o.data=.seq #[kx,val i] n∧knd.is (key i) kx=true)
    (q:∀ h' tk,h'.DictOf knd s.heap.objs.size (told key val its.size)→(∀ b o,s.heap.get? b=some o→h'.get? b=some o)→Q (.ref s.heap.objs.size) { s with heap:=h',toks:=tk }) :
    wpAny (model prog w) A (call (.type "dict") [.ref l]) Q E s:=by
  refine callType_codes (Q₁:=fun ob z=>ob=.ref s.heap.objs.size∧z = { s with heap:=s.heap.push { cls:=.type "dict",data:=.dict #[] } }) F.kt_called_dict (F.kt_typeCall_dict_1 _) F.entry_dict_init (kt_code_dict_new _ ⟨rfl,rfl⟩) ?_
  rintro obj s₁ ⟨rfl,rfl⟩
  have new0:(s.heap.push { cls:=.type "dict",data:=.dict #[] }).DictOf knd s.heap.objs.size []:=Heap.DictOf.new s.heap
  have hl1:(s.heap.push { cls:=.type "dict",data:=.dict #[] }).get? l=some { cls:=.type "tuple",dict:=none,data:=.seq its m,slots:=sl }:=Heap.get?_push_of_some _ hl
  have hll:l<s.heap.objs.size:=Heap.lt_size hl
  refine ⟨new0.typeIs,F.args_dict_init_2 _ _,?_⟩
  unfold Builtin.«dict.__init__» Builtin.Dict.selfAndRest
  refine wpAny_bind (wpAny_bind (wpAny_notOrdered_dict new0.typeIs ?_))
  show wpAny _ _ (pure (s.heap.objs.size,[Value.ref l])) _ _ _
  refine wpAny_pure ?_
  show wpAny _ _ (Builtin.Dict.updateFrom "dict.__init__" s.heap.objs.size (.ref l) [] .none) _ _ _
  unfold Builtin.Dict.updateFrom; refine wpAny_bind (wpAny_typeOf (T := "tuple") ⟨_,hl1,rfl⟩ ?_)
  rw [if_pos (by decide)]
  refine wpAny_bind (Xb hl1 nh fun h2 tk e ne=>?_)
  rw [if_pos (show (none:Option Value).isNone=true from rfl)]
  have old2:∀ b o,(s.heap.push { cls:=.type "dict",data:=.dict #[] }).get? b=some o→h2.get? b=some o:=fun b o hb=>ne.keeps b o hb
  have hl2:h2.IsTuple l its:=⟨_,old2 _ _ hl1,rfl,m,rfl⟩
  have hD2:s.heap.objs.size<h2.objs.size:=by
    obtain ⟨o,es,ep,ho,rest⟩:=new0
    exact Heap.lt_size (old2 _ _ ho)
  refine wpAny_bind (wpAny_rule (wpAny_bind (wpAny_pyIter_tuple hl2 ?_)))
  refine wpAny_pure ⟨plainId_quiet vp _,?_⟩
  have nl:l≠h2.objs.size:=Nat.ne_of_lt (Nat.lt_trans hll hD2)
  have nD:s.heap.objs.size∉[h2.objs.size,l]:=by
    simp only [List.mem_cons,List.mem_singleton,List.not_mem_nil,or_false,not_or]
    exact ⟨Nat.ne_of_lt hD2,Nat.ne_of_gt hll⟩
  have hD3:(h2.push { cls:=.type "tuple_iterator",data:=.fields #[.ref l,.int 0 0] }).DictOf knd s.heap.objs.size (told key val 0):=by
    obtain ⟨o,es,ep,ho,rest⟩:=new0
    exact ⟨o,es,ep,Heap.get?_push_of_some _ (old2 _ _ ho),rest⟩
  refine W0 (knd:=knd) ((Walks.tuple (A:=A.in1.in1) (show A.in1.in1.handled=none from nh) h2.objs.size l nl its).toS) s.heap.objs.size nD .none s.heap (told key val) key val (fun _=>rfl) (fun i hi=>Nat.le_trans (Hg key val i) (Nat.le_trans hi hz))
    (fun i v hv=>?_) (its.size - 0) 0 0 _ rfl (Nat.zero_le _) ⟨⟨_,Heap.get?_push_size _ rfl,rfl,rfl⟩,hl2.push _⟩ (fun b o _ _ hb=>Heap.get?_push_of_some _ (old2 _ _ (Heap.get?_push_of_some _ hb))) hD3 fun s3 hm hD4=>?_
  · obtain ⟨t,kx,o,n,rfl,ht,hc,hd,hk⟩:=hit i v hv
    have tl:=Heap.lt_size ht
    refine ⟨t,kx,o,n,rfl,Nat.ne_of_lt tl,?_,ht,hc,hd,hk⟩
    simp only [List.mem_singleton]
    exact Nat.ne_of_lt (Nat.lt_trans tl hD2)
  · obtain ⟨h3,g3,d3,t3,o3⟩:=s3
    have eg:g3=s.gens:=hm.gens
    have ed:d3=s.drawn:=hm.drawn
    have eo:o3=s.os:=hm.os
    subst eg; subst ed; subst eo
    refine ⟨rfl,q h3 t3 hD4 fun b o hb=>?_⟩
    have bl:=Heap.lt_size hb
    refine hm.heap b o ?_ (Heap.get?_push_of_some _ (old2 _ _ (Heap.get?_push_of_some _ hb)))
    simp only [List.mem_cons,List.mem_singleton,List.not_mem_nil,or_false,not_or]
    exact ⟨Nat.ne_of_lt bl,Nat.ne_of_lt (Nat.lt_trans bl hD2)⟩
end
end C
end
noncomputable section
set_option linter.all false
set_option maxRecDepth 100000
set_option maxHeartbeats 4000002
set_option autoImplicit false
namespace C
open PySem PySem.Spec PyProof.Rows L2
theorem Te {x:T} {xs:List T} {l:List (Key × T)} (h:Br (x::xs)=some l):∃ k v q l',x=.tup [k,v]∧keyOf k=some q∧Br xs=some l'∧l=(q,v)::l':=by
  match x,h with
  | .tup [k,v],h =>
    simp only [Br] at h
    split at h
    · rename_i q l' e1 e2; cases h; exact ⟨k,v,q,l',rfl,e1,e2,rfl⟩
    · cases h
noncomputable section
variable {X:Cx} {pins:List (Addr × Obj)} {σ:L2.St} {H S:Hp} {s:Shared} {as:List Addr}
inductive Et (h:Heap) (prog:Program) (w:World):List Value→List L2.Key→List Value→Prop where
  | nil:Et h prog w [] [] []
  | cons {t:Addr} {kx wv:Value} {o:Obj} {n:Nat} {q:L2.Key} {us:List Value} {qs:List L2.Key} {ws:List Value}:h.get? t=some o→o.cls=.type "tuple" → o.data=.seq #[kx,wv] n→(qu prog w).is q kx=true →
      Et h prog w us qs ws→Et h prog w (.ref t::us) (q::qs) (wv::ws)
theorem Et.get {h:Heap} {prog:Program} {w:World}:∀ {us:List Value} {qs:List L2.Key} {ws:List Value},Et h prog w us qs ws→∀ (i:Nat) (v:Value),us[i]? = some v→∃ t kx o n,v=.ref t∧h.get? t=some o∧o.cls=.type "tuple" ∧ o.data=.seq #[kx,ws.getD i .none] n∧(qu prog w).is (qs.getD i (.inl 0)) kx=true
  := by
  intro us qs ws h
  induction h with
  | nil=>intro i v e; simp at e -- here
  | cons h1 h2 h3 h4 r ih =>
    intro i v e
    cases i with
    | zero=>simp at e; subst e; exact ⟨_,_,_,_,rfl,h1,h2,h3,h4⟩
    | succ i=>simpa using ih i v (by simpa using e) -- here
theorem Et.len {h:Heap} {prog:Program} {w:World}:∀ {us:List Value} {qs:List L2.Key} {ws:List Value},Et h prog w us qs ws→us.length=qs.length∧us.length=ws.length:=by
  intro us qs ws h
  induction h with
  | nil=>exact ⟨rfl,rfl⟩
  | cons _ _ _ _ _ ih=>exact ⟨congrArg (· + 1) ih.1,congrArg (· + 1) ih.2⟩
theorem pairs_at (I:L2.Inv X pins σ H s) (sub:Same S H):∀ {vs:List V} {xs:List T} {us:List Value} {l:List (L2.Key × T)},vq X.K S as vs xs→Vals vs us→Br xs=some l →
    ∃ ys ws,Et s.heap X.prog X.w us (l.map (·.1)) ws∧Vals ys ws∧vq X.K S as ys (l.map (·.2))
  | _,[],_,_,h0,r,e=>by cases h0; simp only [Br] at e; cases e; cases r; exact ⟨[],[],.nil,.nil,.nil⟩
  | _,_::_,_,_,h0,r,e=>by
    cases h0 with | cons h q=>?_
    obtain ⟨k,v,qk,l',rfl,e1,e2,rfl⟩:=Te e
    cases r with
    | cons r1 r2 =>
      obtain ⟨ys,ws,p1,p2,p3⟩:=pairs_at I sub q r2 e2
      cases h with
      | tup g1 g2 =>
        cases g2 with
        | cons a1 g2 =>
          cases g2 with
          | cons a2 g2 =>
            cases g2
            cases r1
            obtain ⟨its,rv,⟨o,o1,o2,n,o3⟩,_⟩:=I.tuple (ou sub g1)
            cases rv with
            | cons b1 rv =>
              cases rv with
              | cons b2 rv =>
                cases rv
                have ek:=T9 a1 e1
                subst ek
                exact ⟨_::ys,_::ws,.cons o1 o2 o3 (Sd b1) p1,.cons b2 p2,.cons a2 p3⟩
theorem Ou (l:List (L2.Key × T)) {ys:List V} {ws:List Value} (hv:Vals ys ws) (hr:vq X.K S as ys (l.map (·.2))):∀ i,i≤l.length →
    ∃ kv,KV kv (told (fun i=>(l.map (·.1)).getD i (.inl 0)) (fun i=>ws.getD i .none) i)∧Dy X.K S as kv ((l.take i).foldl (fun d p=>Lh p.1 p.2 d) [])
  | 0,_=>⟨[],.nil,.nil⟩
  | i+1,hi=>by
    obtain ⟨kv,k1,k2⟩:=Ou l hv hr i (by omega)
    have hlt:i<l.length:=Nat.lt_of_succ_le hi
    have e1:(l.map (·.2))[i]? = some l[i].2:=by rw [List.getElem?_map,List.getElem?_eq_getElem hlt]; rfl
    obtain ⟨y,h1,h2⟩:=hr.get e1
    obtain ⟨u,h3,h4⟩:=hv.get h1
    have e2:(l.map (·.1)).getD i (.inl 0)=l[i].1:=by rw [List.getD_eq_getElem?_getD,List.getElem?_map,List.getElem?_eq_getElem hlt]; rfl
    have e3:ws.getD i .none=u:=by rw [List.getD_eq_getElem?_getD,h3]; rfl
    refine ⟨putK kv l[i].1 y,?_,?_⟩
    · have:=k1.put l[i].1 h4
      show KV (putK kv l[i].1 y) (stored (told (fun i=>(l.map (·.1)).getD i (.inl 0)) (fun i=>ws.getD i .none) i) ((l.map (·.1)).getD i (.inl 0)) (ws.getD i .none))
      rw [e2,e3]
      exact this
    · rw [List.take_succ_eq_append_getElem hlt,List.foldl_append]
      exact k2.put h2
theorem J4 {Q:VK} {a:Addr} {vs:List V} {xs:List T} {l:List (L2.Key × T)} (hc:X.calm=true) (I:L2.Inv X pins σ H s) (sub:Same S H) (g1:SqL X.K S a vs) (g2:vq X.K S as vs xs) (e:Br xs=some l) (hz:xs.length≤sizeLine)
    (q:∀ p kv,H p=none→kv.length≤sizeLine→Dy X.K S as kv (l.foldl (fun d p=>Lh p.1 p.2 d) [])→Q (.ref p) (upd H p (.dK kv))):wpAny (model X.prog X.w) X.A (call (.type "dict") [.ref a]) (EP X pins σ Q) X.xe s:=by
  obtain ⟨its,r,p,_⟩:=I.list (qm sub g1)
  obtain ⟨⟨cls,dd,data,sl⟩,n,ho,hcl,hd0,hd⟩:=id p
  simp only at hcl hd0 hd
  subst hcl hd0 hd
  obtain ⟨ys,ws,p1,p2,p3⟩:=pairs_at I sub g2 r e
  have hlen:its.length=l.length:=by rw [p1.len.1,List.length_map]
  have hlx:vs.length=its.length:=r.length
  obtain ⟨kv,k1,k2⟩:=Ou l p2 p3 l.length (Nat.le_refl _)
  rw [List.take_length] at k2
  refine Rw (knd:=qu X.prog X.w) (key:=fun i=>(l.map (·.1)).getD i (.inl 0)) (val:=fun i=>ws.getD i .none) (I.ok.hd hc) ho (by rw [List.size_toArray,← hlx,g2.length]; exact hz)
    (fun i v hv=>p1.get i v (by rw [List.getElem?_toArray] at hv; exact hv)) fun h' tk hD old=>?_
  rw [show its.toArray.size=l.length by rw [List.size_toArray,hlen]] at hD
  have kl:kv.length≤sizeLine:=by
    rw [k1.length]
    exact Nat.le_trans (Hg _ _ _) (by rw [← hlen,← hlx,g2.length]; exact hz)
  have hp:H s.heap.objs.size=none:=I.hok.fresh (Nat.le_refl _)
  exact ⟨.ref s.heap.objs.size,_,I.laid (a:=s.heap.objs.size) (o:=.dK kv) (h':=h') (t':=tk) old (Nat.le_refl _) (Vd kl (beq_eq_false_iff_ne.mpr (Ne.symm (Nat.ne_of_lt I.big))) k1 hD),rfl,q _ kv hp kl k2⟩
theorem Hx {Q:VK} {a:Addr} {vs:List V} {xs:List T} {l:List (L2.Key × T)} (hc:X.calm=true) (I:L2.Inv X pins σ H s) (sub:Same S H) (g1:SqT X.K S a vs) (g2:vq X.K S as vs xs) (e:Br xs=some l) (hz:xs.length≤sizeLine)
    (q:∀ p kv,H p=none→kv.length≤sizeLine→Dy X.K S as kv (l.foldl (fun d p=>Lh p.1 p.2 d) [])→Q (.ref p) (upd H p (.dK kv))):wpAny (model X.prog X.w) X.A (call (.type "dict") [.ref a]) (EP X pins σ Q) X.xe s:=by
  obtain ⟨its,r,p,_⟩:=I.a96 (ou sub g1)
  obtain ⟨⟨cls,dd,data,sl⟩,ho,hcl,hd0,n,hd⟩:=id p
  simp only at hcl hd0 hd
  subst hcl hd0 hd
  obtain ⟨ys,ws,p1,p2,p3⟩:=pairs_at I sub g2 r e
  have hlen:its.length=l.length:=by rw [p1.len.1,List.length_map]
  have hlx:vs.length=its.length:=r.length
  obtain ⟨kv,k1,k2⟩:=Ou l p2 p3 l.length (Nat.le_refl _)
  rw [List.take_length] at k2
  refine Ol (knd:=qu X.prog X.w) (key:=fun i=>(l.map (·.1)).getD i (.inl 0)) (val:=fun i=>ws.getD i .none) (I.ok.hd hc) ho (by rw [List.size_toArray,← hlx,g2.length]; exact hz)
    (fun i v hv=>p1.get i v (by rw [List.getElem?_toArray] at hv; exact hv)) fun h' tk hD old=>?_
  rw [show its.toArray.size=l.length by rw [List.size_toArray,hlen]] at hD
  have kl:kv.length≤sizeLine:=by
    rw [k1.length]
    exact Nat.le_trans (Hg _ _ _) (by rw [← hlen,← hlx,g2.length]; exact hz)
  have hp:H s.heap.objs.size=none:=I.hok.fresh (Nat.le_refl _)
  exact ⟨.ref s.heap.objs.size,_,I.laid (a:=s.heap.objs.size) (o:=.dK kv) (h':=h') (t':=tk) old (Nat.le_refl _) (Vd kl (beq_eq_false_iff_ne.mpr (Ne.symm (Nat.ne_of_lt I.big))) k1 hD),rfl,q _ kv hp kl k2⟩
end
noncomputable section
variable {X:Cx} {B:Bas} {a:Expr} {m:M T} {pos p:Pos}
theorem Ms (hc:X.calm=true):V0 X (.type "dict") Bf:=by
  intro pins s σ H xs us Q I rs z8
  obtain ⟨S,as,ts,w,sub,hr,hf,q⟩:=z8
  cases hr with
  | nil=>simp only [Bf,reduceCtorEq] at hf
  | @cons x t xs' ts' h1 h2 =>
    cases h2 with
    | cons h3 h4=>cases h1 <;> simp only [Bf,reduceCtorEq] at hf
    | nil =>
      obtain ⟨u,rfl,ru⟩:=rs.one
      cases h1 with
      | @lst a vs ts g1 g2 =>
        cases ru
        simp only [Bf] at hf
        split at hf
        · rename_i hl
          obtain ⟨l,e1,e2⟩:=Option.map_eq_some_iff.mp hf
          subst e2
          refine J4 hc I sub g1 g2 e1 (Nat.le_trans (Nat.le_of_lt hl) u5) fun p kv hp _ k2=>?_
          have x:=Ext.laid sub hp (.dK kv)
          exact q _ _ _ x (.dic (.inl jj) (k2.mono x.s nol))
        · cases hf
      | @tup a vs ts g1 g2 =>
        cases ru
        simp only [Bf] at hf
        split at hf
        · rename_i hl
          obtain ⟨l,e1,e2⟩:=Option.map_eq_some_iff.mp hf
          subst e2
          refine Hx hc I sub g1 g2 e1 (Nat.le_trans (Nat.le_of_lt hl) u5) fun p kv hp _ k2=>?_
          have x:=Ext.laid sub hp (.dK kv)
          exact q _ _ _ x (.dic (.inl jj) (k2.mono x.s nol))
        · cases hf
      | @dic a kvs ts g1 g2 =>
        cases ru
        simp only [Bf] at hf
        cases hf
        refine Wb I (xq sub g1) fun p s' hp I'=>⟨.ref p,_,I',rfl,?_⟩
        have x:=Ext.laid sub hp (.dK kvs)
        exact q _ _ _ x (.dic (.inl jj) (g2.mono x.s nol))
      | _=>simp only [Bf,reduceCtorEq] at hf
end
end C
end
noncomputable section
set_option linter.all false
set_option autoImplicit false
namespace C
open PySem PySem.Spec PyProof.Rows L2
theorem gw.zero {P:Program} {w:World} {K:PySem.W.Frag} {mg:Str→Option Value} {base:Heap} {x qual:Str} {st:Stmt} {f:Addr} {fd:FuncData} {ps:List Str} {k:Nat} (F:Fun K x qual st f fd) (h:mg x=some (.ref f)) (b:Binds K fd ps []):gw P w K mg base x k ps (fun _ _=>none):=by
  have no:∀ vs H Q E,¬ spF K ps.length (fun _ _=>none) vs H Q E:=fun vs H Q E z=>by
    obtain ⟨S,as,sto,ts,t,sto',_,_,_,_,e,_⟩:=z
    cases e
  exact ⟨f,fd,⟨fun vs H Q E z=>absurd z (no vs H Q E),fun A outer s H args us vs Q E _ _ _ _ z=>absurd z (no vs H Q E)⟩,b,F.kp,h⟩
end C
end
noncomputable section
set_option autoImplicit false
namespace C
open PySem
noncomputable def a4y:List T→Option T
  | [.int i]=>some (.int i)
  | [.bl k]=>some (.int (if k then 1 else 0))
  | _=>none
end C
end
noncomputable section
set_option linter.all false
set_option maxRecDepth 100000
set_option maxHeartbeats 4000002
set_option autoImplicit false
namespace C
open PySem PySem.Spec PyProof.Rows L2
noncomputable section
variable {X:Cx} {B:Bas} {c e:Expr} {m:M T} {pos p:Pos} {u:S} {body:List Stmt}
theorem Ql:V0 X (.type "int") a4y:=by
  intro pins s σ H xs us Q I rs z8
  obtain ⟨S,as,ts,w,sub,hr,hf,q⟩:=z8
  cases hr with
  | nil=>simp only [a4y,reduceCtorEq] at hf
  | @cons x t xs' ts' h1 h2 =>
    cases h2 with
    | cons h3 h4=>cases h1 <;> simp only [a4y,reduceCtorEq] at hf
    | nil =>
      cases h1 <;> simp only [a4y,reduceCtorEq] at hf
      · cases hf
        exact Rc pins s σ H _ us Q I rs (.inr ⟨_,rfl,q _ H S (Ext.refl sub) (.int _)⟩)
      · cases hf
        exact Rc pins s σ H _ us Q I rs (.inl ⟨_,rfl,q _ H S (Ext.refl sub) (.int _)⟩)
end
end C
end
noncomputable section
set_option linter.all false
set_option maxRecDepth 100000
set_option maxHeartbeats 4000002
set_option autoImplicit false
namespace C
open PySem PySem.Spec PyProof.Rows L2
noncomputable section
variable {X:Cx} {B:Bas} {e st:Expr} {te:TE} {m:M T} {pos p2 p3 p4:Pos} {j:Nat}
end
end C
end
noncomputable section
set_option linter.all false
set_option maxRecDepth 100000
set_option maxHeartbeats 4000002
set_option autoImplicit false
namespace C
open PySem PySem.Spec PyProof.Rows L2
noncomputable section
variable {X:Cx} {B:Bas} {a:Expr} {m:M T} {pos p:Pos}
noncomputable def a82 (K:PySem.W.Frag):List V→Hp→VK→Prop:=fun xs H Q=>∃ S as t u,Same S H∧vq K S as xs [t]∧Bf [t]=some (.dic u)∧∀ p kv,H p=none→Dy K S as kv u→Q (.ref p) (upd H p (.dK kv))
theorem Ws (hc:X.calm=true):Dz X (.type "dict") (a82 X.K):=by
  intro pins s σ H xs us Q I rs z8
  obtain ⟨S,as,t,u,sub,hr,hf,q⟩:=z8
  cases hr with
  | cons h1 h2 =>
    cases h2
    obtain ⟨v,rfl,ru⟩:=rs.one
    cases h1 with
    | @lst a vs ts g1 g2 =>
      cases ru
      simp only [Bf] at hf
      split at hf
      · rename_i hl
        obtain ⟨l,e1,e2⟩:=Option.map_eq_some_iff.mp hf
        cases e2
        exact J4 hc I sub g1 g2 e1 (Nat.le_trans (Nat.le_of_lt hl) u5) fun p kv hp _ k2=>q p kv hp k2
      · cases hf
    | @tup a vs ts g1 g2 =>
      cases ru
      simp only [Bf] at hf
      split at hf
      · rename_i hl
        obtain ⟨l,e1,e2⟩:=Option.map_eq_some_iff.mp hf
        cases e2
        exact Hx hc I sub g1 g2 e1 (Nat.le_trans (Nat.le_of_lt hl) u5) fun p kv hp _ k2=>q p kv hp k2
      · cases hf
    | @dic a kvs ts g1 g2 =>
      cases ru
      simp only [Bf] at hf
      cases hf
      exact Wb I (xq sub g1) fun p s' hp I'=>⟨.ref p,_,I',rfl,q p kvs hp g2⟩
    | _=>simp only [Bf,reduceCtorEq] at hf
theorem a0h {t w:T} (h:Bf [t]=some w):∃ u,w=.dic u:=by
  cases t <;> simp only [Bf,reduceCtorEq] at h
  · split at h
    · obtain ⟨l,_,e⟩:=Option.map_eq_some_iff.mp h; exact ⟨_,e.symm⟩
    · cases h
  · split at h
    · obtain ⟨l,_,e⟩:=Option.map_eq_some_iff.mp h; exact ⟨_,e.symm⟩
    · cases h
  · cases h; exact ⟨_,rfl⟩
theorem a76 (hc:X.calm=true) (hg:Gl X "dict") (hm:X.mg "dict" = none) (ha:PE X a (tOf X.K B m)) (he:starEach [a] X.env=(false,eval a X.env)::starEach [] X.env:=by rfl) (hpl:(backTo pos (starEach [] X.env)).any (·.1)=false:=by rfl) :
    PE X (.Call (.Name "dict" p) [a] [] pos) (fOf X.K B (gb Bf (ak m d9))):=by
  refine (qt (Ws hc) hg hm PyProof.Rows.boot_dict (qw ha w6 he) (by decide) (by decide) he hpl).imp fun σ H Q z0=>?_
  obtain ⟨st,ps,S,as,R,t,st',e,q⟩:=z0
  obtain ⟨ts,e1,e2⟩:=Df e
  obtain ⟨t1,s1,us,ea,en,rfl⟩:=Ak e1
  cases en
  obtain ⟨u,rfl⟩:=a0h e2
  refine ⟨st,ps,S,as,R,t1,_,ea,fun v H1 S1 as1 R1=>⟨S1,as1,t1,u,R1.sub,.cons R1.top .nil,e2,fun p kv hp k2=>?_⟩⟩
  obtain ⟨bD,sD,nD,no⟩:=R1.fresh hp
  exact q p _ S1 as1 (R1.drop.a7b bD sD nD (fun j w e1 e2=>no j w e1 e2)) ⟨⟨kv,jj,k2⟩,sD,nD,bD⟩ (fun j w e1 e2=>no j w e1 e2)
end
end C
end
noncomputable section
set_option autoImplicit false
namespace C
open PySem
noncomputable def sIx (n d:Nat):Option Int→Nat
  | none=>d
  | some v=>if v<0 then (v+(n:Int)).toNat else min v.toNat n
noncomputable def a4c (xs:List T) (lo hi:Option Int):List T:=(xs.drop (sIx xs.length 0 lo)).take (sIx xs.length xs.length hi - sIx xs.length 0 lo)
noncomputable def a5z:M (Option Int):=fun s=>some (none,s)
noncomputable def Xr (e:M T):M (Option Int):=fun s=>match e s with
  | some (.int i,s1)=>some (some i,s1)
  | _=>none
noncomputable def Mf (i:Nat) (k:M T):M T:=fun s=>if jf i s then (match k s with
  | some (.int j,s1)=>match s1.env[i]? with
    | some (some (.lst xs,_))=>match (ixI xs.length j).bind (xs[·]?) with
      | some t=>some (t,s1)
      | none=>none
    | _=>none
  | _=>none) else none
end C
end
noncomputable section
set_option linter.all false
set_option autoImplicit false
namespace C
open PySem PySem.Sem
noncomputable def a8a:Bool→Heap→Addr→Addr→Nat→Prop
  | true,h,it,a,i=>h.IsListIter it a i
  | false,h,it,a,i=>h.IsTupleIter it a i
noncomputable def a6n:Bool→Heap→Addr→Array Value→Prop
  | true,h,a,xs=>h.IsList a xs
  | false,h,a,xs=>h.IsTuple a xs
theorem a8a.to {k:Bool} {h h':Heap} {it a:Addr} {i:Nat} (x:a8a k h it a i) (e:∀ o,h.get? it=some o→h'.get? it=some o):a8a k h' it a i:=by
  cases k <;> obtain ⟨o,ho,r⟩:=x <;> exact ⟨o,e o ho,r⟩
theorem a8a.obj {k:Bool} {h:Heap} {it a:Addr} {i:Nat} (x:a8a k h it a i):∃ o,h.get? it=some o∧∀ v,o.data≠.cell v:=by
  cases k <;> obtain ⟨o,ho,_,d⟩:=x <;> exact ⟨o,ho,fun v z=>by rw [d] at z; cases z⟩
theorem a6n.to {k:Bool} {h h':Heap} {a:Addr} {xs:Array Value} (x:a6n k h a xs) (e:∀ o,h.get? a=some o→h'.get? a=some o):a6n k h' a xs:=by
  cases k <;> obtain ⟨o,ho,r⟩:=x <;> exact ⟨o,e o ho,r⟩
noncomputable section
variable {prog:Program} {w:World} {A:Around} {E:Value→Shared→Prop} {s:Shared}
end
structure acp (h:Heap) (z ti to' i1 i2:Addr) (f:Value):Prop where
  zip:IsZip h z ti to' f
  its:IsPair h ti (.ref i1) (.ref i2)
  kept:∃ a b,IsPair h to' a b
structure Far (z ti to' i1 i2:Addr):Prop where
  nd:[z,ti,to',i1,i2].Nodup
theorem Far.all {z ti to' i1 i2:Addr} (f:Far z ti to' i1 i2):ti≠z∧to'≠z∧i1≠z∧i2≠z∧ti≠to'∧ti≠i1∧ti≠i2∧to'≠i1∧to'≠i2∧i1≠i2:=by
  have:=f.nd
  simp only [List.nodup_cons,List.mem_cons,List.not_mem_nil,or_false,not_or] at this
  obtain ⟨⟨a,b,c,d⟩,⟨e,f,g⟩,⟨h,i⟩,j,_⟩:=this
  exact ⟨Ne.symm a,Ne.symm b,Ne.symm c,Ne.symm d,e,f,g,h,i,j⟩
noncomputable section
variable {prog:Program} {w:World} {A:Around} {E:Value→Shared→Prop} {s:Shared}
end
noncomputable section
variable {prog:Program} {w:World} {A:Around} {E:Value→Shared→Prop} {s:Shared}
end
end C
end
noncomputable section
set_option linter.all false
set_option maxRecDepth 100000
set_option maxHeartbeats 4000002
set_option autoImplicit false
namespace C
open PySem PySem.Spec PyProof.Rows L2
noncomputable def Sq:Bool→PySem.W.Frag→Hp→Addr→List V→Prop
  | true,K,H,a,xs=>SqL K H a xs
  | false,K,H,a,xs=>SqT K H a xs
noncomputable section
variable {X:Cx} {pins:List (Addr × Obj)} {σ:L2.St} {H:Hp} {s:Shared} {a:Addr} {xs ys:List V} {k:Bool}
end
noncomputable section
variable {X:Cx} {B:Bas} {a b:Expr} {m m1 m2:M T} {pos p:Pos} {elts:List Expr} {x1:Nat} {tpos:Pos}
theorem Sq.mono {k:Bool} {K:PySem.W.Frag} {S H:Hp} {a:Addr} {vs:List V} (e:Same S H) (h:Sq k K S a vs):Sq k K H a vs:=by
  cases k with
  | true=>exact qm e h
  | false=>exact ou e h
end
end C
end
noncomputable section
set_option linter.all false
set_option maxRecDepth 100000
set_option maxHeartbeats 4000002
set_option autoImplicit false
namespace C
open PySem PySem.Spec PyProof.Rows L2
noncomputable section
variable {X:Cx}
variable {B:Bas} {o e:Expr} {m1 m2:M T} {apos cpos:Pos}
end
end C
end
noncomputable section
set_option linter.all false
set_option maxRecDepth 100000
set_option maxHeartbeats 4000002
set_option autoImplicit false
namespace C
open PySem PySem.Spec PyProof.Rows L2
theorem V8 (n d:Nat) (o:Option Int):sIx n d o=HT.sIx n d o:=by cases o <;> rfl
inductive oOf (K:PySem.W.Frag) (B:Bas) (m:M (Option Int)) (σ:L2.St) (H:Hp) (Q:Option Int→Hp→Prop):Prop
  | mk (st:Sta) (ps:List (V × T)) (S:Hp) (as:List Addr) (R:Rel K B st σ H ps S as) (o:Option Int) (st':Sta) (e:m st=some (o,st')) (q:∀ H' S' as',Rel K B st' σ H' ps S' as'→Q o H')
noncomputable section
variable {X:Cx} {B:Bas} {a e:Expr} {m:M T} {ml mh:M (Option Int)} {lo hi:Option Expr} {pos p2:Pos}
theorem a0g:PO X none (oOf X.K B a5z):=fun pins s σ H Q I ⟨st,ps,S,as,R,o,st',e,q⟩=>a6f pins s σ H Q I (by cases e; exact q H S as R)
theorem Y7 (h:PE X e (tOf X.K B m)):PO X (some e) (oOf X.K B (Xr m)):=fun pins s σ H Q I z9=>a6o h pins s σ H Q I (by
  obtain ⟨st,ps,S,as,R,o,st',eo,q⟩:=z9
  unfold Xr at eo
  split at eo
  · rename_i i s1 e1
    cases eo
    refine ⟨st,ps,S,as,R,.int i,_,e1,fun v H1 S1 as1 R1=>?_⟩
    cases R1.top
    exact ⟨i,rfl,q H1 S1 as1 R1.drop⟩
  · cases eo)
theorem vq.takes {K:PySem.W.Frag} {S:Hp} {as:List Addr}:∀ (n:Nat) {vs:List V} {ts:List T},vq K S as vs ts→vq K S as (vs.take n) (ts.take n)
  | 0,_,_,_=>.nil
  | _+1,_,_,.nil=>.nil
  | n+1,_,_,.cons h r=>.cons h (vq.takes n r)
theorem a2k {K:PySem.W.Frag} {S:Hp} {as:List Addr} {vs:List V} {ts:List T} (r:vq K S as vs ts) (lo hi:Option Int):vq K S as (a6b vs lo hi) (a4c ts lo hi):=by
  unfold a6b a4c
  rw [V8,V8,r.length]
  exact vq.takes _ (r.drop _)
end
noncomputable section
variable {prog:Program} {w:World} {A:Around} {E:Value→Shared→Prop} {s:Shared}
end
noncomputable section
variable {X:Cx} {B:Bas} {e:Expr} {te:TE} {m m1 m2:M T} {pos p p2 p3 p4:Pos} {j:Nat}
theorem Xh {i:Nat} {k:M T} {s s':Sta} {t:T} (h:Mf i k s=some (t,s')):jf i s=true∧∃ j xs f n,k s=some (.int j,s')∧s'.env[i]? = some (some (.lst xs,f))∧ixI xs.length j=some n∧xs[n]? = some t:=by
  unfold Mf at h
  split at h
  · rename_i hd
    refine ⟨hd,?_⟩
    split at h
    · rename_i j s1 e1
      split at h
      · rename_i xs f e2
        split at h
        · rename_i u e3
          cases h
          obtain ⟨n,h1,h2⟩:=Option.bind_eq_some_iff.mp e3
          exact ⟨j,xs,f,n,e1,e2,h1,h2⟩
        · cases h
      · cases h
    · cases h
  · cases h
theorem a3s (i:Nat) {o k:Expr} {mk:M T} (ho:PE X o (W3 i)) (hk:PE X k (tOf X.K B mk)) (hs:Uc k):PE X (.Subscript o k pos) (tOf X.K B (Mf i mk)):=(a8p Zk ho hk hs).imp fun σ H Q z9=>by
  obtain ⟨st,ps,S,as,R,t,st',e,q⟩:=z9
  obtain ⟨hd,j,xs,f,n,e1,e2,e3,e4⟩:=Xh e
  obtain ⟨xs0,f0,e0⟩:=Ep hd
  obtain ⟨p0,vs0,s0,_⟩:=R.listAt e0
  refine ⟨_,s0,st,ps,S,as,R,.int j,st',e1,fun u H2 S2 as2 R2=>?_⟩
  cases R2.top
  obtain ⟨p1,vs1,s1,rd1,h4⟩:=R2.listAt e2
  rw [s0] at s1; cases s1
  obtain ⟨z,hz,rz⟩:=h4.get e4
  refine ⟨p0,vs1,j,z,rfl,rfl,rd1,?_,q z H2 S2 as2 (R2.drop.push rz)⟩
  rw [Vf,← h4.length] at e3
  unfold atI; rw [e3]; exact hz
end
end C
end
noncomputable section
end
noncomputable section
set_option linter.all false
set_option autoImplicit false
namespace C
open PySem PySem.Spec L2
noncomputable def Held (K:PySem.W.Frag) (u:Value) (t:T):Prop:=∃ v,RelV v u∧∀ S as,Rep K S as v t
noncomputable def Gd (K:PySem.W.Frag) (us:List Value) (ts:List T):Prop:=∃ vs,Vals vs us∧∀ S as,vq K S as vs ts
noncomputable section
variable {K:PySem.W.Frag}
theorem Held.int {i:Int} {tk:Tok}:Held K (.int i tk) (.int i):=⟨.int i,⟨tk,rfl⟩,fun _ _=>.int i⟩
theorem Held.str {x:Str} {tk:Tok}:Held K (.str x tk) (.str x):=⟨.str x,⟨tk,rfl⟩,fun _ _=>.str x⟩
theorem Held.bl {b:Bool}:Held K (.bool b) (.bl b):=⟨.bl b,rfl,fun _ _=>.bl b⟩
theorem Held.non:Held K .none .non:=⟨.non,rfl,fun _ _=>.non⟩
theorem Gd.nil:Gd K [] []:=⟨[],.nil,fun _ _=>.nil⟩
theorem Gd.cons {u:Value} {t:T} {us:List Value} {ts:List T} (h:Held K u t) (hs:Gd K us ts):Gd K (u::us) (t::ts):=by
  obtain ⟨v,r,e⟩:=h
  obtain ⟨vs,rs,es⟩:=hs
  exact ⟨v::vs,.cons r rs,fun S as=>.cons (e S as) (es S as)⟩
theorem Held.tup {a:Addr} {us:List Value} {n:Nat} {sl:Array (Option Value)} {ts:List T} (h:K.lookup a=some ⟨.type "tuple",none,.seq us.toArray n,sl⟩) (hz:us.length≤1000) (hs:Gd K us ts):Held K (.ref a) (.tup ts):=by
  obtain ⟨vs,rs,es⟩:=hs
  refine ⟨.ref a,rfl,fun S as=>.tup (.inr ⟨_,us.toArray,n,h,rfl,rfl,rfl,?_,?_⟩) (es S as)⟩
  · rw [List.size_toArray,sizeLine_eq]; omega
  · exact rs
theorem Held.lst {a:Addr} {us:List Value} {n:Nat} {sl:Array (Option Value)} {ts:List T} (h:K.lookup a=some ⟨.type "list",none,.seq us.toArray n,sl⟩) (hz:us.length≤1000) (hs:Gd K us ts):Held K (.ref a) (.lst ts):=by
  obtain ⟨vs,rs,es⟩:=hs
  refine ⟨.ref a,rfl,fun S as=>.lst (.inr ⟨_,us.toArray,n,h,rfl,rfl,rfl,?_,?_⟩) (es S as)⟩
  · rw [List.size_toArray,sizeLine_eq]; omega
  · exact rs
end
noncomputable section
variable {X:Cx} {B:Bas} {pos:Pos}
theorem W4 {x:Str} {t:T} (hg:Gl X x) (h:∃ u,X.mg x=some u∧Held X.K u t) (hd:(x==("__debug__" : Str))=false:=by decide):PE X (.Name x pos) (tOf X.K B (aq t)):=by
  obtain ⟨u,h,v,r,e⟩:=h
  exact J9 (v:=v) (a0c hg h r hd) e
end
end C
end
noncomputable section
set_option linter.all false
set_option maxRecDepth 100000
set_option autoImplicit false
namespace C
open PySem PySem.Spec PyProof.Rows
noncomputable section
variable {prog:Program} {w:World} {A:Around} {E:Value→Shared→Prop} {s:Shared}
end
end C
end
noncomputable section
set_option linter.all false
set_option maxRecDepth 100000
set_option maxHeartbeats 4000002
set_option autoImplicit false
namespace C
open PySem PySem.Spec PyProof.Rows
noncomputable section
variable {prog:Program} {w:World} {A:Around} {R:Result→Shared→Prop} {I:Addr} {fp wr:List Addr} {G:Array GenState→Array GenState→Prop} {n:Nat} {P:Nat→Value→Prop} {St:Nat→Shared→Prop} -- here
end
noncomputable section
variable {prog:Program} {w:World} {A:Around} {E:Value→Shared→Prop} {s:Shared}
end
end C
end
noncomputable section
set_option linter.all false
set_option maxRecDepth 100000
set_option maxHeartbeats 4000002
set_option autoImplicit false
namespace C
open PySem PySem.Spec PyProof.Rows
noncomputable section
variable {prog:Program} {w:World} {A:Around} {E:Value→Shared→Prop} {s:Shared}
end
end C
end
noncomputable section
set_option linter.all false
set_option maxRecDepth 100000
set_option maxHeartbeats 4000002
set_option autoImplicit false
namespace C
open PySem PySem.Spec PyProof.Rows
noncomputable section
variable {prog:Program} {w:World} {A:Around} {E:Value→Shared→Prop} {s:Shared}
end
end C
end
noncomputable section
set_option linter.all false
set_option maxRecDepth 100000
set_option maxHeartbeats 4000002
set_option autoImplicit false
namespace C
open PySem PySem.Spec PyProof.Rows
noncomputable section
variable {prog:Program} {w:World} {A:Around} {E:Value→Shared→Prop} {s:Shared} {I a:Addr} {i n ep:Nat} {o:Obj} {es:Array (Int × Value)} {t:SetTable} {Q:Option Value→Shared→Prop}
end
end C
end
noncomputable section
set_option linter.all false
set_option maxRecDepth 100000
set_option maxHeartbeats 4000002
set_option autoImplicit false
namespace C
open PySem PySem.Spec PyProof.Rows
noncomputable section
variable {prog:Program} {w:World} {A:Around} {E:Value→Shared→Prop} {s:Shared} {I a q:Addr} {i n ep:Nat} {o:Obj} {es:Array (Int × Value)} {t:SetTable} {Q:Option Value→Shared→Prop} {ps:List Nat}
end
end C
end
noncomputable section
set_option linter.all false
set_option maxRecDepth 100000
set_option maxHeartbeats 4000002
set_option autoImplicit false
namespace C
open PySem PySem.Spec PyProof.Rows
noncomputable section
variable {prog:Program} {w:World} {A:Around} {E:Value→Shared→Prop} {s:Shared} {I a q:Addr} {n ep:Nat} {o:Obj} {es:Array (Int × Value)} {t:SetTable} {ps:List Nat}
end
end C
end
noncomputable section
set_option linter.all false
set_option maxRecDepth 100000
set_option maxHeartbeats 4000002
set_option autoImplicit false
namespace C
open PySem PySem.Spec PyProof.Rows
noncomputable section
variable {prog:Program} {w:World} {A:Around} {E:Value→Shared→Prop} {s:Shared} {a:Addr} {o:Obj} {l:List Str}
end
end C
end
noncomputable section
set_option linter.all false
set_option maxRecDepth 100000
set_option maxHeartbeats 4000002
set_option autoImplicit false
namespace C
open PySem PySem.Spec PyProof.Rows
noncomputable section
variable {prog:Program} {w:World} {A:Around} {E:Value→Shared→Prop} {s:Shared} {a:Addr} {o:Obj} {l:List Str}
end
end C
end
noncomputable section
set_option linter.all false
set_option maxRecDepth 100000
set_option maxHeartbeats 4000002
set_option autoImplicit false
namespace C
open PySem PySem.Spec PyProof.Rows L2
noncomputable section
variable {X:Cx} {B:Bas} {e:Expr} {m1:M T} {p1 p2 p3 p4:Pos}
end
end C
end
noncomputable section
set_option linter.all false
set_option maxRecDepth 100000
set_option maxHeartbeats 4000002
set_option autoImplicit false
namespace C
open PySem PySem.Spec PyProof.Rows L2
open AutoSeq1 (wpAny_loadPart') -- here
open MeetsSeq MeetsSeq2 MeetsSeq3 -- here
noncomputable section
variable {prog:Program} {w:World} -- here
end
noncomputable section
variable {X:Cx} {pins:List (Addr × Obj)} {σ:L2.St} {H S:Hp} {s:Shared} {as:List Addr}
end
end C
end
noncomputable section
set_option linter.all false
set_option maxRecDepth 100000
set_option maxHeartbeats 4000002
set_option autoImplicit false
namespace C
open PySem PySem.Spec PyProof.Rows L2
theorem a79 {K:PySem.W.Frag} {F:Fn} {H:Hp} {a:Addr} {ns:List Int} (hS:SqL K H a (ns.map V.int)) (hE:∃ st,F [.lst (ns.map T.int)] []=some (.bl true,st)):spF K 1 F [.ref a] H (fun v _=>v=.bl true) fun _ _ _=>False:=by
  obtain ⟨st,hF⟩:=hE
  have reps:∀ (S:Hp) (l:List Int),vq K S [] (l.map V.int) (l.map T.int):=fun S l=>by
    induction l with
    | nil=>exact .nil
    | cons x l ih=>exact .cons (.int x) ih
  let S:Hp:=fun p=>if p=a then H p else none
  have sa:S a=H a:=if_pos rfl
  have sub:Same S H:=fun p u h=>by
    by_cases e:p=a
    · subst e; rw [← sa]; exact h
    · have:S p=none:=if_neg e
      rw [this] at h; cases h
  have sq:SqL K S a (ns.map V.int):=by
    rcases hS with h | h
    · refine .inl ?_
      unfold Rd at h ⊢
      rw [sa]; exact h
    · exact .inr h
  refine ⟨S,[],[],[.lst (ns.map T.int)],.bl true,st,sub,⟨rfl,.nil,fun n so e=>by simp at e⟩,.cons (.lst sq (reps S ns)) .nil,rfl,hF,fun v H' S' as' _ _ _ r=>?_⟩
  cases r
  rfl
end C
end
noncomputable section
set_option linter.all false
set_option autoImplicit false
namespace C
open PySem
end C
end
noncomputable section
set_option linter.all false
set_option autoImplicit false
namespace C
open PySem
noncomputable def abx (tbl:List (Str × Str)):T→Option T
  | .str x=>(tbl.lookup x).map .str
  | _=>none
noncomputable def Gf (lo:Int) (n:Nat):List T:=(List.range n).map fun (k:Nat)=>.int (lo+(k:Int))
noncomputable def Cj (a b:M T):M (List T):=fun s=>match a s with
  | some (.int lo,s1)=>match b s1 with
    | some (.int hi,s2)=>if lo.natAbs<lim∧hi.natAbs<lim then some (Gf lo (hi - lo).toNat,s2) else none
    | _=>none
  | _=>none
noncomputable def Bc (i:Nat) (m:M T):M T:=fun s=>if jf i s then (match m s with
  | some (.lst ys,s1)=>match s1.env[i]? with
    | some (some (.lst xs,_))=>if xs.length+ys.length<lim then some (.lst (xs++ys),s1) else none
    | _=>none
  | _=>none) else none
end C
end
noncomputable section
set_option linter.all false
set_option maxRecDepth 100000
set_option autoImplicit false
namespace C
open PySem PySem.Spec L2
inductive a7k (w:World):List DictEntry→List (Str × Str)→Prop
  | nil:a7k w [] []
  | cons {k v:Str} {t u:Tok} {h:Int} {es:List DictEntry} {tbl:List (Str × Str)}:h=hashStr w k→a7k w es tbl→a7k w ({ hash:=h,key:=.str k t,val:=.str v u } :: es) ((k,v)::tbl)
noncomputable def Za (K:PySem.W.Frag) (w:World) (a:Addr) (tbl:List (Str × Str)):Prop :=
  ∃ es ep,K.lookup a=some ⟨.type "dict",none,.dict es ep,#[]⟩∧a7k w es.toList tbl∧(tbl.map (·.1)).Nodup
theorem a7k.of {P:Program} {w:World} {es:List DictEntry} {tbl:List (Str × Str)} (h:a7k w es tbl) :
    ∃ vs:List (Key × Value),Pairs (qu P w) es vs∧vs.map (·.1)=tbl.map (fun p=>(Sum.inr p.1:Key))∧(∀ e∈es,∃ k,(qu P w).is k e.key=true∧e.hash=(qu P w).hash k) ∧
      ∀ x v,tbl.lookup x=some v→∃ tk,valueAt vs (Sum.inr x)=some (.str v tk):=by
  induction h with
  | nil=>exact ⟨[],.nil,rfl,fun e he=>(nomatch he),fun x v e=>(nomatch e)⟩
  | @cons k v t u h es tbl hh _ ih =>
    obtain ⟨vs,p,e1,e2,e3⟩:=ih
    refine ⟨(.inr k,.str v u)::vs,.cons (Ke k t) rfl p,by simp [e1],fun e he=>?_,fun x y e=>?_⟩
    · rcases List.mem_cons.mp he with rfl | he -- here
      · exact ⟨.inr k,Ke k t,hh⟩
      · exact e2 e he
    · rw [List.lookup_cons] at e
      unfold valueAt
      rw [List.find?_cons]
      by_cases hx:x=k
      · subst hx
        simp at e
        subst e
        exact ⟨u,by simp⟩
      · have h1:(x==k)=false:=beq_eq_false_iff_ne.mpr hx
        rw [h1] at e
        have h2:decide ((Sum.inr k:Key)=Sum.inr x)=false:=decide_eq_false fun z=>hx (Sum.inr.inj z).symm
        simp only [h2]
        exact e3 x y e
noncomputable section
variable {X:Cx} {B:Bas} {e:Expr} {m:M T} {pos p:Pos}
theorem a94 {x:Str} {tbl:List (Str × Str)} (hg:Gl X x) (h:∃ a,X.mg x=some (.ref a)∧Za X.K X.w a tbl) (he:PE X e (tOf X.K B m)) (hs:aa7 e) (hd:(x==("__debug__" : Str))=false:=by decide) :
    PE X (.Subscript (.Name x p) e pos) (tOf X.K B (mUn (abx tbl) m)):=by
  obtain ⟨a,hm,es,ep,hk,tb,nd⟩:=h
  obtain ⟨vs,hp,e1,e2,e3⟩:=tb.of (P:=X.prog)
  intro pins s σ H Q I hw
  obtain ⟨st,ps,S,as,R,t,st',em,q⟩:=hw
  obtain ⟨k,em1,em2⟩:=Zj em
  refine a1k PySem.F.slot_dict_getitem.lookup hs (thn ((a0c (v:=.ref a) hg hm rfl hd) pins s σ H (fun v H'=>v=.ref a∧H'=H) I ⟨rfl,rfl⟩) fun u s1 z1=>?_)
  obtain ⟨v1,H1,I1,r1,rfl,rfl⟩:=z1
  obtain rfl:u=Value.ref a:=r1
  refine thn (he pins s1 σ H1 (fun v H2=>∃ y w',v=.str y∧tbl.lookup y=some w'∧Q (.str w') H2) I1 ⟨st,ps,S,as,R,k,st',em1,fun v H2 S2 as2 R2=>?_⟩) fun iv s2 z2=>?_
  · unfold abx at em2
    split at em2
    · rename_i y
      cases hl:tbl.lookup y with
      | none=>rw [hl] at em2; cases em2
      | some w' =>
        rw [hl] at em2
        cases em2
        have top:=R2.top
        cases top
        exact ⟨y,w',rfl,hl,q _ H2 S2 as2 (R2.drop.push (.str w'))⟩
    · cases em2
  · obtain ⟨v2,H2,I2,r2,y,w',rfl,hl,hq⟩:=z2
    have dd:s2.heap.DictOf (qu X.prog X.w) a vs:=⟨_,es,ep,I2.kIn a _ hk,⟨rfl,rfl,rfl⟩,rfl,fun e he=>e2 e (Array.mem_toList_iff.mpr he),hp,by
      rw [e1]
      have:(tbl.map fun p=>(Sum.inr p.1:Key))=(tbl.map (·.1)).map Sum.inr:=by rw [List.map_map]; rfl
      rw [this]
      exact List.Pairwise.map _ (fun a b hab z=>hab (Sum.inr.inj z)) nd⟩
    obtain ⟨tk,hv⟩:=e3 y w' hl
    exact ⟨dd.typeIs,wpAny_getItem_of (Sd (k:=.inr y) r2) dd.mapOf hv ⟨.str w',H2,I2.tok _,⟨tk,rfl⟩,hq⟩⟩
end
end C
end
noncomputable section
set_option linter.all false
set_option autoImplicit false
namespace C
open PySem
end C
end
noncomputable section
set_option linter.all false
set_option autoImplicit false
namespace C
open PySem
noncomputable def keysOf:List T→Option (List Key)
  | []=>some []
  | t::r=>match keyOf t,keysOf r with
    | some k,some q=>some (k::q)
    | _,_=>none
noncomputable def Dv (k:List Key):List (List Key × T)→Option T
  | []=>none
  | (q,t)::r=>if q=k then some t else Dv k r
noncomputable def Yq (k:List Key) (t:T) (kvs:List (List Key × T)):List (List Key × T) :=
  if kvs.any fun p=>decide (p.1=k) then kvs.map fun p=>if p.1=k then (p.1,t) else p else kvs++[(k,t)]
noncomputable def Uq:M T:=fun s=>some (.obj s.sto.length,{ s with sto:=s.sto++[.dit []] })
noncomputable def kh (o k:M T):M T:=fun s=>match o s with
  | some (.obj n,s1)=>match k s1 with
    | some (.tup ts,s2)=>match s2.sto[n]?,keysOf ts with
      | some (.dit kvs),some q=>match Dv q kvs with
        | some t=>some (t,s2)
        | none=>none
      | _,_=>none
    | _=>none
  | _=>none
noncomputable def Ii (o:M T) (ks:M (List T)) (v:M T):S:=fun s=>match v s with
  | some (t,s1)=>match o s1 with
    | some (.obj n,s2)=>match ks s2 with
      | some (ts,s3)=>match s3.sto[n]?,keysOf ts with
        | some (.dit kvs),some q=>if kvs.length<lim then some (.next,{ s3 with sto:=s3.sto.set n (.dit (Yq q t kvs)) }) else none
        | _,_=>none
      | none=>none
    | _=>none
  | none=>none
end C
end
noncomputable section
set_option linter.all false
set_option maxRecDepth 100000
set_option maxHeartbeats 4000002
set_option autoImplicit false
namespace C
open PySem PySem.Spec PyProof.Rows L2
theorem Qe {o k:M T} {s s':Sta} {t:T} (h:kh o k s=some (t,s')):∃ n s1 ts kvs q,o s=some (.obj n,s1)∧k s1=some (.tup ts,s')∧s'.sto[n]? = some (.dit kvs)∧keysOf ts=some q∧Dv q kvs=some t:=by
  unfold kh at h
  split at h
  · rename_i n s1 e1
    split at h
    · rename_i ts s2 e2
      split at h
      · rename_i kvs q e3 e4
        split at h
        · rename_i t' e5
          cases h
          exact ⟨n,s1,ts,kvs,q,e1,e2,e3,e4,e5⟩
        · cases h
      · cases h
    · cases h
  · cases h
theorem Uu {o:M T} {ks:M (List T)} {v:M T} {s s':Sta} {fl:Flow} (h:Ii o ks v s=some (fl,s')) :
    ∃ t s1 n s2 ts s3 kvs q,v s=some (t,s1)∧o s1=some (.obj n,s2)∧ks s2=some (ts,s3)∧s3.sto[n]? = some (.dit kvs)∧keysOf ts=some q∧kvs.length<lim∧fl=.next∧s' = { s3 with sto:=s3.sto.set n (.dit (Yq q t kvs)) }:=by
  unfold Ii at h
  split at h
  · rename_i t s1 e1
    split at h
    · rename_i n s2 e2
      split at h
      · rename_i ts s3 e3
        split at h
        · rename_i kvs q e4 e5
          split at h
          · rename_i hl
            cases h
            exact ⟨t,s1,n,s2,ts,s3,kvs,q,e1,e2,e3,e4,e5,hl,rfl,rfl⟩
          · cases h
        · cases h
      · cases h
    · cases h
  · cases h
noncomputable section
variable {K:PySem.W.Frag} {S:Hp} {as:List Addr}
theorem Z2:∀ {ts:List T} {vs:List V} {q:List L2.Key},vq K S as vs ts→keysOf ts=some q→vs=q.map kV
  | [],_,_,h0,h=>by cases h0; cases h; rfl
  | t::r,_,q,h0,h=>by
    cases h0 with | cons a b=>?_
    simp only [keysOf] at h
    cases e1:keyOf t with
    | none=>rw [e1] at h; cases h
    | some k =>
      cases e2:keysOf r with
      | none=>rw [e1,e2] at h; cases h
      | some qs =>
        rw [e1,e2] at h
        cases h
        rw [T9 a e1,Z2 b e2,List.map_cons]
theorem Nb.get (k:List L2.Key):∀ {vs:List (List L2.Key × V)} {ts:List (List L2.Key × T)} {t:T},Nb K S as vs ts→Dv k ts=some t→∃ z,Ls vs k=some z∧Rep K S as z t
  | _,[],_,h0,h=>by cases h
  | _,(q,_)::_,t,h0,h=>by
    cases h0 with | cons a b=>?_
    unfold Dv at h
    by_cases e:q=k
    · rw [if_pos e] at h; cases h
      exact ⟨_,Hq e,a⟩
    · rw [if_neg e] at h
      obtain ⟨z,h1,h2⟩:=Nb.get k b h
      exact ⟨z,by rw [Gz e]; exact h1,h2⟩
theorem Nb.put {k:List L2.Key} {v:V} {t:T} (r:Rep K S as v t) {vs:List (List L2.Key × V)} {ts:List (List L2.Key × T)} (h:Nb K S as vs ts):Nb K S as (putK vs k v) (Yq k t ts):=by
  have any:∀ {vs:List (List L2.Key × V)} {ts:List (List L2.Key × T)},Nb K S as vs ts→(vs.any fun kv=>decide (kv.1=k))=(ts.any fun p=>decide (p.1=k)):=by
    intro vs ts h
    induction vs generalizing ts with
    | nil=>cases h; rfl
    | cons p r ih=>cases h with | cons h1 h2=>rw [List.any_cons,List.any_cons,ih h2]
  have mp:∀ {vs:List (List L2.Key × V)} {ts:List (List L2.Key × T)},Nb K S as vs ts→Nb K S as (vs.map fun kv=>if kv.1=k then (kv.1,v) else kv) (ts.map fun p=>if p.1=k then (p.1,t) else p):=by
    intro vs ts h
    induction vs generalizing ts with
    | nil=>cases h; exact .nil
    | cons p rr ih =>
      cases h with
      | @cons q v0 t0 _ _ h1 h2 =>
        rw [List.map_cons,List.map_cons]
        by_cases e:q=k
        · rw [if_pos e,if_pos e]; exact .cons r (ih h2)
        · rw [if_neg e,if_neg e]; exact .cons h1 (ih h2)
  have ap:∀ {vs:List (List L2.Key × V)} {ts:List (List L2.Key × T)},Nb K S as vs ts→Nb K S as (vs++[(k,v)]) (ts++[(k,t)]):=by
    intro vs ts h
    induction vs generalizing ts with
    | nil=>cases h; exact .cons r .nil
    | cons p rr ih=>cases h with | cons h1 h2=>exact .cons h1 (ih h2)
  unfold putK Yq
  rw [any h]
  split
  · exact mp h
  · exact ap h
end
noncomputable section
variable {X:Cx} {pins:List (Addr × Obj)} {σ:L2.St} {H:Hp} {s:Shared} {a b:Addr} {u:Value} {v:V} {A:Around} {E:Value→Shared→Prop}
theorem a9u {ks:List L2.Key} (I:Inv X pins σ H s) (e:SqT X.K H b (ks.map kV)):(tupleKind (qu X.prog X.w)).is s.heap ks b:=by
  obtain ⟨its,r,⟨o,h1,h2,n,h3⟩,_⟩:=I.tuple e
  exact ⟨o,its.toArray,n,h1,h2,h3,by simpa using Jp r⟩
theorem Xv {Q:Value→Shared→Prop} {kvs:List (List L2.Key × V)} {k:List L2.Key} (hu:A.units+1<cLine) (I:Inv X pins σ H s) (e:Rd H a (.dT kvs)) (eb:SqT X.K H b (k.map kV)) (l:Ls kvs k=some v) (h:∀ w' s',Inv X pins σ H s'→RelV v w'→Q w' s') :
    wpAny (model X.prog X.w) A (getItem (.ref a) (.ref b)) Q E s:=by
  obtain ⟨z,hd,xs,rel,dd⟩:=Ox I.hok e
  obtain ⟨w',hw,rw'⟩:=Px.some_of (v:=v) (o:=(atKey xs k).map (·.2)) (by rw [← l]; exact rel.val k)
  obtain ⟨p,hp,hp2⟩:=Option.map_eq_some_iff.mp hw
  refine wpAny_getItem_heap (tupleKind_room_in1 hu) (a9u I eb) dd hp ?_
  rw [hp2]
  exact h w' _ (I.tok _) rw'
end
noncomputable section
variable {X:Cx} {B:Bas} {o k e:Expr} {es:List Expr} {mo mk mv:M T} {ms:M (List T)} {td ty:TE} {i:Expr} {pos pos' p2:Pos} {j:Nat}
theorem a4a (hu:X.A.units+1<cLine) (ho:PE X o td) (hi:PE X i ty) (hs:aa7 i) :
    PE X (.Subscript o i pos) (fun σ H Q=>td σ H fun x H1=>ty σ H1 fun y H2=>∃ a b v kvs q,x=.ref a∧y=.ref b∧Rd H2 a (.dT kvs)∧SqT X.K H2 b (q.map kV)∧Ls kvs q=some v∧Q v H2):=by
  intro pins s σ H Q I h
  refine a1k PySem.F.slot_dict_getitem.lookup hs (thn (ho pins s σ H _ I h) fun u s1 z1=>?_)
  obtain ⟨x,H1,I1,rx,q1⟩:=z1
  refine thn (hi pins s1 σ H1 _ I1 q1) fun iv s2 z2=>?_
  obtain ⟨y,H2,I2,ry,a,b,v,kvs,q,ex,ey,g1,g2,g3,q2⟩:=z2
  subst ex
  subst ey
  obtain rfl:u=Value.ref a:=rx
  obtain rfl:iv=Value.ref b:=ry
  refine ⟨?_,Xv hu I2 g1 g2 g3 fun w' s3 I3 rw'=>⟨v,H2,I3,rw',q2⟩⟩
  obtain ⟨_,_,xs,_,dd⟩:=Ox I2.hok g1
  exact dd.typeIs
theorem a0k:PE X (.Dict [] [] pos) (tOf X.K B Uq):=a4b.imp fun σ H Q z9=>by
  obtain ⟨st,ps,S,as,R,t,st',e,q⟩:=z9
  cases e
  intro p hp
  exact q _ _ _ _ (R.newObj hp ⟨[],jj,.nil⟩)
theorem zj (hu:X.A.units+1<cLine) (ho:PE X o (tOf X.K B mo)) (hk:PE X k (tOf X.K B mk)) (hs:aa7 k):PE X (.Subscript o k pos) (tOf X.K B (kh mo mk)):=(a4a hu ho hk hs).imp fun σ H Q z9=>by
  obtain ⟨st,ps,S,as,R,t,st',e,q⟩:=z9
  obtain ⟨n,s1,ts,kvs,qk,e1,e2,e3,e4,e5⟩:=Qe e
  refine ⟨st,ps,S,as,R,_,s1,e1,fun v H1 S1 as1 R1=>⟨s1,_,S1,as1,R1,_,st',e2,fun u H2 S2 as2 R2=>?_⟩⟩
  have t2:=R2.top2
  have t1:=R2.top
  cases t2 with
  | @obj _ a ha =>
    obtain ⟨a',h1,h2,vs,h3,h4⟩:=R2.sto.at' n _ e3
    rw [ha] at h1; cases h1
    cases t1 with
    | @tup b us _ g1 g2 =>
      have ey:=Z2 g2 e4
      subst ey
      obtain ⟨z,z1,z2⟩:=h4.get qk e5
      exact ⟨a,b,z,vs,qk,rfl,rfl,.inl h3,ou R2.sub g1,z1,q z H2 S2 as2 (R2.drop.drop.push z2)⟩
theorem a1s (hu:X.A.units+1<cLine) (ho:PE X o (tOf X.K B mo)) (hk:PA X es (aOf X.K B ms)) (hm:∀ st ts st',ms st=some (ts,st')→ts.length≤1000) (hv:PE X e (tOf X.K B mv)) (hs:swapsWith e (some (.Subscript o (.Tuple es j p2) pos')) pos.line X.env=pure false) :
    PS X (.Assign [.Subscript o (.Tuple es j p2) pos'] e pos) (sOf X.K B (Ii mo ms mv)):=(Ym hu ho (a4n hk) hv hs).imp fun D σ H z9=>by
  obtain ⟨st,ps,S,as,R,fl,st',e,q⟩:=z9
  obtain ⟨t,s1,n,s2,ts,s3,kvs,qk,e1,e2,e3,e4,e5,hl,rfl,rfl⟩:=Uu e
  refine ⟨st,ps,S,as,R,t,s1,e1,fun v H1 S1 as1 R1=>⟨s1,_,S1,as1,R1,_,s2,e2,fun x H2 S2 as2 R2=>⟨s2,_,S2,as2,R2,ts,s3,e3,fun us H3 S3 as3 R3 rs=>⟨?_,fun p hp=>?_⟩⟩⟩⟩
  · rw [rs.length]; exact Nat.le_of_lt (Hs (hm _ _ _ e3))
  · have x:=Ext.laid R3.sub hp (.tup us)
    have R4:=R3.ext x
    have t2:=R4.top
    have tv:Rep X.K _ as3 v t:=R4.pend _ (List.mem_cons_of_mem _ List.mem_cons_self)
    cases t2 with
    | @obj _ a ha =>
      obtain ⟨a',h1,h2,vs,h3,h4⟩:=R4.sto.at' n _ e4
      rw [ha] at h1; cases h1
      have ey:=Z2 rs e5
      subst ey
      refine ⟨a,_,rfl,a5t.t h3 jj (by rw [h4.length]; exact Nat.lt_of_lt_of_le hl u5),q _ _ _ as3 (R4.drop.drop.a81 e4 ha ⟨_,jj,h4.put tv⟩)⟩
end
end C
end
noncomputable section
set_option linter.all false
set_option autoImplicit false
namespace C
open PySem PySem.W PyProof.Rows
noncomputable def K9 {α:Type} (lt:Nat→Nat→Bool):KasT α→α
  | .ret a=>a
  | .ask i j k=>K9 lt (k (lt i j))
noncomputable def Dr {α:Type} (n:Nat):KasT α→Bool
  | .ret _=>true
  | .ask i j k=>decide (i<n)&&decide (j<n)&&decide (i≠j)&&Dr n (k true)&&Dr n (k false)
noncomputable def firsts:List T→Option (List Str)
  | []=>some []
  | .tup (.str x::_)::r=>(firsts r).map (x :: ·)
  | _=>none
noncomputable def ltS (l:List Str) (i j:Nat):Bool:=decide ((l.getD i "").cps.toList<(l.getD j "").cps.toList)
noncomputable def order (l:List Str):List Nat:=if l.length<2 then List.range l.length else (K9 (ltS l) (kas_sort l.length)).toList
noncomputable def Ck:List T→Option T
  | [.lst ts]=>match firsts ts with
    | some l=>if l.length≤3∧l.Nodup then some (.lst ((order l).map fun i=>ts.getD i .non)) else none
    | none=>none
  | _=>none
noncomputable def X6:T→T→Option T
  | .lst x,.lst y=>if x.length+y.length<lim then some (.lst (x++y)) else none
  | _,_=>none
noncomputable def aa3 (lo hi:Option Int):T→Option T
  | .tup xs=>some (.tup (a4c xs lo hi))
  | _=>none
noncomputable def Gh (m:M T) (lo hi:M (Option Int)):M T:=fun s=>match m s with
  | some (t,s1)=>match lo s1 with
    | some (l,s2)=>match hi s2 with
      | some (h,s3)=>match aa3 l h t with
        | some u=>some (u,s3)
        | none=>none
      | none=>none
    | none=>none
  | none=>none
noncomputable def Mu (i:Nat):M T:=fun s=>match s.env[i]? with
  | some (some (.lst _,true))=>some (.bl true,s)
  | _=>none
noncomputable def Mx (i:Nat) (m:M T):M T:=fun s=>if jf i s then (match m s with
  | some (u,s1)=>match s1.env[i]? with
    | some (some (.lst xs,true))=>match neO (.lst xs) u with
      | some w=>some (w,s1)
      | none=>none
    | _=>none
  | none=>none) else none
end C
end
noncomputable section
set_option linter.all false
set_option maxRecDepth 100000
set_option maxHeartbeats 4000002
set_option autoImplicit false
namespace C
open PySem PySem.Spec PyProof.Rows L2
theorem Xc {i:Nat} {s s':Sta} {t:T} (h:Mu i s=some (t,s')):∃ xs,s.env[i]? = some (some (.lst xs,true))∧t=.bl true∧s'=s:=by
  unfold Mu at h
  split at h
  · rename_i xs e; cases h; exact ⟨xs,e,rfl,rfl⟩
  · cases h
theorem Xe {i:Nat} {m:M T} {s s':Sta} {t:T} (h:Mx i m s=some (t,s')):jf i s=true∧∃ u xs,m s=some (u,s')∧s'.env[i]? = some (some (.lst xs,true))∧neO (.lst xs) u=some t:=by
  unfold Mx at h
  split at h
  · rename_i hl
    split at h
    · rename_i u s1 e1
      split at h
      · rename_i xs e2
        split at h
        · rename_i w e3; cases h; exact ⟨hl,u,xs,e1,e2,e3⟩
        · cases h
      · cases h
    · cases h
  · cases h
theorem a9m {t u w:T} (h:neO t u=some w):∃ b,w=.bl b:=by
  unfold neO at h
  split at h
  · cases h; exact ⟨_,rfl⟩
  · cases h
theorem O6.rep {K:PySem.W.Frag} {B:Bas} {S H:Hp} {as:List Addr} {p:Addr} {xs:List T} (o:O6 K B S as H p (.lst xs)) (sub:Same S H):∃ S2,Same S S2∧Same S2 H∧Rep K S2 as (.ref p) (.lst xs):=by
  obtain ⟨vs,hH,r⟩:=o.own
  have s1:Same S (upd S p (.lst vs)):=Same.upd o.out _
  refine ⟨upd S p (.lst vs),s1,fun b u e=>?_,.lst (SqL.of jj) (r.mono s1 nol)⟩
  by_cases h:b=p
  · subst h; rw [jj] at e; cases e; exact hH
  · rw [nj h] at e; exact sub _ _ e
noncomputable section
variable {X:Cx} {B:Bas} {a b c e:Expr} {m:M T} {pos p:Pos} {u v:S}
theorem a2i (i:Nat) (ho:OpT X (compareOp .NotEq) neO) (hi:PE X a (W3 i)) (hb:PE X b (tOf X.K B m)) (hm:behindInMarks .NotEq b=false):PT X (.Compare a [.NotEq] [b] pos) (cOf X.K B (gq (Mx i m))) :=
  Ij ((Z8 ho hi hb hm).imp fun σ H Q z9=>by
    obtain ⟨st,ps,S,as,R,t,st',e,q⟩:=z9
    obtain ⟨hl,u,xs,e1,e2,e3⟩:=Xe e
    obtain ⟨xs0,f0,e0⟩:=Ep hl
    obtain ⟨p0,v0,s0,_,_⟩:=R.listAt e0
    refine ⟨_,s0,st,ps,S,as,R,u,st',e1,fun y H2 S2 as2 R2=>?_⟩
    obtain ⟨w,h1,_,h3⟩:=R2.slots i _ true e2
    rw [s0] at h1; cases h1
    obtain ⟨p',ep,ow⟩:=h3 rfl
    cases ep
    obtain ⟨S3,z1,z2,z3⟩:=ow.rep R2.sub
    obtain ⟨b,rfl⟩:=a9m e3
    refine ⟨S3,as2,_,u,.bl b,z2,z3,R2.top.mono z1 nol,e3,fun v H' S' x r=>?_⟩
    cases r
    have x2:Ext S2 H2 S2 H':=⟨Same.refl _,x.h,R2.sub.trans x.h,fun _ q=>.inl q⟩
    exact q _ _ _ _ ((R2.ext x2).drop.push (.bl b)))
theorem a4e (i:Nat) {pc:Pos} (hg:Gl X "isinstance") (hm:X.mg "isinstance" = none) (hg2:Gl X "list") (hm2:X.mg "list" = none) (hi:PE X a (W3 i))
    (he:starEach [a,.Name "list" pc] X.env=(false,eval a X.env)::starEach [.Name "list" pc] X.env:=by rfl) (he2:starEach [.Name "list" pc] X.env=(false,eval (.Name "list" pc) X.env)::starEach [] X.env:=by rfl)
    (hpl:(backTo pos (starEach [.Name "list" pc] X.env)).any (·.1)=false:=by rfl) :
    PE X (.Call (.Name "isinstance" p) [a,.Name "list" pc] [] pos) (tOf X.K B (Mu i)):=by
  have hc:Dz X (.builtin "isinstance") (fun xs H Q=>∃ S as x ts,xs=[x,.ty "list"]∧Same S H∧Rep X.K S as x (.lst ts)∧Q (.bl true) H):=by
    intro pins s σ H xs us Q I rs z8
    obtain ⟨S,as,x,ts,ex,sub,r,q⟩:=z8
    subst ex
    obtain ⟨u,w,rfl,r1,r2⟩:=rs.two
    cases r2
    exact a8d I sub r1 r rfl (by rfl) fun tk=>⟨.bl true,H,I.tok _,rfl,q⟩
  have hnm:PE X (.Name "list" pc) (tC (.ty "list")):=a6i hg2 hm2 boot_list rfl (by decide) (by decide)
  refine (yt hc hg hm PyProof.Rows.boot_isinstance (qw hi (qw hnm w6 he2) he) (by decide) (by decide) he hpl).imp fun σ H Q z0=>?_
  obtain ⟨st,ps,S,as,R,t,st',e,q⟩:=z0
  obtain ⟨xs,e1,rfl,rfl⟩:=Xc e
  obtain ⟨w,h1,_,h3⟩:=R.slots i _ true e1
  obtain ⟨p',rfl,ow⟩:=h3 rfl
  obtain ⟨S3,z1,z2,z3⟩:=ow.rep R.sub
  exact ⟨_,h1,S3,as,_,xs,rfl,z2,z3,q _ H S as (R.push (.bl true))⟩
theorem a75 {m1 m2:M T} (h1:PE X a (tOf X.K B m1)) (h2:PE X b (tOf X.K B m2)):PE X (.BinOp a .Add b pos) (fOf X.K B (mOp X6 m1 m2)):=(a5u Sy h1 h2).imp fun σ H Q z9=>by
  obtain ⟨st,ps,S,as,R,t,st',ev,q⟩:=z9
  obtain ⟨t1,s1,t2,e1,e2,e3⟩:=Pn ev
  refine ⟨st,ps,S,as,R,t1,s1,e1,fun v H1 S1 as1 R1=>⟨s1,_,S1,as1,R1,t2,st',e2,fun u H2 S2 as2 R2=>?_⟩⟩
  have tq:=R2.top2
  have tp:=R2.top
  cases tq <;> simp only [X6,reduceCtorEq] at e3
  cases tp <;> simp only [reduceCtorEq] at e3
  rename_i b1 vs1 ts1 g1 r1 b2 vs2 ts2 g2 r2
  split at e3
  · rename_i hl
    cases e3
    refine ⟨b1,b2,vs1,vs2,rfl,rfl,qm R2.sub g1,qm R2.sub g2,?_,fun l hl2=>?_⟩
    · rw [r1.length,r2.length]; exact Nat.le_trans (Nat.le_of_lt hl) u5
    · obtain ⟨bD,sD,nD,no⟩:=R2.fresh hl2
      exact q l _ S2 as2 (R2.drop.drop.a7b bD sD nD (fun j w e1 e2=>no j w e1 e2)) ⟨⟨vs1++vs2,jj,r1.append r2⟩,sD,nD,bD⟩ (fun j w e1 e2=>no j w e1 e2)
  · cases e3
theorem a4r {c1:M Bool} {sa rest:List Stmt} (hc:PT X c (cOf X.K B c1)) (ha:PSs X sa (a4i X.K B u)) (hr:PSs X rest (a4i X.K B v)):PSs X (.If c sa [] pos::rest) (a4i X.K B (sIf c1 u v)) :=
  (Np (a9p hc ha Yn) hr).imp fun D σ H z9=>by
    obtain ⟨st,ps,S,as,R,t,st',e,q⟩:=z9
    rcases Td e with ⟨s1,e1,e2⟩ | ⟨s1,e1,e2⟩
    · exact ⟨st,ps,S,as,R,true,s1,e1,fun H1 S1 as1 R1=>a7r ⟨s1,ps,S1,as1,R1,t,st',e2,q⟩⟩
    · exact ⟨st,ps,S,as,R,false,s1,e1,fun H1 S1 as1 R1=>a7m ⟨s1,ps,S1,as1,R1,t,st',e2,q⟩⟩
theorem a1h {c1:M Bool} (h1:Q7 u) (h2:Q7 v):Q7 (sIf c1 u v):=fun s s' e=>by
  rcases Td e with ⟨s1,_,e2⟩ | ⟨s1,_,e2⟩
  · exact h1 _ _ e2
  · exact h2 _ _ e2
end
end C
end
noncomputable section
set_option linter.all false
set_option maxRecDepth 100000
set_option maxHeartbeats 4000002
namespace HT
open PySem PyProof.Rows
noncomputable section
variable {prog:Program} {w:World} {A:Around} {E:Value→Shared→Prop} {s:Shared}
theorem Gj {t sl:Addr} {items:Array Value} {vl vu:Value} {lo hi:Option Int} {Q:Value→Shared→Prop} (ht:IsTup s.heap t items) (hs:s.heap.IsSliceOf sl vl vu .none) (pl:IsPart vl lo) (pu:IsPart vu hi)
    (hw:sIx items.size 0 lo=0∧sIx items.size items.size hi=items.size) (h:Q (.ref t) s):wpAny (model prog w) A (getItem (.ref t) (.ref sl)) Q E s:=by
  obtain ⟨os,hos,hcs,hds⟩:=id hs
  have hTs:s.TypeIs (.ref sl) "slice" := ⟨os,hos,hcs⟩
  unfold getItem
  try with_reducible refine wpAny_holding ?_
  first | refine wpAny_bind (wpAny_pure ?_) | skip
  refine wpAny_bind (wpAny_sequenceKey ht.typeIs (by decide) ?_)
  refine wpAny_bind (wpAny_callSpecial?_slot (name:=Str.ofString "__getitem__") ht.typeIs PyProof.Rows.slot_tuple_getitem
    (wpAny_call_entry PyProof.Rows.slot_tuple_getitem ht.typeIs entry_tuple_getitem ?_ (args_tuple_getitem _ _)))
  show wpAny _ _ (Builtin.Tuple.tupleItemsOf (.ref t) >>= _) _ _ s
  refine wpAny_bind (tupleItemsOf_ ht ?_)
  refine wpAny_bind (wpAny_typeOf hTs ?_)
  rw [if_pos (by decide)]
  refine wpAny_bind (Du hs pl pu ?_)
  have hyes:(((sIx items.size 0 lo:Nat):Int)==0&&(1:Int)==1&&(sIx items.size items.size hi - sIx items.size 0 lo)==items.size)=true:=by
    rw [hw.1,hw.2]; simp
  show wpAny _ _ (if (((sIx items.size 0 lo:Nat):Int)==0&&(1:Int)==1&&(sIx items.size items.size hi - sIx items.size 0 lo)==items.size)=true then _ else _) _ _ s
  rw [if_pos hyes]
  refine wpAny_bind (wpAny_bind (wpAny_typeOf ht.typeIs (wpAny_pure ?_)))
  rw [if_pos (by decide)]
  exact wpAny_bind (wpAny_rule (wpAny_bind (wpAny_pure (wpAny_pure ⟨_,rfl,wpAny_pure h⟩))))
end
end HT
namespace C
open PySem PySem.Spec PyProof.Rows L2
noncomputable section
variable {X:Cx} {B:Bas} {a:Expr} {m:M T} {ml mh:M (Option Int)} {lo hi:Option Expr} {pos p2:Pos}
noncomputable def ad8 (K:PySem.W.Frag):V→Option Int→Option Int→Hp→VK→Prop:=fun x lo hi H Q=>∃ a xs,x=.ref a∧SqT K H a xs ∧
  (HT.sIx xs.length 0 lo=0∧HT.sIx xs.length xs.length hi=xs.length)∧Q x H
theorem a77:SlR X (ad8 X.K):=by
  intro pins s σ H x v vl vu lo hi sl Q I rx hs pl pu h
  obtain ⟨a,xs,rfl,hx,hw,q⟩:=h
  cases rx
  obtain ⟨its,r,ht,hz⟩:=I.tuple hx
  have hlen:its.toArray.size=xs.length:=by rw [List.size_toArray]; exact r.length.symm
  refine ⟨"tuple",_,PyProof.Rows.slot_tuple_getitem.lookup,ht.typeIs,?_⟩
  exact HT.Gj ht hs pl pu (by rw [hlen]; exact hw) ⟨.ref a,H,I,rfl,q⟩
theorem V3 {s s':Sta} {v:T} (h:Gh m ml mh s=some (v,s')):∃ t s1 l s2 u,m s=some (t,s1)∧ml s1=some (l,s2)∧mh s2=some (u,s')∧aa3 l u t=some v:=by
  unfold Gh at h
  split at h
  · rename_i t s1 e1
    split at h
    · rename_i l s2 e2
      split at h
      · rename_i u s3 e3
        split at h
        · rename_i w e4; cases h; exact ⟨t,s1,l,s2,u,e1,e2,e3,e4⟩
        · cases h
      · cases h
    · cases h
  · cases h
theorem Py (ha:PE X a (tOf X.K B m)) (hl:PO X lo (oOf X.K B ml)) (hh:PO X hi (oOf X.K B mh)):PE X (.Subscript a (.Slice lo hi none p2) pos) (tOf X.K B (Gh m ml mh)) :=
  (a3d (a8i.or a77) ha hl hh).imp fun σ H Q z9=>by
    obtain ⟨st,ps,S,as,R,t,st',e,q⟩:=z9
    obtain ⟨t1,s1,l,s2,u,e1,e2,e3,e4⟩:=V3 e
    refine ⟨st,ps,S,as,R,t1,s1,e1,fun v H1 S1 as1 R1=>⟨s1,_,S1,as1,R1,l,s2,e2,fun H2 S2 as2 R2=>⟨s2,_,S2,as2,R2,u,st',e3,fun H3 S3 as3 R3=>?_⟩⟩⟩
    have top:=R3.top
    cases top with
    | @tup b vs ts g1 g2 =>
      simp only [aa3] at e4
      cases e4
      by_cases hw:HT.sIx vs.length 0 l=0∧HT.sIx vs.length vs.length u=vs.length
      · refine .inr ⟨b,vs,rfl,ou R3.sub g1,hw,?_⟩
        have ec:a4c ts l u=ts:=by
          unfold a4c
          rw [V8,V8,← g2.length,hw.1,hw.2,List.drop_zero,Nat.sub_zero,g2.length,List.take_length]
        exact q _ _ _ _ (R3.drop.push (by rw [ec]; exact R3.top))
      · refine .inl ⟨b,vs,rfl,ou R3.sub g1,hw,fun p hp=>?_⟩
        have x:=Ext.laid R3.sub hp (.tup (a6b vs l u))
        exact q _ _ _ _ ((R3.drop.ext x).push (.tup (SqT.of jj) ((a2k g2 l u).mono x.s nol)))
    | _=>simp only [aa3,reduceCtorEq] at e4
end
end C
end
noncomputable section
set_option linter.all false
set_option maxRecDepth 100000
set_option maxHeartbeats 4000002
set_option autoImplicit false
namespace C
open PySem PySem.W PySem.Spec PyProof.Rows L2
theorem Yw {α:Type} {cmp:Nat→Nat→(Bool→Shared→Prop)→Shared→Prop} {lt:Nat→Nat→Bool} {n:Nat} {s:Shared} (h:∀ i j C,i<n→j<n→i≠j→C (lt i j) s→cmp i j C s) :
    ∀ (t:KasT α) {Q:α→Shared→Prop},Dr n t=true→Q (K9 lt t) s→t.kasWp cmp Q s
  | .ret a,Q,_,q=>q
  | .ask i j k,Q,hb,q=>by
    simp only [Dr,Bool.and_eq_true,decide_eq_true_eq] at hb
    obtain ⟨⟨⟨⟨h1,h2⟩,h3⟩,h4⟩,h5⟩:=hb
    refine h i j _ h1 h2 h3 (Yw h (k (lt i j)) ?_ q)
    cases lt i j
    · exact h5
    · exact h4
inductive Qp (h:Heap):List Value→List Str→Prop where
  | nil:Qp h [] []
  | cons {a:Addr} {o:Obj} {xs:List Value} {n:Nat} {x:Str} {t:Tok} {vs:List Value} {l:List Str}:h.get? a=some o→o.cls=.type "tuple" → o.data=.seq (Value.str x t::xs).toArray n→Qp h vs l→Qp h (.ref a::vs) (x::l)
theorem Qp.mono {h h':Heap} (k:∀ b o,h.get? b=some o→h'.get? b=some o):∀ {vs:List Value} {l:List Str},Qp h vs l→Qp h' vs l:=by
  intro vs l z
  induction z with
  | nil=>exact .nil
  | cons a b c _ ih=>exact .cons (k _ _ a) b c ih
theorem Qp.length {h:Heap}:∀ {vs:List Value} {l:List Str},Qp h vs l→vs.length=l.length
  | _,_,.nil=>rfl
  | _,_,.cons _ _ _ r=>congrArg (· + 1) r.length
theorem Qp.get {h:Heap}:∀ {vs:List Value} {l:List Str} (i:Nat),Qp h vs l→i<l.length→∃ a o xs n t,vs.getD i Value.none=.ref a∧h.get? a=some o∧o.data=.seq (Value.str (l.getD i "") t::xs).toArray n
  | _,_,_,.nil,hi=>absurd hi (Nat.not_lt_zero _)
  | _,_,0,.cons a b c r,_=>⟨_,_,_,_,_,rfl,a,c⟩
  | _,_,i+1,.cons a b c r,hi=>by
    obtain ⟨a,o,xs,n,t,e1,e2,e3⟩:=r.get i (Nat.lt_of_succ_lt_succ hi)
    exact ⟨a,o,xs,n,t,by simpa using e1,e2,by simpa using e3⟩
theorem Qp.kat {M:Model} {h:Heap}:∀ {vs:List Value} {l:List Str},Qp h vs l→∃ fs:List Value,KatTups h vs fs∧fs.length=l.length∧∀ v∈fs,Looks M h (typeOf v) (Value.type "str")
  | _,_,.nil=>⟨[],.nil,rfl,fun v hv=>nomatch hv⟩
  | _,_,.cons a b c r=>by
    obtain ⟨fs,h1,h2,h3⟩:=r.kat (M:=M)
    refine ⟨_::fs,.cons a b c (by simp; rfl) h1,congrArg (· + 1) h2,fun v hv=>?_⟩
    rcases List.mem_cons.mp hv with rfl | hv -- here
    · exact Looks.now
    · exact h3 v hv
noncomputable section
variable {prog:Program} {w:World} {A:Around} {E:Value→Shared→Prop} {s:Shared}
theorem a2j {vs:List Value} {l:List Str} (T:Qp s.heap vs l) (nd:l.Nodup) (i j:Nat) (C:Bool→Shared→Prop) (hi:i<l.length) (hj:j<l.length) (ne:i≠j) (h:C (ltS l i j) s):kas_ask prog w A (tuples' true) vs i j C s:=by
  obtain ⟨a,o,xs,n,t,e1,e2,e3⟩:=T.get i hi
  obtain ⟨b,p,ys,m,u,f1,f2,f3⟩:=T.get j hj
  unfold kas_ask
  rw [e1,f1]
  refine kat_lt e2 e3 f2 f3 ?_
  simp only [List.zip_cons_cons]
  refine kat_cons (eqBool_str ?_)
  have d:(l.getD i "" == l.getD j "")=false:=by
    refine beq_eq_false_iff_ne.mpr fun z=>ne ?_
    have z1:l.getD i "" = l[i]:=by simp [hi]
    have z2:l.getD j "" = l[j]:=by simp [hj]
    rw [z1,z2] at z
    exact (List.getElem_inj nd).mp z
  rw [d]
  exact kat_no (oneLt_str h)
theorem a03:Dr 2 (kas_sort 2)=true∧Dr 3 (kas_sort 3)=true:=by decide +kernel
noncomputable def outV (vs:List Value) (l:List Str):List Value:=(order l).map fun i=>vs.getD i Value.none
theorem a6j {vs:List Value} (h:vs.length<2):(vs.toArray.zip vs.toArray).map (·.2)=((List.range vs.length).map fun i=>vs.getD i Value.none).toArray:=by
  cases vs with
  | nil=>simp
  | cons v t =>
    cases t with
    | nil=>simp [List.range_succ]
    | cons _ _=>simp at h; omega
theorem Jw {h0:Heap} {a:Addr} {vs:List Value} {l:List Str} {n:Nat} {P:PySem.Fin→Shared→Prop} (ho:s.heap.get? a=some (seqObj "list" vs.toArray n)) (hk:∀ b o,h0.get? b=some o→s.heap.get? b=some o∧b≠a)
    (T:Qp h0 vs l) (nd:l.Nodup) (h3:l.length≤3) (h:P (.done (.ret .none)) { s with heap:=sortedHeap s.heap a vs (outV vs l).toArray }) :
    wpAny (model prog w) A (Builtin.«list.sort» ⟨[.ref a],[]⟩) P E s:=by -- here
  have hlen:=T.length
  rw [list_sort_plain]
  have ha:a<s.heap.objs.size:=Heap.lt_size ho -- here
  refine wpAny_bind (listItems_at ho rfl ?_) -- here
  refine wpAny_bind (listUpdate_at ho rfl ?_ (by rw [List.size_toArray,sizeLine_eq]; omega) (Nat.zero_le _)) -- here
  obtain ⟨e1,ho1⟩:∃ e1,(s.heap.update a (Obj.mapSeq fun _=>(#[]:Array Value))).get? a=some (seqObj "list" #[] e1):=⟨_,get?_update_seq ho (fun _=>#[])⟩
  refine wpAny_bind (seqEpoch_at ho1 rfl ?_) -- here
  refine wpAny_bind (wpAny_newTuple ?_ (by show vs.length≤_; rw [sizeLine_eq]; omega)) -- here
  refine wpAny_bind (wpAny_newList ?_ (Nat.zero_le _)) -- here
  refine wpAny_holding ?_
  have ho6:(((s.heap.update a (Obj.mapSeq fun _=>(#[]:Array Value))).push (seqObj "tuple" vs.toArray 0)).push (seqObj "list" #[] 0)).get? a=some (seqObj "list" #[] e1):=by
    rw [Heap.get?_push_ne _ _ _ (by rw [size_push',Heap.size_update]; exact Nat.ne_of_lt (Nat.lt_succ_of_lt ha)),Heap.get?_push_ne _ _ _ (by rw [Heap.size_update]; exact Nat.ne_of_lt ha)] -- here
    exact ho1
  have T6:Qp (((s.heap.update a (Obj.mapSeq fun _=>(#[]:Array Value))).push (seqObj "tuple" vs.toArray 0)).push (seqObj "list" #[] 0)) vs l:=T.mono fun b o e=>by
    obtain ⟨k1,k2⟩:=hk b o e
    refine Heap.get?_push_of_some _ (Heap.get?_push_of_some _ ?_)
    rw [Heap.get?_update_ne _ _ _ _ k2]
    exact k1
  show wpAny (model prog w) A _ P E { s with heap:=((s.heap.update a (Obj.mapSeq fun _=>(#[]:Array Value))).push (seqObj "tuple" vs.toArray 0)).push (seqObj "list" #[] 0) } -- here
  dsimp only
  by_cases h2:vs.toArray.size<2 -- here
  · rw [if_pos h2,if_pos h2]
    refine wpAny_bind (wpAny_pure ?_)
    rw [StateT.run_pure]
    refine wpAny_bind (wpAny_pure ?_)
    dsimp only
    refine wpAny_bind (seqEpoch_at ho6 rfl ?_) -- here
    have eo:(arrOf (SortSt.mk' general' (vs.toArray.zip vs.toArray) #[] 7 none)).map (·.2)=(outV vs l).toArray:=by
      rw [List.size_toArray] at h2
      have h2':l.length<2:=by omega
      unfold outV order
      rw [if_pos h2',← hlen]
      show (vs.toArray.zip vs.toArray).map (·.2)=_
      exact a6j h2
    refine wpAny_bind (listUpdate_at ho6 rfl ?_ (Nat.zero_le _) (by
      show ((arrOf (SortSt.mk' general' (vs.toArray.zip vs.toArray) #[] 7 none)).map (·.2)).size≤_
      rw [List.size_toArray] at h2
      show ((vs.toArray.zip vs.toArray).map (·.2)).size≤_
      rw [Array.size_map,Array.size_zip,List.size_toArray,sizeLine_eq]; omega))
    simp only [bne_self_eq_false,Bool.false_eq_true,if_false] -- here
    refine wpAny_pure ?_
    unfold sortedHeap at h
    rw [← eo] at h
    exact h
  · rw [if_neg h2,if_neg h2]
    rw [List.size_toArray] at h2
    obtain ⟨fs,k1,k2,k3⟩:=T6.kat (M:=model prog w)
    refine wpAny_bind (kat_kind (T:=Value.type "str") (s:={ s with heap:=((s.heap.update a (Obj.mapSeq fun _=>(#[]:Array Value))).push (seqObj "tuple" vs.toArray 0)).push (seqObj "list" #[] 0) }) k1 (by omega) k3 (by decide) ?_)
    rw [show (Value.type "str" != Value.type "tuple")=true by decide]
    have hb:Dr l.length (kas_sort vs.length)=true:=by
      have:l.length=2∨l.length=3:=by omega
      rcases this with z | z
      · rw [hlen,z]; exact a03.1
      · rw [hlen,z]; exact a03.2
    refine wpAny_bind (wpAny_mono (kat_run (Q:=fun st' s'=>∃ p:Array Nat,arrOf st'=p.map (kas_item (vs.toArray.zip vs.toArray))∧failedOf st'=none∧p=K9 (ltS l) (kas_sort vs.length)∧p.size=vs.length∧s' = { s with heap:=((s.heap.update a (Obj.mapSeq fun _=>(#[]:Array Value))).push (seqObj "tuple" vs.toArray 0)).push (seqObj "list" #[] 0) })
      (G:=fun p s'=>p=K9 (ltS l) (kas_sort vs.length)∧s' = { s with heap:=((s.heap.update a (Obj.mapSeq fun _=>(#[]:Array Value))).push (seqObj "tuple" vs.toArray 0)).push (seqObj "list" #[] 0) })
      rfl (by omega) (by omega) (fun p' st' s' a1 a2 a3 a4=>⟨p',a2,a3,a4.1,a1,a4.2⟩) (Yw (n:=l.length) (lt:=ltS l) (fun i j C hi hj ne hC=>a2j T6 nd i j C hi hj ne hC) _ hb ⟨rfl,rfl⟩)) ?_ fun _ _ e=>e)
    rintro ⟨⟨⟩,st'⟩ s' ⟨p,har,hf,hp,hz,rfl⟩
    dsimp only
    have hout:=kat_snds rfl har
    have eo:(arrOf st').map (·.2)=(outV vs l).toArray:=by
      rw [hout,hp]
      unfold outV order
      rw [if_neg (by omega),hlen]
    refine wpAny_bind (seqEpoch_at ho6 rfl ?_) -- here
    refine wpAny_bind (listUpdate_at ho6 rfl ?_ (Nat.zero_le _) (by rw [hout,List.size_toArray,List.length_map,Array.length_toList,hz,sizeLine_eq]; omega))
    rw [hf]
    simp only [bne_self_eq_false,Bool.false_eq_true,if_false] -- here
    refine wpAny_pure ?_
    unfold sortedHeap at h
    rw [← eo] at h
    exact h
theorem Rp {l:Addr} {vs:List Value} {ss:List Str} {Q:Value→Shared→Prop} (hl:s.heap.IsList l vs.toArray) (T:Qp s.heap vs ss) (nd:ss.Nodup) (h3:ss.length≤3)
    (h:Q (.ref (s.heap.objs.size+1)) { s with heap:=sortedAll s.heap vs (outV vs ss).toArray }) :
    wpAny (model prog w) A (call (.builtin "sorted") [.ref l]) Q E s:=by -- here
  have hlen:=T.length
  refine Calls.call_function_entry kind_sorted plain_sorted entry_sorted (args_sorted1 _) ?_ -- here
  unfold Builtin.«sorted»
  refine wpAny_bind (m:=checkCount "sorted" 1 1 _) (wpAny_pure ?_) -- here
  refine wpAny_bind (collect_list hl ?_ (by rw [sizeLine_eq]; omega)) -- here
  refine wpAny_bind (wpAny_newList ?_ (by rw [sizeLine_eq]; omega)) -- here
  have hsz:((s.heap.push (seqObj "list" #[] 0)).update s.heap.objs.size (Obj.mapSeq (· ++ vs.toArray))).objs.size=s.heap.objs.size+1:=by -- here
    rw [Heap.size_update,size_push'] -- here
  have hoL:(((s.heap.push (seqObj "list" #[] 0)).update s.heap.objs.size (Obj.mapSeq (· ++ vs.toArray))).push (seqObj "list" vs.toArray 0)).get? (s.heap.objs.size+1)=some (seqObj "list" vs.toArray 0):=by -- here
    rw [← hsz]; exact Heap.get?_push_size _ rfl -- here
  have keep:∀ b o,s.heap.get? b=some o→(((s.heap.push (seqObj "list" #[] 0)).update s.heap.objs.size (Obj.mapSeq (· ++ vs.toArray))).push (seqObj "list" vs.toArray 0)).get? b=some o∧b≠s.heap.objs.size+1:=fun b o q=>by
    have hlt:b<s.heap.objs.size:=Heap.lt_size q -- here
    refine ⟨?_,Nat.ne_of_lt (Nat.lt_succ_of_lt hlt)⟩
    rw [Heap.get?_push_ne _ _ _ (by rw [hsz]; exact Nat.ne_of_lt (Nat.lt_succ_of_lt hlt)),Heap.get?_update_ne _ _ _ _ (Nat.ne_of_lt hlt),Heap.get?_push_ne _ _ _ (Nat.ne_of_lt hlt)] -- here
    exact q
  show wpAny _ _ _ _ _ { s with heap:=((s.heap.push (seqObj "list" #[] 0)).update s.heap.objs.size (Obj.mapSeq (· ++ vs.toArray))).push (seqObj "list" vs.toArray 0) } -- here
  rw [hsz]
  refine wpAny_bind (wpAny_holding (wpAny_call_entry slot_list_sort ⟨_,hoL,rfl⟩ entry_list_sort (Jw (s:={ s with heap:=((s.heap.push (seqObj "list" #[] 0)).update s.heap.objs.size (Obj.mapSeq (· ++ vs.toArray))).push (seqObj "list" vs.toArray 0) }) (h0:=s.heap) hoL keep T nd h3 ⟨_,rfl,?_⟩) (args_list_sort _)))
  exact wpAny_pure ⟨_,rfl,h⟩
end
noncomputable section
variable {X:Cx} {pins:List (Addr × Obj)} {σ:L2.St} {H S:Hp} {s:Shared} {as:List Addr}
theorem a0m (I:L2.Inv X pins σ H s) (sub:Same S H):∀ {ts:List T} {vs:List V} {us:List Value} {l:List Str},vq X.K S as vs ts→Vals vs us→firsts ts=some l→Qp s.heap us l
  | [],_,_,_,h1,h2,h=>by cases h1; cases h2; cases h; exact .nil
  | t::r,_,_,l,h1,h2,h=>by
    cases h1 with | cons a b=>?_
    cases h2 with | cons c d=>?_
    cases a with
    | @tup p ws ts' g1 g2 =>
      cases g2 with
      | nil=>simp only [firsts,reduceCtorEq] at h
      | cons y1 y2 =>
        cases y1 <;> simp only [firsts,reduceCtorEq] at h
        rename_i x
        obtain ⟨l',e1,e2⟩:=Option.map_eq_some_iff.mp h
        subst e2
        cases c
        obtain ⟨its,r',⟨o,h1,h2,n,h3⟩,_⟩:=I.tuple (ou sub g1)
        cases r' with
        | cons q1 q2 =>
          obtain ⟨t,rfl⟩:=q1
          exact .cons h1 h2 h3 (a0m I sub b d e1)
    | _=>simp only [firsts,reduceCtorEq] at h
theorem a3y {ts:List T} {vs:List V} (r:vq X.K S as vs ts) (i:Nat):Rep X.K S as (vs.getD i .non) (ts.getD i .non):=by
  by_cases h:i<ts.length
  · have e:ts[i]? = some ts[i]:=List.getElem?_eq_getElem h
    obtain ⟨v,h1,h2⟩:=r.get e
    rw [List.getD_eq_getElem?_getD,List.getD_eq_getElem?_getD,e,h1]
    exact h2
  · have h':¬ i<vs.length:=by rw [r.length]; exact h
    rw [List.getD_eq_getElem?_getD,List.getD_eq_getElem?_getD,List.getElem?_eq_none (Nat.le_of_not_lt h),List.getElem?_eq_none (Nat.le_of_not_lt h')]
    exact .non
theorem W7:∀ {vs:List V} {us:List Value} (_:Vals vs us) (i:Nat),RelV (vs.getD i .non) (us.getD i Value.none)
  | _,_,.nil,i=>by simp; rfl
  | _,_,.cons a b,0=>a
  | _,_,.cons a b,i+1=>by simpa using W7 b i
theorem V9 {ts:List T} {vs:List V} (r:vq X.K S as vs ts):∀ l:List Nat,vq X.K S as (l.map fun i=>vs.getD i .non) (l.map fun i=>ts.getD i .non)
  | []=>.nil
  | i::l=>.cons (a3y r i) (V9 r l)
theorem Wf {vs:List V} {us:List Value} (r:Vals vs us):∀ l:List Nat,Vals (l.map fun i=>vs.getD i .non) (l.map fun i=>us.getD i Value.none)
  | []=>.nil
  | i::l=>.cons (W7 r i) (Wf r l)
noncomputable def N6 {α:Type} (P:α→Bool):KasT α→Bool
  | .ret a=>P a
  | .ask i j k=>N6 P (k true)&&N6 P (k false)
theorem Um {α:Type} {P:α→Bool} {lt:Nat→Nat→Bool}:∀ t:KasT α,N6 P t=true→P (K9 lt t)=true
  | .ret a,h=>h
  | .ask i j k,h=>by
    simp only [N6,Bool.and_eq_true] at h
    refine Um (k (lt i j)) ?_
    cases lt i j
    · exact h.2
    · exact h.1
theorem a4p:N6 (fun p:Array Nat=>decide (p.size≤3)) (kas_sort 2)=true∧N6 (fun p:Array Nat=>decide (p.size≤3)) (kas_sort 3)=true:=by decide +kernel
theorem a0i (l:List Str) (h:l.length≤3):(order l).length≤sizeLine:=by
  have z:(3:Nat)≤sizeLine:=by rw [sizeLine_eq]; decide
  unfold order
  split
  · rw [List.length_range]; omega
  · rename_i h2
    rw [Array.length_toList]
    have:l.length=2∨l.length=3:=by omega
    rcases this with e | e
    · rw [e]
      have:=Um (lt:=ltS l) _ a4p.1
      rw [decide_eq_true_eq] at this
      omega
    · rw [e]
      have:=Um (lt:=ltS l) _ a4p.2
      rw [decide_eq_true_eq] at this
      omega
theorem Hu:V0 X (.builtin "sorted") Ck:=by
  intro pins s σ H xs us Q I rs z8
  obtain ⟨S,as,ts,w,sub,hr,hf,q⟩:=z8
  cases hr with
  | nil=>simp only [Ck,reduceCtorEq] at hf
  | @cons x t xs' ts' h1 h2 =>
    cases h2 with
    | cons h3 h4=>cases h1 <;> simp only [Ck,reduceCtorEq] at hf
    | nil =>
      cases h1 with
      | @lst a vs ts g1 g2 =>
        simp only [Ck] at hf
        split at hf
        · rename_i l e1
          split at hf
          · rename_i hc
            cases hf
            obtain ⟨u,rfl,ru⟩:=rs.one
            cases ru
            obtain ⟨its,r,p,hz⟩:=I.list (qm sub g1)
            have T:=a0m I sub g2 r e1
            refine Rp p.isList T hc.2 hc.1 ?_
            obtain ⟨e,he⟩:=sortedAll_at s.heap its (outV its l).toArray
            have hn:H (s.heap.objs.size+1)=none:=I.hok.fresh (Nat.le_succ _)
            have x:=Ext.laid sub hn (.lst ((order l).map fun i=>vs.getD i .non))
            refine ⟨.ref (s.heap.objs.size+1),_,I.laid (a:=s.heap.objs.size+1) (o:=.lst ((order l).map fun i=>vs.getD i .non)) (h':=sortedAll s.heap its (outV its l).toArray) (t':=s.toks) (fun _ _=>sortedAll_old) (Nat.le_succ _) ⟨by rw [List.length_map]; exact a0i l hc.1,_,e,Wf r (order l),he⟩,rfl,q _ _ _ x (.lst (SqL.of jj) ((V9 g2 _).mono x.s nol))⟩
          · cases hf
        · cases hf
      | _=>simp only [Ck,reduceCtorEq] at hf
end
end C
end
noncomputable section
set_option linter.all false
set_option maxRecDepth 100000
set_option autoImplicit false
namespace C
open PySem L2
theorem Ka {a b:M T} {ts:List T} {s s':Sta} (h:Cj a b s=some (ts,s')):∃ (lo hi:Int) (s1:Sta),a s=some (.int lo,s1)∧b s1=some (.int hi,s')∧(-1000000<lo∧lo<1000000∧-1000000<hi∧hi<1000000)∧ts=Gf lo (hi - lo).toNat:=by
  unfold Cj at h
  split at h
  · rename_i lo s1 e1
    split at h
    · rename_i hi s2 e2
      split at h
      · rename_i hl; cases h; exact ⟨lo,hi,s1,e1,e2,by have:lo.natAbs<1000000∧hi.natAbs<1000000:=hl; omega,rfl⟩
      · cases h
    · cases h
  · cases h
theorem Uo {lo:Int} {n i:Nat} {t:T} (h:(Gf lo n)[i]? = some t):i<n∧t=.int (lo+(i:Int)):=by
  unfold Gf at h
  rw [List.getElem?_map] at h
  cases z:(List.range n)[i]? with
  | none=>rw [z] at h; cases h
  | some k =>
    rw [z] at h; cases h
    obtain ⟨hi,e⟩:=List.getElem?_eq_some_iff.mp z
    rw [List.getElem_range] at e; subst e
    rw [List.length_range] at hi
    exact ⟨hi,rfl⟩
theorem Rv {m1 m2:M T}:∀ st ts st',Cj m1 m2 st=some (ts,st')→ts.length≤sizeLine:=fun st ts st' e=>by
  obtain ⟨lo,hi,s1,_,_,hl,rfl⟩:=Ka e
  unfold Gf
  rw [List.length_map,List.length_range,sizeLine_eq]
  omega
noncomputable section
variable {X:Cx} {B:Bas} {a b tg:Expr} {m1 m2:M T} {pos p:Pos}
theorem Rf (hg:Gl X "range") (hm:X.mg "range" = none) (h1:PE X a (tOf X.K B m1)) (h2:PE X b (tOf X.K B m2)) (hs:starEach [a,b] X.env=[(false,eval a X.env),(false,eval b X.env)]:=by rfl) (hs2:starEach [b] X.env=[(false,eval b X.env)]:=by rfl) :
    PI X tg (.Call (.Name "range" p) [a,b] [] pos) (iOf X.K B (Cj m1 m2)):=by
  intro pins s σ H R I hw
  refine Z6 (ta:=Wv (tOf X.K B m1) (Wv (tOf X.K B m2) a8g)) hg hm (qw h1 (qw h2 w6 hs2) (by rw [hs,hs2])) hs hs2 pins s σ H R I ?_
  obtain ⟨st,ps,S,as,Rl,ts,st',e,hz,q⟩:=hw
  obtain ⟨lo,hi,s1,e1,e2,hl,rfl⟩:=Ka e
  refine ⟨st,ps,S,as,Rl,_,_,e1,fun v H1 S1 as1 R1=>⟨s1,_,S1,as1,R1,_,_,e2,fun u H2 S2 as2 R2=>?_⟩⟩
  have t2:=R2.top
  have t1:=R2.top2
  cases t2
  cases t1
  refine ⟨lo,hi,rfl,by omega,q _ H2 S2 as2 [] R2.drop.drop fun S3 as3 H3 _ hh=>⟨fun i t e=>?_,fun i hj=>?_⟩⟩
  · obtain ⟨hi,rfl⟩:=Uo e
    refine ⟨hi,fun x H' y=>⟨S3,by rw [y.1]; exact Ext.refl hh,?_⟩⟩
    have:=y.2; subst this
    exact .int _
  · show (hi - lo).toNat≤i
    unfold Gf at hj
    rwa [List.length_map,List.length_range] at hj
end
end C
end
noncomputable section
set_option linter.all false
set_option maxRecDepth 100000
set_option maxHeartbeats 4000002
set_option autoImplicit false
namespace C
open PySem PySem.Spec PyProof.Rows L2
noncomputable section
variable {K:PySem.W.Frag} {S:Hp} {as:List Addr}
end
noncomputable section
variable {X:Cx} {B:Bas} {a b e:Expr} {m m2:M T} {pos p1:Pos} {es:List Expr} {ms:M (List T)}
theorem Rel.base {K:PySem.W.Frag} {B:Bas} {st:Sta} {σ:L2.St} {H S:Hp} {ps:List (V × T)} {as:List Addr} (r:Rel K B st σ H ps S as):Rel K ⟨S,as,B.H⟩ st σ H ps S as :=
  ⟨r.sub,⟨Same.refl _,nol,fun p o h1 h2 h3=>by
    change S p=none at h2
    have b2:B.S p=none:=by
      cases q:B.S p with
      | none=>rfl
      | some u=>have:=r.grow.same _ _ q; rw [h2] at this; cases this
    have b3:p∉B.as:=fun q=>by obtain ⟨l,e⟩:=r.grow.more; exact h3 (by show p∈as; rw [e]; exact List.mem_append_left _ q)
    exact ⟨(r.grow.keep p o h1 b2 b3).1,h2,h3⟩⟩,fun i t f e=>by
      obtain ⟨v,h1,h2,h3⟩:=r.slots i t f e
      exact ⟨v,h1,h2,fun q=>by obtain ⟨p,ep,o⟩:=h3 q; exact ⟨p,ep,o.own,o.out,o.nas,o.new⟩⟩,r.apart,r.sto,r.pend,r.len⟩
end
end C
end
noncomputable section
set_option linter.all false
set_option maxRecDepth 100000
set_option maxHeartbeats 4000002
set_option autoImplicit false
namespace C
open PySem PySem.Spec
noncomputable section
variable {prog:Program} {w:World} {A:Around} {E:Value→Shared→Prop} {s:Shared} {it l:Addr} {xs:Array Value}
end
end C
end
noncomputable section
set_option linter.all false
set_option maxRecDepth 100000
set_option maxHeartbeats 4000002
set_option autoImplicit false
namespace C
open PySem PySem.Spec PyProof.Rows L2
noncomputable section
variable {X:Cx} {B:Bas} {a b e e1 e2:Expr} {m m1 m2:M T} {pos p1 p2 p3 p4:Pos} {lo hi:Option Expr} {ml mh:M (Option Int)}
theorem Tw {i:Nat} {s s':Sta} {t:T} (h:Bc i m s=some (t,s')):jf i s=true∧∃ xs f ys,m s=some (.lst ys,s')∧s'.env[i]? = some (some (.lst xs,f))∧xs.length+ys.length<lim∧t=.lst (xs++ys):=by
  unfold Bc at h
  split at h
  · rename_i hd
    refine ⟨hd,?_⟩
    split at h
    · rename_i ys s1 e1
      split at h
      · rename_i xs f e2
        split at h
        · rename_i hl
          cases h
          exact ⟨xs,f,ys,e1,e2,hl,rfl⟩
        · cases h
      · cases h
    · cases h
  · cases h
theorem Qi (i:Nat) (hi:PE X a (W3 i)) (hb:PE X b (tOf X.K B m)):PE X (.BinOp a .Add b pos) (fOf X.K B (Bc i m)):=(a5u Sy hi hb).imp fun σ H Q z9=>by
  obtain ⟨st,ps,S,as,R,t,st',ev,q⟩:=z9
  obtain ⟨hd,xs,f,ys,e1,e2,hl,rfl⟩:=Tw ev
  obtain ⟨xs0,f0,e0⟩:=Ep hd
  obtain ⟨p0,vs0,s0,_⟩:=R.listAt e0
  refine ⟨_,s0,st,ps,S,as,R,.lst ys,st',e1,fun u H2 S2 as2 R2=>?_⟩
  have tp:=R2.top
  cases tp with
  | @lst c vs ts g1 g2 =>
    obtain ⟨q1,vs1,s1,rd1,h4⟩:=R2.listAt e2
    rw [s0] at s1; cases s1
    refine ⟨p0,c,vs1,vs,rfl,rfl,rd1,qm R2.sub g1,?_,fun l hl2=>?_⟩
    · rw [h4.length,g2.length]; exact Nat.le_trans (Nat.le_of_lt hl) u5
    · obtain ⟨bD,sD,nD,no⟩:=R2.fresh hl2
      exact q l _ S2 as2 (R2.drop.a7b bD sD nD (fun j w e1 e2=>no j w e1 e2)) ⟨⟨vs1++vs,jj,h4.append g2⟩,sD,nD,bD⟩ (fun j w e1 e2=>no j w e1 e2)
end
end C
end
noncomputable section
set_option linter.all false
set_option maxRecDepth 100000
set_option maxHeartbeats 4000002
set_option autoImplicit false
namespace C
open PySem PySem.Spec PyProof.Rows L2
noncomputable section
variable {X:Cx} {B:Bas} {e1:Expr} {m1:M T} {pos p1:Pos}
end
end C
end
noncomputable section
set_option linter.all false
namespace K
open C PySem
noncomputable def yj:Fn:=iw 6
  (jc (sNew 2 (aq (.dic [])))
  (jc (m9 (m5 [3,4]) (jy (bw 1))
  (Aq 2 (bw 3) (mOp lu (Eb 2 (bw 3) (aq (.int 0))) (bw 4))))
  (jc (jw 5 (p7 1 [2] (hName 0) (jy (gb Cp (ak (bw 2) d9))) (gq (mOp neO (mOp bx (bw 1) (bw 0)) (aq (.int 0)))) (gb (fun l=>some (.tup l)) (ak (bw 0) (ak (mOp bx (bw 1) (bw 0)) d9)))))
  (jr (gb (fun l=>some (.tup l)) (ak (bw 0) (ak (gb yp (ak (bw 5) d9)) d9)))))))
noncomputable def Kq:Fn:=iw 2
  (jr (dj yj (ak (mOp lu (mOp bx (bw 0) (aq (.int 0))) (mOp bx (bw 1) (aq (.int 0)))) (ak (mOp lu (mOp bx (bw 0) (aq (.int 1))) (mOp bx (bw 1) (aq (.int 1)))) d9))))
noncomputable def Zc:Fn:=iw 2
  (jr (dj yj (ak (mOp Jh (mOp bx (bw 0) (aq (.int 0))) (bw 1)) (ak (p7 2 [1] (m5 [0,1]) (jy (mOp bx (bw 0) (aq (.int 1)))) j5 (gb (fun l=>some (.tup l)) (ak (bw 0) (ak (mOp Jh (bw 1) (bw 2)) d9)))) d9))))
noncomputable def vo:Fn:=iw 2
  (jr (dj Kq (ak (bw 0) (ak (dj Zc (ak (bw 1) (ak (mUn qb (aq (.int 1))) d9))) d9))))
noncomputable def Rh:Fn:=iw 7
  (jc (jw 2 (mOp bx (bw 0) (aq (.int 0))))
  (jc (sNew 3 (gb (fun l=>some (.lst l)) d9))
  (jc (m9 (m5 [4,5]) (jy (mOp bx (bw 0) (aq (.int 1))))
  (jc (jw 6 (gb a3h (ak (bw 1) (ak (bw 4) (ak (gb (fun l=>some (.tup l)) (ak (aq (.int 0)) (ak (gb (fun l=>some (.tup l)) (ak (gb (fun l=>some (.tup l)) (ak (bw 4) (ak (aq (.int 1)) d9))) d9)) d9))) d9)))))
  (jc (jw 2 (mOp lu (bw 2) (mOp Jh (bw 5) (mOp bx (bw 6) (aq (.int 0))))))
  (fu 3 (mOp bx (dj Zc (ak (bw 6) (ak (bw 5) d9))) (aq (.int 1)))))))
  (jr (dj yj (ak (bw 2) (ak (bw 3) d9)))))))
noncomputable def qz:Fn:=iw 3
  (jc (sIf (gq (mOp neO (mOp bx (bw 0) (aq (.int 1))) (bw 1)))
  (jr (bw 0))
  m7)
  (jr (mIf (gq (mOp eqO (mOp bx (bw 0) (aq (.int 2))) (bw 2))) (aq (.tup [(.str "and"),(.tup [])])) (aq (.tup [(.str "or"),(.tup [])])))))
mutual
noncomputable def jl:Nat→Fn
  | 0=>fun _ _=>none
  | n+1=>iw 5
      (jc (jw 4 (mOp bx (bw 0) (aq (.int 0))))
      (jc (sIf (gq (mOp eqO (bw 4) (aq (.str "most"))))
      (jr (gb (fun l=>some (.tup l)) (ak (aq (.str "most")) (ak (dj Rh (ak (mOp bx (bw 0) (aq (.int 1))) (ak (bw 2) d9))) d9))))
      m7)
      (jc (sIf (gq (mOp eqO (bw 4) (aq (.str "rest"))))
      (jr (gb (fun l=>some (.tup l)) (ak (aq (.str "rest")) (ak (dj Rh (ak (mOp bx (bw 0) (aq (.int 1))) (ak (bw 2) d9))) (ak (mOp bx (bw 0) (aq (.int 2))) d9)))))
      m7)
      (jc (sIf (gq (mOp eqO (bw 4) (aq (.str "at"))))
      (jr (dj qz (ak (bw 0) (ak (bw 1) (ak (bw 3) d9)))))
      m7)
      (jc (sIf (gq (mOp eqO (bw 4) (aq (.str "not"))))
      (jr (gb (fun l=>some (.tup l)) (ak (aq (.str "not")) (ak (dj (jl n) (ak (mOp bx (bw 0) (aq (.int 1))) (ak (bw 1) (ak (bw 2) (ak (bw 3) d9))))) d9))))
      m7)
      (jr (gb (fun l=>some (.tup l)) (ak (bw 4) (ak (gb yp (ak (p7 1 [1,2,3] (hName 0) (jy (mOp bx (bw 0) (aq (.int 1)))) j5 (dj (jl n) (ak (bw 0) (ak (bw 1) (ak (bw 2) (ak (bw 3) d9)))))) d9)) d9)))))))))
end
noncomputable def Ad:Fn:=iw 4
  (jr (dj (jl 40) (ak (bw 0) (ak (bw 1) (ak (gb Bf (ak (bw 2) d9)) (ak (bw 3) d9))))))
noncomputable def nq:Fn:=iw 1
  (jr (mOp lu (aq (.str "@")) (bw 0)))
noncomputable def mz:Fn:=iw 2
  (jr (gb (fun l=>some (.tup l)) (ak (aq (.str "and")) (ak (gb (fun l=>some (.tup l)) (ak (gb (fun l=>some (.tup l)) (ak (aq (.str "most")) (ak (gb (fun l=>some (.tup l)) (ak (mUn qb (bw 1)) (ak (gb (fun l=>some (.tup l)) (ak (gb (fun l=>some (.tup l)) (ak (bw 0) (ak (aq (.int 1)) d9))) d9)) d9))) d9))) (ak (gb (fun l=>some (.tup l)) (ak (aq (.str "most")) (ak (gb (fun l=>some (.tup l)) (ak (bw 1) (ak (gb (fun l=>some (.tup l)) (ak (gb (fun l=>some (.tup l)) (ak (bw 0) (ak (mUn qb (aq (.int 1))) d9))) d9)) d9))) d9))) d9))) d9))))
noncomputable def uo:Fn:=iw 2
  (jr (gb (fun l=>some (.tup l)) (ak (aq (.str "or")) (ak (gb (fun l=>some (.tup l)) (ak (gb (fun l=>some (.tup l)) (ak (aq (.str "most")) (ak (gb (fun l=>some (.tup l)) (ak (mOp tu (aq (.int 1)) (bw 1)) (ak (gb (fun l=>some (.tup l)) (ak (gb (fun l=>some (.tup l)) (ak (bw 0) (ak (aq (.int 1)) d9))) d9)) d9))) d9))) (ak (gb (fun l=>some (.tup l)) (ak (aq (.str "most")) (ak (gb (fun l=>some (.tup l)) (ak (mOp lu (bw 1) (aq (.int 1))) (ak (gb (fun l=>some (.tup l)) (ak (gb (fun l=>some (.tup l)) (ak (bw 0) (ak (mUn qb (aq (.int 1))) d9))) d9)) d9))) d9))) d9))) d9))))
mutual
noncomputable def j9:Nat→Fn
  | 0=>fun _ _=>none
  | n+1=>iw 2
      (jc (jw 1 (mOp bx (bw 0) (aq (.int 0))))
      (jc (sIf (gq (mOp eqO (bw 1) (aq (.str "at"))))
      (jr (dj mz (ak (dj nq (ak (mOp bx (bw 0) (aq (.int 1))) d9)) (ak (mOp bx (bw 0) (aq (.int 2))) d9))))
      m7)
      (jc (sIf (gq (mOp eqO (bw 1) (aq (.str "not"))))
      (jr (dj (iz n) (ak (mOp bx (bw 0) (aq (.int 1))) d9)))
      m7)
      (jc (sIf (gq (mOp inT (bw 1) (gb (fun l=>some (.tup l)) (ak (aq (.str "and")) (ak (aq (.str "or")) d9)))))
      (jr (gb (fun l=>some (.tup l)) (ak (bw 1) (ak (gb yp (ak (p7 1 [] (hName 0) (jy (mOp bx (bw 0) (aq (.int 1)))) j5 (dj (j9 n) (ak (bw 0) d9))) d9)) d9))))
      m7)
      (jr (bw 0))))))
noncomputable def iz:Nat→Fn
  | 0=>fun _ _=>none
  | n+1=>iw 2
      (jc (jw 1 (mOp bx (bw 0) (aq (.int 0))))
      (jc (sIf (gq (mOp eqO (bw 1) (aq (.str "most"))))
      (jr (gb (fun l=>some (.tup l)) (ak (aq (.str "most")) (ak (dj vo (ak (gb (fun l=>some (.tup l)) (ak (aq (.int 1)) (ak (gb (fun l=>some (.tup l)) d9) d9))) (ak (mOp bx (bw 0) (aq (.int 1))) d9))) d9))))
      m7)
      (jc (sIf (gq (mOp eqO (bw 1) (aq (.str "rest"))))
      (jr (gb (fun l=>some (.tup l)) (ak (aq (.str "or")) (ak (gb yp (ak (p7 1 [0] (hName 0) (Cj (aq (.int 1)) (mOp bx (bw 0) (aq (.int 2)))) j5 (gb (fun l=>some (.tup l)) (ak (aq (.str "rest")) (ak (dj vo (ak (mOp bx (bw 1) (aq (.int 1))) (ak (gb (fun l=>some (.tup l)) (ak (bw 0) (ak (gb (fun l=>some (.tup l)) d9) d9))) d9))) (ak (mOp bx (bw 1) (aq (.int 2))) d9))))) d9)) d9))))
      m7)
      (jc (sIf (gq (mOp eqO (bw 1) (aq (.str "at"))))
      (jr (dj uo (ak (dj nq (ak (mOp bx (bw 0) (aq (.int 1))) d9)) (ak (mOp bx (bw 0) (aq (.int 2))) d9))))
      m7)
      (jc (sIf (gq (mOp eqO (bw 1) (aq (.str "not"))))
      (jr (dj (j9 n) (ak (mOp bx (bw 0) (aq (.int 1))) d9)))
      m7)
      (jr (gb (fun l=>some (.tup l)) (ak (mUn (abx [("and","or"),("or","and")]) (bw 1)) (ak (gb yp (ak (p7 1 [] (hName 0) (jy (mOp bx (bw 0) (aq (.int 1)))) j5 (dj (iz n) (ak (bw 0) d9))) d9)) d9)))))))))
end
noncomputable def yu:Fn:=iw 5
  (jc (sNew 2 (gb (fun l=>some (.lst l)) d9))
  (jc (m9 (m5 [3,4]) (jy (mOp bx (bw 0) (aq (.int 1))))
  (sIf (gq (mOp neO (bw 3) (mOp bx (mOp bx (mOp bx (bw 0) (aq (.int 2))) (bw 1)) (aq (.int 0)))))
  (fu 2 (p7 1 [1,3] (hName 0) (gn (bw 4)) j5 (gb (fun l=>some (.tup l)) (ak (aq (.str "other")) (ak (bw 1) (ak (bw 2) (ak (bw 0) d9)))))))
  m7))
  (jr (bw 2))))
noncomputable def xr:Fn:=iw 4
  (jc (jw 1 (gb Js (ak (gb ql (ak (mOp bx (bw 0) (aq (.int 2))) d9)) d9)))
  (jc (sNew 2 (p7 2 [] (m5 [0,1]) (jy (mOp bx (bw 0) (aq (.int 1)))) j5 (gb (fun l=>some (.tup l)) (ak (aq (.str "start")) (ak (bw 0) d9)))))
  (jc (fu 2 (p7 1 [] (hName 0) (jy (bw 1)) j5 (gb (fun l=>some (.tup l)) (ak (aq (.str "own")) (ak (bw 0) d9)))))
  (jc (m9 (hName 3) (jy (bw 1))
  (fu 2 (dj yu (ak (bw 0) (ak (bw 3) d9)))))
  (jr (bw 2))))))
noncomputable def uz:Fn:=iw 3
  (jr (gb (fun l=>some (.tup l)) (ak (aq (.str "and")) (ak (gb (fun l=>some (.tup l)) (ak (gb (fun l=>some (.tup l)) (ak (aq (.str "most")) (ak (dj vo (ak (bw 1) (ak (bw 0) d9))) d9))) (ak (gb (fun l=>some (.tup l)) (ak (aq (.str "most")) (ak (dj vo (ak (bw 0) (ak (bw 2) d9))) d9))) d9))) d9))))
noncomputable def vm:Fn:=iw 8
  (jc (sNew 2 (aq (.dic [])))
  (jc (m9 (m5 [3,4,5,6,7]) (jy (mOp bx (bw 0) (aq (.int 0))))
  (Aq 2 (bw 3) (gb (fun l=>some (.tup l)) (ak (gb (fun l=>some (.tup l)) (ak (bw 5) (ak (gb (fun l=>some (.tup l)) d9) d9))) (ak (gb (fun l=>some (.tup l)) (ak (bw 6) (ak (gb (fun l=>some (.tup l)) d9) d9))) d9)))))
  (jr (p7 2 [2] (m5 [0,1]) (jy (bw 1)) j5 (dj uz (ak (bw 1) (ak (mOp bx (mOp bx (bw 2) (bw 0)) (aq (.int 0))) (ak (mOp bx (mOp bx (bw 2) (bw 0)) (aq (.int 1))) d9))))))))
noncomputable def um:Fn:=iw 6
  (jc (sNx (jw 4 (mOp lu (gb (fun l=>some (.lst l)) (ak (gb (fun l=>some (.tup l)) (ak (mOp bx (bw 2) (aq (.int 0))) (ak (mOp bx (bw 2) (aq (.int 1))) d9))) d9)) (bw 3))))
  (jc (sNx (sNew 5 (p7 2 [] (m5 [0,1]) (jy (bw 4)) j5 (dj (j9 40) (ak (gb (fun l=>some (.tup l)) (ak (aq (.str "at")) (ak (bw 0) (ak (bw 1) d9)))) d9)))))
  (jc (sNx (fu 5 (p7 1 [1] (hName 0) (jy (bw 4)) j5 (dj (j9 40) (ak (kh (bw 1) (bw 0)) d9)))))
  (jc (sNx (dz 5 (dj (j9 40) (ak (mOp bx (bw 2) (aq (.int 2))) d9))))
  (jc (sNx (fu 5 (dj vm (ak (bw 0) (ak (mOp bx (bw 2) (aq (.int 3))) d9)))))
  (g8 5))))))
noncomputable def qg:Fn:=iw 6
  (jc (sNx (sNew 5 (dj um (ak (bw 0) (ak (bw 1) (ak (bw 2) (ak (bw 3) d9)))))))
  (jc (sNx (dz 5 (dj (iz 40) (ak (dj Ad (ak (bw 4) (ak (mOp bx (bw 2) (aq (.int 0))) (ak (mOp bx (bw 2) (aq (.int 3))) (ak (mOp bx (bw 2) (aq (.int 4))) d9))))) d9))))
  (g8 5)))
noncomputable def vd:Fn:=iw 4
  (jc (sNx (sNew 3 (p7 1 [] (hName 0) (jy (mOp bx (bw 0) (aq (.int 0)))) j5 (dj mz (ak (mOp bx (bw 0) (aq (.int 0))) (ak (mOp bx (bw 0) (aq (.int 4))) d9))))))
  (jc (sNx (fu 3 (p7 2 [] (m5 [0,1]) (jy (mOp bx (bw 0) (aq (.int 1)))) j5 (dj mz (ak (dj nq (ak (bw 0) d9)) (ak (aq (.int 0)) d9))))))
  (jc (sNx (dz 3 (dj (iz 40) (ak (kh (bw 1) (gb (fun l=>some (.tup l)) (ak (bw 2) (ak (aq (.int 0)) d9)))) d9))))
  (g8 3))))
noncomputable def lg:Fn:=iw 6
  (sIf (gq (mOp eqO (mOp bx (bw 2) (aq (.int 0))) (aq (.str "start"))))
  (jr (dj vd (ak (bw 0) (ak (bw 1) (ak (mOp bx (bw 2) (aq (.int 1))) d9)))))
  (jc (sNx (jw 3 (mOp bx (mOp bx (bw 0) (aq (.int 2))) (mOp bx (bw 2) (aq (.int 1))))))
  (sIf (gq (mOp eqO (mOp bx (bw 2) (aq (.int 0))) (aq (.str "own"))))
  (jc (sNx (jw 4 (kh (bw 1) (gb (fun l=>some (.tup l)) (ak (mOp bx (bw 3) (aq (.int 0))) (ak (mOp bx (bw 3) (aq (.int 4))) d9))))))
  (jr (dj qg (ak (bw 0) (ak (bw 1) (ak (bw 3) (ak (gb (fun l=>some (.lst l)) d9) (ak (bw 4) d9))))))))
  (jc (sNx (jw 5 (gb (fun l=>some (.tup l)) (ak (mOp bx (bw 2) (aq (.int 2))) (ak (mOp bx (bw 2) (aq (.int 3))) d9)))))
  (jr (dj qg (ak (bw 0) (ak (bw 1) (ak (bw 3) (ak (gb (fun l=>some (.lst l)) (ak (bw 5) d9)) (ak (kh (bw 1) (bw 5)) d9)))))))))))
noncomputable def je:Fn:=iw 2
  (jc (sIf (gq (mOp ltT (bw 1) (gb ql (ak (bw 0) d9))))
  (jr (mOp bx (bw 0) (bw 1)))
  m7)
  (jr (aq (.int 0))))
noncomputable def uq:Fn:=iw 2
  (jc (sIf (gq (mOp ltT (bw 0) (aq (.int 0))))
  (jr (mUn qb (mOp m6 (mUn qb (bw 0)) (bw 1))))
  m7)
  (jr (mOp m6 (bw 0) (bw 1))))
noncomputable def m8:Fn:=iw 4
  (jc (jw 3 (dj je (ak (bw 0) (ak (bw 1) d9))))
  (jc (sIf (gq (bw 2))
  (jr (bw 3))
  m7)
  (jr (mOp lu (mOp m6 (mOp Jh (bw 3) (aq (.int 48271))) (aq (.int 2147483647))) (mOp Jh (mOp m6 (mOp Jh (bw 3) (aq (.int 69621))) (aq (.int 2147483629))) (aq (.int 2147483647)))))))
noncomputable def ux:Fn:=iw 5
  (jc (sNew 2 (gb (fun l=>some (.lst l)) d9))
  (jc (m9 (hName 3) (gn (gb ql (ak (bw 1) d9)))
  (jc (jw 4 (mOp tu (mOp m6 (mOp j6 (bw 0) (mOp bx (gb (fun l=>some (.lst l)) (ak (aq (.int 41)) (ak (aq (.int 205)) (ak (aq (.int 1025)) d9)))) (bw 3))) (aq (.int 5))) (aq (.int 2))))
  (sIf (gq (mOp neO (bw 4) (aq (.int 0))))
  (dz 2 (gb (fun l=>some (.tup l)) (ak (mOp bx (mOp bx (bw 1) (bw 3)) (aq (.int 0))) (ak (bw 4) d9))))
  m7)))
  (jr (gb (fun l=>some (.tup l)) (ak (mOp tu (mOp m6 (bw 0) (aq (.int 41))) (aq (.int 20))) (ak (gb yp (ak (gb Ck (ak (bw 2) d9)) d9)) d9))))))
noncomputable def uy:Fn:=iw 6
  (jc (jw 3 (mOp m6 (bw 0) (aq (.int 4))))
  (jc (sIf (gq (mOp ltT (bw 3) (aq (.int 2))))
  (jr (gb (fun l=>some (.tup l)) (ak (aq (.str "most")) (ak (dj ux (ak (mOp j6 (bw 0) (aq (.int 4))) (ak (bw 1) d9))) d9))))
  m7)
  (jc (sIf (gq (mOp eqO (bw 3) (aq (.int 2))))
  (jr (gb (fun l=>some (.tup l)) (ak (aq (.str "rest")) (ak (dj ux (ak (mOp j6 (bw 0) (aq (.int 44))) (ak (bw 1) d9))) (ak (mOp lu (aq (.int 2)) (mOp m6 (mOp j6 (bw 0) (aq (.int 4))) (aq (.int 11)))) d9)))))
  m7)
  (jc (sGo (m5 [4,5]) (mOp bx (bw 2) (mOp m6 (mOp j6 (bw 0) (aq (.int 4))) (gb ql (ak (bw 2) d9)))))
  (jr (gb (fun l=>some (.tup l)) (ak (aq (.str "at")) (ak (bw 4) (ak (mOp m6 (mOp j6 (bw 0) (aq (.int 16))) (bw 5)) d9)))))))))
noncomputable def mq:Fn:=iw 9
  (jc (jw 3 (mOp m6 (bw 0) (aq (.int 9))))
  (jc (jw 4 (dj uy (ak (mOp j6 (bw 0) (aq (.int 9))) (ak (bw 1) (ak (bw 2) d9)))))
  (jc (jw 5 (dj uy (ak (mOp j6 (bw 0) (aq (.int 7000003))) (ak (bw 1) (ak (bw 2) d9)))))
  (jc (jw 6 (dj uy (ak (mOp j6 (bw 0) (aq (.int 1000))) (ak (bw 1) (ak (bw 2) d9)))))
  (jc (jw 7 (gb (fun l=>some (.tup l)) (ak (bw 4) (ak (bw 5) (ak (bw 6) (ak (gb (fun l=>some (.tup l)) (ak (aq (.str "not")) (ak (bw 5) d9))) (ak (gb (fun l=>some (.tup l)) (ak (aq (.str "and")) (ak (gb (fun l=>some (.tup l)) (ak (bw 6) (ak (bw 4) d9))) d9))) (ak (gb (fun l=>some (.tup l)) (ak (aq (.str "or")) (ak (gb (fun l=>some (.tup l)) d9) d9))) d9))))))))
  (jc (jw 8 (gb (fun l=>some (.lst l)) (ak (bw 4) (ak (gb (fun l=>some (.tup l)) (ak (aq (.str "and")) (ak (gb (fun l=>some (.tup l)) d9) d9))) (ak (gb (fun l=>some (.tup l)) (ak (aq (.str "not")) (ak (bw 4) d9))) (ak (gb (fun l=>some (.tup l)) (ak (aq (.str "and")) (ak (gb (fun l=>some (.tup l)) (ak (bw 4) (ak (bw 5) d9))) d9))) (ak (gb (fun l=>some (.tup l)) (ak (aq (.str "or")) (ak (gb (fun l=>some (.tup l)) (ak (bw 4) (ak (bw 5) (ak (bw 6) d9)))) d9))) d9)))))))
  (jc (jw 8 (mOp lu (bw 8) (gb (fun l=>some (.lst l)) (ak (gb (fun l=>some (.tup l)) (ak (aq (.str "not")) (ak (gb (fun l=>some (.tup l)) (ak (aq (.str "or")) (ak (gb (fun l=>some (.tup l)) (ak (bw 4) (ak (bw 5) d9))) d9))) d9))) (ak (gb (fun l=>some (.tup l)) (ak (aq (.str "not")) (ak (gb (fun l=>some (.tup l)) (ak (aq (.str "and")) (ak (gb (fun l=>some (.tup l)) (ak (bw 5) (ak (gb (fun l=>some (.tup l)) (ak (aq (.str "not")) (ak (bw 4) d9))) d9))) d9))) d9))) d9)))))
  (jr (mOp bx (mOp lu (bw 8) (gb (fun l=>some (.lst l)) (ak (gb (fun l=>some (.tup l)) (ak (aq (.str "and")) (ak (Gh (bw 7) a5z (Xr (mOp lu (aq (.int 4)) (mOp m6 (mOp j6 (bw 0) (aq (.int 9))) (aq (.int 3)))))) d9))) (ak (gb (fun l=>some (.tup l)) (ak (aq (.str "or")) (ak (Gh (bw 7) a5z (Xr (mOp lu (aq (.int 4)) (mOp m6 (mOp j6 (bw 0) (aq (.int 9))) (aq (.int 3)))))) d9))) d9)))) (bw 3))))))))))
noncomputable def v9:Fn:=iw 15
  (jc (jw 2 (dj je (ak (bw 0) (ak (aq (.int 0)) d9))))
  (jc (sNew 3 (gb (fun l=>some (.lst l)) d9))
  (jc (m9 (hName 4) (gn (mOp m6 (mOp j6 (bw 2) (aq (.int 2))) (aq (.int 4))))
  (jc (jw 5 (dj je (ak (bw 0) (ak (mOp lu (aq (.int 1)) (bw 4)) d9))))
  (jc (jw 6 (dj uq (ak (bw 5) (ak (mOp bx (gb (fun l=>some (.lst l)) (ak (aq (.int 9)) (ak (mOp a3c (aq (.int 10)) (aq (.int 29))) d9))) (mOp m6 (mOp j6 (bw 5) (aq (.int 3))) (aq (.int 2)))) d9))))
  (dz 3 (gb (fun l=>some (.tup l)) (ak (mOp bx (gb (fun l=>some (.lst l)) (ak (aq (.str "x")) (ak (aq (.str "y")) (ak (aq (.str "b2")) d9)))) (bw 4)) (ak (mOp bx (gb (fun l=>some (.lst l)) (ak (aq (.str "")) (ak (aq (.str "p")) d9))) (mOp m6 (mOp j6 (bw 5) (aq (.int 6))) (aq (.int 2)))) (ak (bw 6) (ak (mOp lu (bw 6) (mOp m6 (mOp j6 (gb sy (ak (bw 5) d9)) (aq (.int 12))) (mOp a3c (aq (.int 10)) (aq (.int 29))))) (ak (bw 6) d9))))))))))
  (jc (jw 7 (p7 1 [2] (hName 0) (gn (mOp lu (aq (.int 1)) (mOp m6 (mOp j6 (bw 2) (aq (.int 648))) (aq (.int 4))))) j5 (gb (fun l=>some (.tup l)) (ak (mOp bx (gb (fun l=>some (.lst l)) (ji ["p","q","pq","r"])) (bw 0)) (ak (mOp lu (aq (.int 1)) (mOp m6 (mOp j6 (bw 1) (mOp bx (gb (fun l=>some (.lst l)) (ak (aq (.int 8)) (ak (aq (.int 24)) (ak (aq (.int 72)) (ak (aq (.int 216)) d9))))) (bw 0))) (aq (.int 3)))) d9)))))
  (jc (sNew 8 (gb (fun l=>some (.lst l)) d9))
  (jc (m9 (hName 4) (gn (mOp m6 (mOp j6 (bw 2) (aq (.int 2592))) (aq (.int 6))))
  (jc (jw 9 (dj m8 (ak (bw 0) (ak (mOp lu (aq (.int 4)) (bw 4)) (ak (bw 1) d9)))))
  (jc (sGo (m5 [10,11]) (mOp bx (bw 7) (mOp m6 (bw 9) (gb ql (ak (bw 7) d9)))))
  (jc (sNew 12 (gb (fun l=>some (.lst l)) d9))
  (jc (m9 (hName 13) (gn (Ei 3))
  (sIf (gq (mOp eqO (mOp m6 (mOp j6 (bw 9) (mOp bx (gb (fun l=>some (.lst l)) (ak (aq (.int 4)) (ak (aq (.int 8)) (ak (aq (.int 16)) d9)))) (bw 13))) (aq (.int 2))) (aq (.int 1))))
  (dz 12 (gb (fun l=>some (.tup l)) (ak (mOp bx (Mf 3 (bw 13)) (aq (.int 0))) (ak (dj ux (ak (mOp j6 (bw 9) (mOp lu (aq (.int 320)) (mOp Jh (aq (.int 64)) (bw 13)))) (ak (bw 3) d9))) d9))))
  m7))
  (jc (jw 14 (dj mq (ak (mOp j6 (bw 9) (aq (.int 100000))) (ak (bw 3) (ak (bw 7) d9)))))
  (dz 8 (gb (fun l=>some (.tup l)) (ak (bw 10) (ak (mOp m6 (mOp j6 (bw 9) (aq (.int 32))) (bw 11)) (ak (bw 14) (ak (gb yp (ak (gb Ck (ak (bw 12) d9)) d9)) (ak (mOp m6 (mOp j6 (bw 9) (aq (.int 96))) (bw 11)) d9)))))))))))))
  (jr (gb (fun l=>some (.tup l)) (ak (bw 3) (ak (bw 7) (ak (bw 8) (ak (gb (fun l=>some (.tup l)) d9) d9))))))))))))
noncomputable def jk:Fn:=iw 6
  (jc (sNew 3 (gb Bf (ak (mOp bx (bw 0) (aq (.int 1))) d9)))
  (jc (m9 (m5 [4,5]) (jy (mOp bx (bw 1) (aq (.int 1))))
  (Aq 3 (bw 4) (mOp lu (Eb 3 (bw 4) (aq (.int 0))) (mOp Jh (bw 5) (bw 2)))))
  (jr (gb (fun l=>some (.tup l)) (ak (mOp lu (mOp bx (bw 0) (aq (.int 0))) (mOp Jh (mOp bx (bw 1) (aq (.int 0))) (bw 2))) (ak (gb yp (ak (p7 1 [3] (hName 0) (jy (gb Cp (ak (bw 3) d9))) (gq (mOp neO (mOp bx (bw 1) (bw 0)) (aq (.int 0)))) (gb (fun l=>some (.tup l)) (ak (bw 0) (ak (mOp bx (bw 1) (bw 0)) d9)))) d9)) d9))))))
noncomputable def Ah:Fn:=iw 5
  (jc (jw 2 (gb (fun l=>some (.tup l)) (ak (mOp bx (bw 0) (aq (.int 0))) (ak (gb (fun l=>some (.tup l)) d9) d9))))
  (jc (m9 (m5 [3,4]) (jy (mOp bx (bw 0) (aq (.int 1))))
  (jw 2 (dj jk (ak (bw 2) (ak (gb a3h (ak (gb Bf (ak (bw 1) d9)) (ak (bw 3) (ak (gb (fun l=>some (.tup l)) (ak (aq (.int 0)) (ak (gb (fun l=>some (.tup l)) (ak (gb (fun l=>some (.tup l)) (ak (bw 3) (ak (aq (.int 1)) d9))) d9)) d9))) d9)))) (ak (bw 4) d9))))))
  (jr (bw 2))))
mutual
noncomputable def jg:Nat→Fn
  | 0=>fun _ _=>none
  | n+1=>iw 2
      (jc (sIf (gq (mOp eqO (mOp bx (bw 0) (aq (.int 0))) (aq (.str "most"))))
      (jr (gb (fun l=>some (.tup l)) (ak (aq (.str "most")) (ak (dj Ah (ak (mOp bx (bw 0) (aq (.int 1))) (ak (mOp bx (bw 1) (aq (.int 3))) d9))) d9))))
      m7)
      (jc (sIf (gq (mOp eqO (mOp bx (bw 0) (aq (.int 0))) (aq (.str "rest"))))
      (jr (gb (fun l=>some (.tup l)) (ak (aq (.str "rest")) (ak (dj Ah (ak (mOp bx (bw 0) (aq (.int 1))) (ak (mOp bx (bw 1) (aq (.int 3))) d9))) (ak (mOp bx (bw 0) (aq (.int 2))) d9)))))
      m7)
      (jc (sIf (u6 (gq (mOp eqO (mOp bx (bw 0) (aq (.int 0))) (aq (.str "at")))) (gq (mOp eqO (mOp bx (bw 0) (aq (.int 1))) (mOp bx (bw 1) (aq (.int 0))))))
      (jr (gb (fun l=>some (.tup l)) (ak (mOp bx (gb (fun l=>some (.lst l)) (ak (aq (.str "or")) (ak (aq (.str "and")) d9))) (gb a4y (ak (mOp eqO (mOp bx (bw 0) (aq (.int 2))) (mOp bx (bw 1) (aq (.int 4)))) d9))) (ak (gb (fun l=>some (.tup l)) d9) d9))))
      m7)
      (jc (sIf (gq (mOp eqO (mOp bx (bw 0) (aq (.int 0))) (aq (.str "at"))))
      (jr (bw 0))
      m7)
      (jc (sIf (gq (mOp eqO (mOp bx (bw 0) (aq (.int 0))) (aq (.str "not"))))
      (jr (gb (fun l=>some (.tup l)) (ak (aq (.str "not")) (ak (dj (jg n) (ak (mOp bx (bw 0) (aq (.int 1))) (ak (bw 1) d9))) d9))))
      m7)
      (jr (gb (fun l=>some (.tup l)) (ak (mOp bx (bw 0) (aq (.int 0))) (ak (gb yp (ak (p7 1 [1] (hName 0) (jy (mOp bx (bw 0) (aq (.int 1)))) j5 (dj (jg n) (ak (bw 0) (ak (bw 1) d9)))) d9)) d9)))))))))
end
mutual
noncomputable def ig:Nat→Fn
  | 0=>fun _ _=>none
  | n+1=>iw 2
      (jc (sIf (gq (mOp eqO (mOp bx (bw 0) (aq (.int 0))) (aq (.str "at"))))
      (jc (jw 1 (mOp lu (aq (.str "@")) (mOp bx (bw 0) (aq (.int 1)))))
      (jr (gb (fun l=>some (.tup l)) (ak (aq (.str "and")) (ak (gb (fun l=>some (.tup l)) (ak (gb (fun l=>some (.tup l)) (ak (aq (.str "most")) (ak (gb (fun l=>some (.tup l)) (ak (mUn qb (mOp bx (bw 0) (aq (.int 2)))) (ak (gb (fun l=>some (.tup l)) (ak (gb (fun l=>some (.tup l)) (ak (bw 1) (ak (aq (.int 1)) d9))) d9)) d9))) d9))) (ak (gb (fun l=>some (.tup l)) (ak (aq (.str "most")) (ak (gb (fun l=>some (.tup l)) (ak (mOp bx (bw 0) (aq (.int 2))) (ak (gb (fun l=>some (.tup l)) (ak (gb (fun l=>some (.tup l)) (ak (bw 1) (ak (mUn qb (aq (.int 1))) d9))) d9)) d9))) d9))) d9))) d9)))))
      m7)
      (jc (sIf (gq (mOp eqO (mOp bx (bw 0) (aq (.int 0))) (aq (.str "not"))))
      (jr (dj (j4 n) (ak (mOp bx (bw 0) (aq (.int 1))) d9)))
      m7)
      (jc (sIf (gq (mOp inT (mOp bx (bw 0) (aq (.int 0))) (gb (fun l=>some (.tup l)) (ak (aq (.str "and")) (ak (aq (.str "or")) d9)))))
      (jr (gb (fun l=>some (.tup l)) (ak (mOp bx (bw 0) (aq (.int 0))) (ak (gb yp (ak (p7 1 [] (hName 0) (jy (mOp bx (bw 0) (aq (.int 1)))) j5 (dj (ig n) (ak (bw 0) d9))) d9)) d9))))
      m7)
      (jr (bw 0)))))
noncomputable def j4:Nat→Fn
  | 0=>fun _ _=>none
  | n+1=>iw 2
      (jc (sIf (gq (mOp eqO (mOp bx (bw 0) (aq (.int 0))) (aq (.str "most"))))
      (jr (gb (fun l=>some (.tup l)) (ak (aq (.str "most")) (ak (dj jk (ak (gb (fun l=>some (.tup l)) (ak (aq (.int 1)) (ak (gb (fun l=>some (.tup l)) d9) d9))) (ak (mOp bx (bw 0) (aq (.int 1))) (ak (mUn qb (aq (.int 1))) d9)))) d9))))
      m7)
      (jc (sIf (gq (mOp eqO (mOp bx (bw 0) (aq (.int 0))) (aq (.str "rest"))))
      (jr (gb (fun l=>some (.tup l)) (ak (aq (.str "or")) (ak (gb yp (ak (p7 1 [0] (hName 0) (Cj (aq (.int 1)) (mOp bx (bw 0) (aq (.int 2)))) j5 (gb (fun l=>some (.tup l)) (ak (aq (.str "rest")) (ak (dj jk (ak (mOp bx (bw 1) (aq (.int 1))) (ak (gb (fun l=>some (.tup l)) (ak (bw 0) (ak (gb (fun l=>some (.tup l)) d9) d9))) (ak (mUn qb (aq (.int 1))) d9)))) (ak (mOp bx (bw 1) (aq (.int 2))) d9))))) d9)) d9))))
      m7)
      (jc (sIf (gq (mOp eqO (mOp bx (bw 0) (aq (.int 0))) (aq (.str "at"))))
      (jc (jw 1 (mOp lu (aq (.str "@")) (mOp bx (bw 0) (aq (.int 1)))))
      (jr (gb (fun l=>some (.tup l)) (ak (aq (.str "or")) (ak (gb (fun l=>some (.tup l)) (ak (gb (fun l=>some (.tup l)) (ak (aq (.str "most")) (ak (gb (fun l=>some (.tup l)) (ak (mOp tu (aq (.int 1)) (mOp bx (bw 0) (aq (.int 2)))) (ak (gb (fun l=>some (.tup l)) (ak (gb (fun l=>some (.tup l)) (ak (bw 1) (ak (aq (.int 1)) d9))) d9)) d9))) d9))) (ak (gb (fun l=>some (.tup l)) (ak (aq (.str "most")) (ak (gb (fun l=>some (.tup l)) (ak (mOp lu (mOp bx (bw 0) (aq (.int 2))) (aq (.int 1))) (ak (gb (fun l=>some (.tup l)) (ak (gb (fun l=>some (.tup l)) (ak (bw 1) (ak (mUn qb (aq (.int 1))) d9))) d9)) d9))) d9))) d9))) d9)))))
      m7)
      (jc (sIf (gq (mOp eqO (mOp bx (bw 0) (aq (.int 0))) (aq (.str "not"))))
      (jr (dj (ig n) (ak (mOp bx (bw 0) (aq (.int 1))) d9)))
      m7)
      (jr (gb (fun l=>some (.tup l)) (ak (mOp bx (gb (fun l=>some (.lst l)) (ak (aq (.str "and")) (ak (aq (.str "or")) d9))) (gb a4y (ak (mOp eqO (mOp bx (bw 0) (aq (.int 0))) (aq (.str "and"))) d9))) (ak (gb yp (ak (p7 1 [] (hName 0) (jy (mOp bx (bw 0) (aq (.int 1)))) j5 (dj (j4 n) (ak (bw 0) d9))) d9)) d9))))))))
end
noncomputable def p8:Fn:=iw 2
  (jr (gb (fun l=>some (.tup l)) (ak (aq (.str "and")) (ak (gb (fun l=>some (.tup l)) (ak (gb (fun l=>some (.tup l)) (ak (aq (.str "most")) (ak (gb (fun l=>some (.tup l)) (ak (mUn qb (bw 1)) (ak (gb (fun l=>some (.tup l)) (ak (gb (fun l=>some (.tup l)) (ak (bw 0) (ak (aq (.int 1)) d9))) d9)) d9))) d9))) (ak (gb (fun l=>some (.tup l)) (ak (aq (.str "most")) (ak (gb (fun l=>some (.tup l)) (ak (bw 1) (ak (gb (fun l=>some (.tup l)) (ak (gb (fun l=>some (.tup l)) (ak (bw 0) (ak (mUn qb (aq (.int 1))) d9))) d9)) d9))) d9))) d9))) d9))))
noncomputable def vg:Fn:=iw 4
  (jc (jw 3 (p7 1 [] (hName 0) (jy (mOp bx (bw 0) (aq (.int 0)))) j5 (dj p8 (ak (mOp bx (bw 0) (aq (.int 0))) (ak (mOp bx (bw 0) (aq (.int 4))) d9)))))
  (jc (jw 3 (mOp lu (bw 3) (p7 2 [] (m5 [0,1]) (jy (mOp bx (bw 0) (aq (.int 1)))) j5 (dj p8 (ak (mOp lu (aq (.str "@")) (bw 0)) (ak (aq (.int 0)) d9))))))
  (jr (mOp lu (bw 3) (gb (fun l=>some (.lst l)) (ak (dj (j4 40) (ak (kh (bw 1) (gb (fun l=>some (.tup l)) (ak (bw 2) (ak (aq (.int 0)) d9)))) d9)) d9))))))
noncomputable def uf:Fn:=iw 12
  (jc (sIf (gq (mOp eqO (mOp bx (bw 2) (aq (.int 0))) (aq (.str "start"))))
  (jr (dj vg (ak (bw 0) (ak (bw 1) (ak (mOp bx (bw 2) (aq (.int 1))) d9)))))
  m7)
  (jc (jw 3 (mOp bx (mOp bx (bw 0) (aq (.int 2))) (mOp bx (bw 2) (aq (.int 1)))))
  (jc (sNew 4 (gb (fun l=>some (.lst l)) (ak (dj (ig 40) (ak (gb (fun l=>some (.tup l)) (ak (aq (.str "at")) (ak (mOp bx (bw 3) (aq (.int 0))) (ak (mOp bx (bw 3) (aq (.int 1))) d9)))) d9)) d9)))
  (jc (sNew 5 (gb (fun l=>some (.lst l)) (ak (dj (ig 40) (ak (kh (bw 1) (gb (fun l=>some (.tup l)) (ak (mOp bx (bw 3) (aq (.int 0))) (ak (mOp bx (bw 3) (aq (.int 1))) d9)))) d9)) d9)))
  (jc (jw 6 (kh (bw 1) (gb (fun l=>some (.tup l)) (ak (mOp bx (bw 3) (aq (.int 0))) (ak (mOp bx (bw 3) (aq (.int 4))) d9)))))
  (jc (sIf (gq (mOp eqO (mOp bx (bw 2) (aq (.int 0))) (aq (.str "other"))))
  (jc (jw 6 (kh (bw 1) (gb (fun l=>some (.tup l)) (ak (mOp bx (bw 2) (aq (.int 2))) (ak (mOp bx (bw 2) (aq (.int 3))) d9)))))
  (jc (dz 4 (dj (ig 40) (ak (gb (fun l=>some (.tup l)) (ak (aq (.str "at")) (ak (mOp bx (bw 2) (aq (.int 2))) (ak (mOp bx (bw 2) (aq (.int 3))) d9)))) d9)))
  (dz 5 (dj (ig 40) (ak (bw 6) d9)))))
  m7)
  (jc (sNew 7 (mOp X6 (Bc 4 (bw 5)) (gb (fun l=>some (.lst l)) (ak (dj (ig 40) (ak (mOp bx (bw 3) (aq (.int 2))) d9)) d9))))
  (jc (m9 (m5 [8,9]) (jy (mOp bx (bw 3) (aq (.int 3))))
  (jc (sGo (m5 [10,11]) (mOp bx (p7 1 [8] (hName 0) (jy (mOp bx (bw 0) (aq (.int 0)))) (gq (mOp eqO (mOp bx (bw 0) (aq (.int 0))) (bw 1))) (gb (fun l=>some (.tup l)) (ak (mOp bx (bw 0) (aq (.int 2))) (ak (mOp bx (bw 0) (aq (.int 3))) d9)))) (aq (.int 0))))
  (dz 7 (gb (fun l=>some (.tup l)) (ak (aq (.str "and")) (ak (gb (fun l=>some (.tup l)) (ak (gb (fun l=>some (.tup l)) (ak (aq (.str "most")) (ak (dj jk (ak (gb (fun l=>some (.tup l)) (ak (bw 10) (ak (gb (fun l=>some (.tup l)) d9) d9))) (ak (bw 9) (ak (mUn qb (aq (.int 1))) d9)))) d9))) (ak (gb (fun l=>some (.tup l)) (ak (aq (.str "most")) (ak (dj jk (ak (bw 9) (ak (gb (fun l=>some (.tup l)) (ak (bw 11) (ak (gb (fun l=>some (.tup l)) d9) d9))) (ak (mUn qb (aq (.int 1))) d9)))) d9))) d9))) d9))))))
  (jr (Bc 7 (gb (fun l=>some (.lst l)) (ak (dj (j4 40) (ak (dj (jg 40) (ak (bw 6) (ak (bw 3) d9))) d9)) d9))))))))))))
noncomputable def Xq:Fn:=iw 10
  (jc (jw 1 (mOp eqO (mOp m6 (dj je (ak (bw 0) (ak (aq (.int 0)) d9))) (aq (.int 2))) (aq (.int 1))))
  (jc (jw 2 (dj v9 (ak (bw 0) (ak (bw 1) d9))))
  (jc (jw 3 Uq)
  (jc (jw 4 (aq (.int 9)))
  (jc (m9 (m5 [5,6]) (jy (mOp bx (bw 2) (aq (.int 1))))
  (m9 (hName 7) (gn (bw 6))
  (jc (Ii (bw 3) (ak (bw 5) (ak (bw 7) d9)) (dj mq (ak (dj m8 (ak (bw 0) (ak (bw 4) (ak (bw 1) d9)))) (ak (mOp bx (bw 2) (aq (.int 0))) (ak (mOp bx (bw 2) (aq (.int 1))) d9)))))
  (jw 4 (mOp lu (bw 4) (aq (.int 1)))))))
  (jc (m9 (hName 8) (jy (dj xr (ak (bw 2) d9)))
  (jc (sNew 9 (dj lg (ak (bw 2) (ak (bw 3) (ak (bw 8) d9)))))
  (jc (sIf (mOr (uc (gq (Mu 9))) (gq (Mx 9 (dj uf (ak (bw 2) (ak (bw 3) (ak (bw 8) d9)))))))
  (jr (aq (.bl false)))
  m7)
  (jc (dw 9)
  (sIf (gq (mOp neO (dj lg (ak (bw 2) (ak (bw 3) (ak (bw 8) d9)))) (dj uf (ak (bw 2) (ak (bw 3) (ak (bw 8) d9))))))
  (jr (aq (.bl false)))
  m7)))))
  (jr (aq (.bl true)))))))))
end K
end
noncomputable section
set_option linter.all false
set_option maxRecDepth 100000
set_option maxHeartbeats 8000000
namespace D
open PySem L2 C
noncomputable def top (i:Nat):Stmt:=PySem.Challenge.pw_calm_k44_forms_of_all_duties.main.body.getD i (.Pass ⟨0,0,0,0⟩)
noncomputable abbrev ll1:List Str:=["_law_script","_law_free","_law_first","_law_boxes","_law_k","_law_cell","_law_low","_law_hands","_law_steps","_law_digits_here","_law_hand","_law_places","_law_sets","_law_j","_law_guard"]
noncomputable abbrev ll2:List Str:=["_law_program_here","_law_annotation","_law_duty","_law_step","_law_ats","_law_remarks","_law_last","_law_forms","_law_box","_law_one","_law_low","_law_high"]
noncomputable abbrev ll3:List Str:=["_law_script","_law_free","_law_program_here","_law_annotation","_law_k","_law_hand","_law_places","_law_place","_law_duty","_law_found"]
noncomputable abbrev ll4:List Str:=["_law_digits_here","_law_boxes","_law_hands","_law_kind","_law_one","_law_other","_law_third","_law_many","_law_some"]
noncomputable abbrev ll5:List Str:=["_law_digits_here","_law_boxes","_law_hands","_law_kind","_law_hand","_law_places"]
noncomputable abbrev ll6:List Str:=["_law_one","_law_other","_law_times","_law_book","_law_box","_law_many"]
noncomputable abbrev ll7:List Str:=["_law_digits_here","_law_boxes","_law_parts","_law_k","_law_times"]
noncomputable abbrev ll8:List Str:=["program","sets","ends","box","owner","low","high","start"]
noncomputable abbrev ll9:List Str:=["_law_program_here","_law_annotation","_law_hand","_law_forms"]
noncomputable abbrev abq:List Str:=["_law_one","_law_sets","_law_total","_law_box","_law_times"]
noncomputable abbrev abr:List Str:=["program","annotation","step","others","stood","forms"]
noncomputable abbrev aan:List Str:=["program","annotation","step","others","asked","forms"]
noncomputable abbrev abg:List Str:=["one","sets","number","pairs","box","times","inner"]
noncomputable abbrev abb:List Str:=["program","annotation","duty","step","asked","there"]
noncomputable abbrev a5y:List Str:=["_law_program_here","_law_annotation","_law_hand"]
noncomputable abbrev a7v:List Str:=["_law_program_here","_law_annotation","_law_duty"]
noncomputable abbrev abp:List Str:=["number","pairs","times","box","many","parts"]
noncomputable abbrev a7h:List Str:=["program","annotation","step","others","asked"]
noncomputable abbrev aat:List Str:=["_law_script","_law_k","_law_free","_law_cell"]
noncomputable abbrev ab3:List Str:=["program","number","duties","hand","places"]
noncomputable abbrev Ul:List Str:=["_law_digits_here","_law_boxes","_law_hands"]
noncomputable abbrev a6q:List Str:=["program","annotation","step","others"]
noncomputable abbrev abz:List Str:=["program","numbers","duties","number"]
noncomputable abbrev ab1:List Str:=["program","annotation","hand","forms"]
noncomputable abbrev aax:List Str:=["remark","hand","sets","to","kind"]
noncomputable abbrev Xx:List Str:=["_law_one","_law_other","_law_times"]
noncomputable abbrev a5c:List Str:=["_law_script","_law_k","_law_free"]
noncomputable abbrev a3q:List Str:=["_law_digits_here","_law_boxes"]
noncomputable abbrev a78:List Str:=["program","annotation","hand"]
noncomputable abbrev a7p:List Str:=["program","annotation","duty"]
noncomputable abbrev Vu:List Str:=["_law_remark_here","_law_step"]
noncomputable abbrev M6:List Str:=["remark","hand","sets","to"]
noncomputable abbrev a7q:List Str:=["_law_remark_here","_law_box"]
noncomputable abbrev a7u:List Str:=["_law_script","_law_free"]
noncomputable abbrev abd:List Str:=["_law_name","_law_places"]
noncomputable abbrev a1x:List Str:=["_law_box","_law_number"]
noncomputable abbrev a1v:List Str:=["_law_cell","_law_most"]
noncomputable abbrev Wo:List Str:=["_law_script","_law_k"]
noncomputable abbrev a5o:List Str:=["_law_one","_law_sets"]
noncomputable abbrev aal:List Str:=["box","many","times"]
noncomputable abbrev Yx:List Str:=["remark","hand","to"]
noncomputable abbrev a1w:List Str:=["one","low","high"]
noncomputable abbrev abu:List Str:=["box","one","ends"]
noncomputable abbrev a74:List Str:=["program","number"]
noncomputable abbrev Ia:List Str:=["_law_remark_here"]
noncomputable abbrev a0q:List Str:=["number","pairs"]
noncomputable abbrev a68:List Str:=["program","sets"]
noncomputable abbrev a7t:List Str:=["remark","kind"]
noncomputable abbrev Jb:List Str:=["box","number"]
noncomputable abbrev Kp:List Str:=["one","other"]
noncomputable abbrev Xz:List Str:=["one","times"]
noncomputable abbrev a4o:List Str:=["one","sets"]
noncomputable abbrev aau:List Str:=["_law_script"]
noncomputable abbrev a7o:List Str:=["program"]
noncomputable abbrev Ib:List Str:=["remark"]
noncomputable abbrev Us:List Str:=["hand"]
noncomputable section
variable {P:Program} {w:World} {K:PySem.W.Frag} {mg:Str→Option Value} {base:Heap} {f:Addr} {fd:FuncData}
noncomputable abbrev Jd:Stmt:=top 1
theorem Qo:jx abp a0q (j7 Jd):=⟨rfl,rfl,rfl,by decide +kernel,rfl,by decide +kernel,by decide +kernel⟩
theorem Ye (F:Fun K "sum_of" "sum_of" Jd f fd) (b_sorted:mg "sorted" = none) (b_tuple:mg "tuple" = none):zy P w K mg base CX0 1 f fd a0q (spF K a0q.length _root_.K.yj):=by
  refine mj (N:=abp) F Qo (by decide)  fun cdv A outer s H E B hr=>?_
  have hu:=wj hr
  have hq:=hr.units
  have nd:abp.Nodup:=Qo.nd
  refine gj ?_ ?_
  · exact Am 2 (kj nd rfl (Or.inr rfl) Yi) (fun _ _ _ h=>h)
  · refine gj ?_ ?_
    · refine Bl ?_ ?_ ?_ ?_ ?_ ?_
      · exact PassesOwn.never
      · exact rfl
      · exact v8 (au 1 (pv 1))
      · exact Ai (is:=[3,4]) (Al rfl (jt (j8 nd rfl (Or.inl rfl)) (jt (j8 nd rfl (Or.inl rfl)) yd)))
      · exact jd (Kd 2 hu (pv 2) (au 3 (pv 3)) (ju qj (R8 2 hu (pv 2) (au 3 (pv 3)) cg ⟨rfl,rfl,rfl,rfl⟩) (au 4 (pv 4))) rfl)
      · exact v7
    · refine gj ?_ ?_
      · exact ni 5 (Ig (N:=["box","times"]) ⟨rfl,rfl,by decide +kernel,by decide +kernel⟩ rfl (v8 (n6 (yt (Ir (by rfl)) (by rfl) b_sorted PyProof.Rows.boot_sorted (aj (au 2 (pv 2)) bf)))) (fun C s₀ H₀ ex pn=>pgE fun B=>(uh 0 (j8 (show (["box","times"]:List Str).Nodup by decide +kernel) rfl (Or.inl rfl)))) (fun C s₀ H₀ ex pn=>(O2 fun B=>(nu (Ji hq) (iu hu (au 1 (pv 1)) (au 0 (pv 0)) (fun _ _=>rfl)) cg (n8 _)))) (fun C s₀ H₀ ex pn=>peE fun B=>(fj (aj (au 0 (pv 0)) (aj (iu hu (au 1 (pv 1)) (au 0 (pv 0)) (fun _ _=>rfl)) bf)) (dg (ao (ao cj)) (by decide)))) (j8 nd rfl (Or.inl rfl)) rfl) (fun σ H Q h=>Jq ⟨rfl,fun j k h=>match j,h with | 0,h=>(by cases h; exact ⟨_,rfl,rfl,⟨.inl rfl,.inr (.inl rfl),.inl rfl⟩⟩) | _+1,h=>(by cases h)⟩ v7 (Vw h))
      · exact jd (jo (fj (aj (au 0 (pv 0)) (aj (n6 (qt ud (by rfl) b_tuple PyProof.Rows.boot_tuple (aj (au 5 (pv 5)) bf))) bf)) (dg (ao (ao cj)) (by decide))))
theorem Zn (F:Fun K "sum_of" "sum_of" Jd f fd) (hmg:mg "sum_of" = some (.ref f)) (b_sorted:mg "sorted" = none) (b_tuple:mg "tuple" = none):gw P w K mg base "sum_of" 1 a0q _root_.K.yj :=
  ⟨f,fd,Ye F b_sorted b_tuple,F.binds (ps:=a0q) fun _ _ _ _ _ _ us hl=>bd2 (fun _ _=>rfl) us hl,F.kp,hmg⟩
noncomputable abbrev Vi:Stmt:=top 2
theorem a0y:jx Kp Kp (j7 Vi):=⟨rfl,rfl,rfl,by decide +kernel,rfl,by decide +kernel,by decide +kernel⟩
theorem a6a (F:Fun K "plus" "plus" Vi f fd) (d_sum_of:gw P w K mg base "sum_of" 1 a0q (_root_.K.yj)):zy P w K mg base CX0 2 f fd Kp (spF K Kp.length _root_.K.Kq):=by
  have d_sum_of:=d_sum_of.mono (by decide:1≤1)
  refine mj (N:=Kp) F a0y (by decide)  fun cdv A outer s H E B hr=>?_
  have hu:=wj hr
  have hq:=hr.units
  have nd:Kp.Nodup:=a0y.nd
  refine jd ?_
  · refine jo ?_
    · refine gk d_sum_of ?_ ?_ ?_ ?_
      · exact hr
      · exact by rfl
      · exact aj (ju qj (iu hu (au 0 (pv 0)) cg (fun _ _=>rfl)) (iu hu (au 1 (pv 1)) cg (fun _ _=>rfl))) (aj (ju qj (iu hu (au 0 (pv 0)) cg (fun _ _=>rfl)) (iu hu (au 1 (pv 1)) cg (fun _ _=>rfl))) bf)
      · exact d7 (d7 eq_nil)
theorem a5v (F:Fun K "plus" "plus" Vi f fd) (hmg:mg "plus" = some (.ref f)) (d_sum_of:gw P w K mg base "sum_of" 1 a0q (_root_.K.yj)):gw P w K mg base "plus" 2 Kp _root_.K.Kq :=
  ⟨f,fd,a6a F d_sum_of,F.binds (ps:=Kp) fun _ _ _ _ _ _ us hl=>bd2 (fun _ _=>rfl) us hl,F.kp,hmg⟩
noncomputable abbrev s_by:Stmt:=top 4
theorem a8v:jx Xz Xz (j7 s_by):=⟨rfl,rfl,rfl,by decide +kernel,rfl,by decide +kernel,by decide +kernel⟩
theorem aav (F:Fun K "by" "by" s_by f fd) (d_sum_of:gw P w K mg base "sum_of" 1 a0q (_root_.K.yj)):zy P w K mg base CX0 2 f fd Xz (spF K Xz.length _root_.K.Zc):=by
  have d_sum_of:=d_sum_of.mono (by decide:1≤1)
  refine mj (N:=Xz) F a8v (by decide)  fun cdv A outer s H E B hr=>?_
  have hu:=wj hr
  have hq:=hr.units
  have nd:Xz.Nodup:=a8v.nd
  refine jd ?_
  · refine jo ?_
    · refine gk d_sum_of ?_ ?_ ?_ ?_
      · exact hr
      · exact by rfl
      · refine aj ?_ ?_
        · exact ju Dh (iu hu (au 0 (pv 0)) cg (fun _ _=>rfl)) (au 1 (pv 1))
        · refine aj ?_ ?_
          · refine su ?_
            · refine xg (N:=aal) ?_ ?_ ?_ ?_ ?_ ?_ ?_ ?_
              · exact ⟨rfl,fun j k h=>match j,h with | 0,h=>(by cases h; exact ⟨_,rfl,rfl,⟨.inl rfl,.inr (.inl rfl),.inl rfl⟩⟩) | _+1,h=>(by cases h)⟩
              · exact ⟨rfl,rfl,by decide +kernel,by decide +kernel⟩
              · exact rfl
              · exact v8 (iu hu (au 0 (pv 0)) cg (fun _ _=>rfl))
              · exact v7
              · exact fun C s₀ H₀ ex pn=>pgE fun B=>(Ai (is:=[0,1]) (Al rfl (jt (j8 (show aal.Nodup by decide +kernel) rfl (Or.inl rfl)) (jt (j8 (show aal.Nodup by decide +kernel) rfl (Or.inl rfl)) yd))))
              · exact fun C s₀ H₀ ex pn=>rm
              · exact fun C s₀ H₀ ex pn=>peE fun B=>(fj (aj (au 0 (pv 0)) (aj (ju Dh (au 1 (pv 1)) (au 2 (pv 2))) bf)) (dg (ao (ao cj)) (by decide)))
          · exact bf
      · exact d7 (d7 eq_nil)
theorem ab9 (F:Fun K "by" "by" s_by f fd) (hmg:mg "by" = some (.ref f)) (d_sum_of:gw P w K mg base "sum_of" 1 a0q (_root_.K.yj)):gw P w K mg base "by" 2 Xz _root_.K.Zc :=
  ⟨f,fd,aav F d_sum_of,F.binds (ps:=Xz) fun _ _ _ _ _ _ us hl=>bd2 (fun _ _=>rfl) us hl,F.kp,hmg⟩
noncomputable abbrev Pq:Stmt:=top 3
theorem Vs:jx Kp Kp (j7 Pq):=⟨rfl,rfl,rfl,by decide +kernel,rfl,by decide +kernel,by decide +kernel⟩
theorem a2s (F:Fun K "minus" "minus" Pq f fd) (d_by:gw P w K mg base "by" 2 Xz (_root_.K.Zc)) (d_plus:gw P w K mg base "plus" 2 Kp (_root_.K.Kq)):zy P w K mg base CX0 3 f fd Kp (spF K Kp.length _root_.K.vo):=by
  have d_by:=d_by.mono (by decide:2≤2)
  have d_plus:=d_plus.mono (by decide:2≤2)
  refine mj (N:=Kp) F Vs (by decide)  fun cdv A outer s H E B hr=>?_
  have hu:=wj hr
  have hq:=hr.units
  have nd:Kp.Nodup:=Vs.nd
  exact jd (jo (gk d_plus hr (by rfl) (aj (au 0 (pv 0)) (aj (gk d_by hr (by rfl) (aj (au 1 (pv 1)) (aj (Gi yw cg) bf)) (d7 (d7 eq_nil))) bf)) (d7 (d7 eq_nil))))
theorem a2h (F:Fun K "minus" "minus" Pq f fd) (hmg:mg "minus" = some (.ref f)) (d_by:gw P w K mg base "by" 2 Xz (_root_.K.Zc)) (d_plus:gw P w K mg base "plus" 2 Kp (_root_.K.Kq)):gw P w K mg base "minus" 3 Kp _root_.K.vo :=
  ⟨f,fd,a2s F d_by d_plus,F.binds (ps:=Kp) fun _ _ _ _ _ _ us hl=>bd2 (fun _ _=>rfl) us hl,F.kp,hmg⟩
noncomputable abbrev a2a:Stmt:=top 5
theorem a4j:jx abg a4o (j7 a2a):=⟨rfl,rfl,rfl,by decide +kernel,rfl,by decide +kernel,by decide +kernel⟩
theorem a8k (F:Fun K "put" "put" a2a f fd) (d_by:gw P w K mg base "by" 2 Xz (_root_.K.Zc)) (d_sum_of:gw P w K mg base "sum_of" 1 a0q (_root_.K.yj)):zy P w K mg base CX0 3 f fd a4o (spF K a4o.length _root_.K.Rh):=by
  have d_by:=d_by.mono (by decide:2≤2)
  have d_sum_of:=d_sum_of.mono (by decide:1≤2)
  refine mj (N:=abg) F a4j (by decide)  fun cdv A outer s H E B hr=>?_
  have hu:=wj hr
  have hq:=hr.units
  have nd:abg.Nodup:=a4j.nd
  refine gj ?_ ?_
  · exact ni 2 (kj nd rfl (Or.inl rfl) (iu hu (au 0 (pv 0)) cg (fun _ _=>rfl))) (fun _ _ _ h=>h)
  · refine gj ?_ ?_
    · exact Am 3 (kj nd rfl (Or.inl rfl) (J1 bf (dg cj (by decide)))) (fun _ _ _ h=>h)
    · refine gj ?_ ?_
      · refine Bl ?_ ?_ ?_ ?_ ?_ ?_
        · exact PassesOwn.never
        · exact rfl
        · exact v8 (iu hu (au 0 (pv 0)) cg (fun _ _=>rfl))
        · exact Ai (is:=[4,5]) (Al rfl (jt (j8 nd rfl (Or.inl rfl)) (jt (j8 nd rfl (Or.inl rfl)) yd)))
        · refine gj ?_ ?_
          · refine @ni _ _ _ _ (tOf _ _ _) _ ?_ (fun _ _ _ h=>h)
            · refine kj ?_ ?_ ?_ ?_
              · exact nd
              · exact rfl
              · exact Or.inl rfl
              · refine a4s ?_ ?_ ?_ ?_ ?_
                · exact hu
                · exact au 1 (pv 1)
                · exact au 4 (pv 4)
                · exact fj (aj cg (aj (fj (aj (fj (aj (au 4 (pv 4)) (aj cg bf)) (dg (ao (ao cj)) (by decide))) bf) (dg (ao cj) (by decide))) bf)) (dg (ao (ao cj)) (by decide))
                · exact ⟨rfl,rfl,rfl,rfl⟩
          · refine gj ?_ ?_
            · exact ni 2 (kj nd rfl (Or.inl rfl) (ju qj (au 2 (pv 2)) (ju Dh (au 5 (pv 5)) (iu hu (au 6 (pv 6)) cg (fun _ _=>rfl))))) (fun _ _ _ h=>h)
            · exact jd (Bm 3 (wk (Eo PySem.F.plainAttrs_list PySem.F.slot_list_extend PySem.F.type_list_extend Ac (pv 3) (qw (iu hu (gk d_by hr (by rfl) (aj (au 6 (pv 6)) (aj (au 5 (pv 5)) bf)) (d7 (d7 eq_nil))) cg (fun _ _=>rfl)) w6))))
        · exact v7
      · exact jd (jo (gk d_sum_of hr (by rfl) (aj (au 2 (pv 2)) (aj (au 3 (pv 3)) bf)) (d7 (d7 eq_nil))))
theorem a88 (F:Fun K "put" "put" a2a f fd) (hmg:mg "put" = some (.ref f)) (d_by:gw P w K mg base "by" 2 Xz (_root_.K.Zc)) (d_sum_of:gw P w K mg base "sum_of" 1 a0q (_root_.K.yj)):gw P w K mg base "put" 3 a4o _root_.K.Rh :=
  ⟨f,fd,a8k F d_by d_sum_of,F.binds (ps:=a4o) fun _ _ _ _ _ _ us hl=>bd2 (fun _ _=>rfl) us hl,F.kp,hmg⟩
noncomputable abbrev Aw:Stmt:=top 11
theorem G3:jx Yx Yx (j7 Aw):=⟨rfl,rfl,rfl,by decide +kernel,rfl,by decide +kernel,by decide +kernel⟩
theorem Lr (F:Fun K "place_ahead" "place_ahead" Aw f fd) (c_FALSE_ONE:∃ u,mg "FALSE_ONE" = some u∧Held K u (.tup [(.str "or"),(.tup [])])) (c_TRUE_ONE:∃ u,mg "TRUE_ONE" = some u∧Held K u (.tup [(.str "and"),(.tup [])])):zy P w K mg base CX0 1 f fd Yx (spF K Yx.length _root_.K.qz):=by
  refine mj (N:=Yx) F G3 (by decide)  fun cdv A outer s H E B hr=>?_
  have hu:=wj hr
  have hq:=hr.units
  have nd:Yx.Nodup:=G3.nd
  refine gj ?_ ?_
  · exact wz (nu (Ji hq) (iu hu (au 0 (pv 0)) cg (fun _ _=>rfl)) (au 1 (pv 1)) (n8 _))   (jd (jo (au 0 (pv 0))))   qy
  · exact jd (jo (a2u (nu (ug hq) (iu hu (au 0 (pv 0)) cg (fun _ _=>rfl)) (au 2 (pv 2)) (n8 _)) (W4 (by rfl) c_TRUE_ONE) (W4 (by rfl) c_FALSE_ONE)))
theorem La (F:Fun K "place_ahead" "place_ahead" Aw f fd) (hmg:mg "place_ahead" = some (.ref f)) (c_FALSE_ONE:∃ u,mg "FALSE_ONE" = some u∧Held K u (.tup [(.str "or"),(.tup [])])) (c_TRUE_ONE:∃ u,mg "TRUE_ONE" = some u∧Held K u (.tup [(.str "and"),(.tup [])])):gw P w K mg base "place_ahead" 1 Yx _root_.K.qz :=
  ⟨f,fd,Lr F c_FALSE_ONE c_TRUE_ONE,F.binds (ps:=Yx) fun _ _ _ _ _ _ us hl=>bd3 (fun _ _ _=>rfl) us hl,F.kp,hmg⟩
noncomputable abbrev zx:Stmt:=top 10
theorem G9:jx aax M6 (j7 zx):=⟨rfl,rfl,rfl,by decide +kernel,rfl,by decide +kernel,by decide +kernel⟩
theorem Ln (F:Fun K "asked_ahead" "asked_ahead" zx f fd) {nn:Nat} (d_asked_ahead:gw P w K mg base "asked_ahead" (3+nn) M6 (_root_.K.jl nn)) (d_place_ahead:gw P w K mg base "place_ahead" 1 Yx (_root_.K.qz)) (d_put:gw P w K mg base "put" 3 a4o (_root_.K.Rh)) (b_tuple:mg "tuple" = none):zy P w K mg base CX0 (3+nn+1) f fd M6 (spF K M6.length (_root_.K.jl (nn+1))):=by
  have d_asked_ahead:=d_asked_ahead.mono (show (3+nn)≤(3+nn) by first | decide | omega)
  have d_place_ahead:=d_place_ahead.mono (show 1≤(3+nn) by first | decide | omega)
  have d_put:=d_put.mono (show 3≤(3+nn) by first | decide | omega)
  refine mj (N:=aax) F G9 (by decide)  fun cdv A outer s H E B hr=>?_
  have hu:=wj hr
  have hq:=hr.units
  have nd:aax.Nodup:=G9.nd
  refine gj ?_ ?_
  · exact ni 4 (kj nd rfl (Or.inl rfl) (iu hu (au 0 (pv 0)) cg (fun _ _=>rfl))) (fun _ _ _ h=>h)
  · refine gj ?_ ?_
    · refine wz ?_ ?_ ?_
      · exact nu (ug hq) (au 4 (pv 4)) iy (n8 _)
      · exact jd (jo (fj (aj iy (aj (gk d_put hr (by rfl) (aj (iu hu (au 0 (pv 0)) cg (fun _ _=>rfl)) (aj (au 2 (pv 2)) bf)) (d7 (d7 eq_nil))) bf)) (dg (ao (ao cj)) (by decide))))
      · exact qy
    · refine gj ?_ ?_
      · refine wz ?_ ?_ ?_
        · exact nu (ug hq) (au 4 (pv 4)) iy (n8 _)
        · refine jd ?_
          · refine jo ?_
            · refine fj ?_ ?_
              · exact aj iy (aj (gk d_put hr (by rfl) (aj (iu hu (au 0 (pv 0)) cg (fun _ _=>rfl)) (aj (au 2 (pv 2)) bf)) (d7 (d7 eq_nil))) (aj (iu hu (au 0 (pv 0)) cg (fun _ _=>rfl)) bf))
              · exact dg (ao (ao (ao cj))) (by decide)
        · exact qy
      · refine gj ?_ ?_
        · exact wz (nu (ug hq) (au 4 (pv 4)) iy (n8 _))   (jd (jo (gk d_place_ahead hr (by rfl) (aj (au 0 (pv 0)) (aj (au 1 (pv 1)) (aj (au 3 (pv 3)) bf))) (d7 (d7 (d7 eq_nil))))))   qy
        · refine gj ?_ ?_
          · refine wz ?_ ?_ ?_
            · exact nu (ug hq) (au 4 (pv 4)) iy (n8 _)
            · refine jd ?_
              · refine jo ?_
                · refine fj ?_ ?_
                  · exact aj iy (aj (gk d_asked_ahead hr (by rfl) (aj (iu hu (au 0 (pv 0)) cg (fun _ _=>rfl)) (aj (au 1 (pv 1)) (aj (au 2 (pv 2)) (aj (au 3 (pv 3)) bf)))) (d7 (d7 (d7 (d7 eq_nil))))) bf)
                  · exact dg (ao (ao cj)) (by decide)
            · exact qy
          · refine jd ?_
            · refine jo ?_
              · refine fj ?_ ?_
                · refine aj ?_ ?_
                  · exact au 4 (pv 4)
                  · refine aj ?_ ?_
                    · refine n6 ?_
                      · refine qt ud ?_ ?_ PyProof.Rows.boot_tuple ?_
                        · exact by rfl
                        · exact b_tuple
                        · refine aj ?_ ?_
                          · refine su ?_
                            · refine xg (N:=["member","hand","sets","to"]) ?_ ?_ ?_ ?_ ?_ ?_ ?_ ?_
                              · refine ⟨rfl,fun j k h=>match j,h with | 0,h=>(by cases h; exact ⟨_,rfl,rfl,⟨.inl rfl,.inr (.inl rfl),.inl rfl⟩⟩) | 1,h=>(by cases h; exact ⟨_,rfl,rfl,⟨.inl rfl,.inr (.inl rfl),.inl rfl⟩⟩) | 2,h=>(by cases h; exact ⟨_,rfl,rfl,⟨.inl rfl,.inr (.inl rfl),.inl rfl⟩⟩) | _+3,h=>(by cases h)⟩
                              · exact ⟨rfl,rfl,by decide +kernel,by decide +kernel⟩
                              · exact rfl
                              · exact v8 (iu hu (au 0 (pv 0)) cg (fun _ _=>rfl))
                              · exact v7
                              · exact fun C s₀ H₀ ex pn=>pgE fun B=>(uh 0 (j8 (show (["member","hand","sets","to"]:List Str).Nodup by decide +kernel) rfl (Or.inl rfl)))
                              · exact fun C s₀ H₀ ex pn=>rm
                              · exact fun C s₀ H₀ ex pn=>peE fun B=>(gk d_asked_ahead hr (by rfl) (aj (au 0 (pv 0)) (aj (au 1 (pv 1)) (aj (au 2 (pv 2)) (aj (au 3 (pv 3)) bf)))) (d7 (d7 (d7 (d7 eq_nil)))))
                          · exact bf
                    · exact bf
                · exact dg (ao (ao cj)) (by decide)
theorem M5 (F:Fun K "asked_ahead" "asked_ahead" zx f fd) (hmg:mg "asked_ahead" = some (.ref f)) {nn:Nat} (d_asked_ahead:gw P w K mg base "asked_ahead" (3+nn) M6 (_root_.K.jl nn)) (d_place_ahead:gw P w K mg base "place_ahead" 1 Yx (_root_.K.qz)) (d_put:gw P w K mg base "put" 3 a4o (_root_.K.Rh)) (b_tuple:mg "tuple" = none):gw P w K mg base "asked_ahead" (3+nn+1) M6 (_root_.K.jl (nn+1)) :=
  ⟨f,fd,Ln F d_asked_ahead d_place_ahead d_put b_tuple,F.binds (ps:=M6) fun _ _ _ _ _ _ us hl=>bd4 (fun _ _ _ _=>rfl) us hl,F.kp,hmg⟩
theorem Em {f_asked_ahead:Addr} {fd_asked_ahead:FuncData} (F_asked_ahead:Fun K "asked_ahead" "asked_ahead" zx f_asked_ahead fd_asked_ahead) (h_asked_ahead:mg "asked_ahead" = some (.ref f_asked_ahead)) (d_place_ahead:gw P w K mg base "place_ahead" 1 Yx _root_.K.qz) (d_put:gw P w K mg base "put" 3 a4o _root_.K.Rh) (b_tuple:mg "tuple" = none):∀ nn:Nat,gw P w K mg base "asked_ahead" (3+nn) M6 (_root_.K.jl nn)
  | 0=>gw.zero F_asked_ahead h_asked_ahead (F_asked_ahead.binds (ps:=M6) fun _ _ _ _ _ _ us hl=>bd4 (fun _ _ _ _=>rfl) us hl)
  | nn+1=>by
    have ih:=Em F_asked_ahead h_asked_ahead d_place_ahead d_put b_tuple nn
    have d_asked_ahead:=ih
    exact M5 F_asked_ahead h_asked_ahead d_asked_ahead d_place_ahead d_put b_tuple
noncomputable abbrev J7:Stmt:=top 9
theorem R7:jx M6 M6 (j7 J7):=⟨rfl,rfl,rfl,by decide +kernel,rfl,by decide +kernel,by decide +kernel⟩
theorem a1c (F:Fun K "behind" "behind" J7 f fd) (d_asked_ahead:gw P w K mg base "asked_ahead" 43 M6 (_root_.K.jl 40)) (b_dict:mg "dict" = none):zy P w K mg base CX0 44 f fd M6 (spF K M6.length _root_.K.Ad):=by
  have d_asked_ahead:=d_asked_ahead.mono (by decide:43≤43)
  refine mj (N:=M6) F R7 (by decide)  fun cdv A outer s H E B hr=>?_
  have hu:=wj hr
  have hq:=hr.units
  have nd:M6.Nodup:=R7.nd
  refine jd ?_
  · refine jo ?_
    · refine gk d_asked_ahead ?_ ?_ ?_ ?_
      · exact hr
      · exact by rfl
      · exact aj (au 0 (pv 0)) (aj (au 1 (pv 1)) (aj (n6 (qt (Ms (by rfl)) (by rfl) b_dict PyProof.Rows.boot_dict (aj (au 2 (pv 2)) bf))) (aj (au 3 (pv 3)) bf)))
      · exact d7 (d7 (d7 (d7 eq_nil)))
theorem Y9 (F:Fun K "behind" "behind" J7 f fd) (hmg:mg "behind" = some (.ref f)) (d_asked_ahead:gw P w K mg base "asked_ahead" 43 M6 (_root_.K.jl 40)) (b_dict:mg "dict" = none):gw P w K mg base "behind" 44 M6 _root_.K.Ad :=
  ⟨f,fd,a1c F d_asked_ahead b_dict,F.binds (ps:=M6) fun _ _ _ _ _ _ us hl=>bd4 (fun _ _ _ _=>rfl) us hl,F.kp,hmg⟩
noncomputable abbrev Dn:Stmt:=top 14
theorem Iu:jx Us Us (j7 Dn):=⟨rfl,rfl,rfl,by decide +kernel,rfl,by decide +kernel,by decide +kernel⟩
theorem Qw (F:Fun K "place_box" "place_box" Dn f fd):zy P w K mg base CX0 1 f fd Us (spF K Us.length _root_.K.nq):=by
  refine mj (N:=Us) F Iu (by decide)  fun cdv A outer s H E B hr=>?_
  have hu:=wj hr
  have hq:=hr.units
  have nd:Us.Nodup:=Iu.nd
  exact jd (jo (ju qj iy (au 0 (pv 0))))
theorem Rn (F:Fun K "place_box" "place_box" Dn f fd) (hmg:mg "place_box" = some (.ref f)):gw P w K mg base "place_box" 1 Us _root_.K.nq :=
  ⟨f,fd,Qw F,F.binds (ps:=Us) fun _ _ _ _ _ _ us hl=>bd1 (fun _=>rfl) us hl,F.kp,hmg⟩
noncomputable abbrev Ce:Stmt:=top 15
theorem Gx:jx Jb Jb (j7 Ce):=⟨rfl,rfl,rfl,by decide +kernel,rfl,by decide +kernel,by decide +kernel⟩
theorem O9 (F:Fun K "equal_form" "equal_form" Ce f fd):zy P w K mg base CX0 1 f fd Jb (spF K Jb.length _root_.K.mz):=by
  refine mj (N:=Jb) F Gx (by decide)  fun cdv A outer s H E B hr=>?_
  have hu:=wj hr
  have hq:=hr.units
  have nd:Jb.Nodup:=Gx.nd
  refine jd ?_
  · refine jo ?_
    · refine fj ?_ ?_
      · refine aj ?_ ?_
        · exact iy
        · refine aj ?_ ?_
          · refine fj ?_ ?_
            · refine aj ?_ ?_
              · refine fj ?_ ?_
                · refine aj ?_ ?_
                  · exact iy
                  · refine aj ?_ ?_
                    · exact fj (aj (Gi yw (au 1 (pv 1))) (aj (fj (aj (fj (aj (au 0 (pv 0)) (aj cg bf)) (dg (ao (ao cj)) (by decide))) bf) (dg (ao cj) (by decide))) bf)) (dg (ao (ao cj)) (by decide))
                    · exact bf
                · exact dg (ao (ao cj)) (by decide)
              · refine aj ?_ ?_
                · refine fj ?_ ?_
                  · refine aj ?_ ?_
                    · exact iy
                    · refine aj ?_ ?_
                      · exact fj (aj (au 1 (pv 1)) (aj (fj (aj (fj (aj (au 0 (pv 0)) (aj (Gi yw cg) bf)) (dg (ao (ao cj)) (by decide))) bf) (dg (ao cj) (by decide))) bf)) (dg (ao (ao cj)) (by decide))
                      · exact bf
                  · exact dg (ao (ao cj)) (by decide)
                · exact bf
            · exact dg (ao (ao cj)) (by decide)
          · exact bf
      · exact dg (ao (ao cj)) (by decide)
theorem Pk (F:Fun K "equal_form" "equal_form" Ce f fd) (hmg:mg "equal_form" = some (.ref f)):gw P w K mg base "equal_form" 1 Jb _root_.K.mz :=
  ⟨f,fd,O9 F,F.binds (ps:=Jb) fun _ _ _ _ _ _ us hl=>bd2 (fun _ _=>rfl) us hl,F.kp,hmg⟩
noncomputable abbrev Ae:Stmt:=top 16
theorem En:jx Jb Jb (j7 Ae):=⟨rfl,rfl,rfl,by decide +kernel,rfl,by decide +kernel,by decide +kernel⟩
theorem Jk (F:Fun K "unequal_form" "unequal_form" Ae f fd):zy P w K mg base CX0 1 f fd Jb (spF K Jb.length _root_.K.uo):=by
  refine mj (N:=Jb) F En (by decide)  fun cdv A outer s H E B hr=>?_
  have hu:=wj hr
  have hq:=hr.units
  have nd:Jb.Nodup:=En.nd
  refine jd ?_
  · refine jo ?_
    · refine fj ?_ ?_
      · refine aj ?_ ?_
        · exact iy
        · refine aj ?_ ?_
          · refine fj ?_ ?_
            · refine aj ?_ ?_
              · refine fj ?_ ?_
                · refine aj ?_ ?_
                  · exact iy
                  · refine aj ?_ ?_
                    · refine fj ?_ ?_
                      · exact aj (ju Ny cg (au 1 (pv 1))) (aj (fj (aj (fj (aj (au 0 (pv 0)) (aj cg bf)) (dg (ao (ao cj)) (by decide))) bf) (dg (ao cj) (by decide))) bf)
                      · exact dg (ao (ao cj)) (by decide)
                    · exact bf
                · exact dg (ao (ao cj)) (by decide)
              · refine aj ?_ ?_
                · refine fj ?_ ?_
                  · refine aj ?_ ?_
                    · exact iy
                    · refine aj ?_ ?_
                      · refine fj ?_ ?_
                        · exact aj (ju qj (au 1 (pv 1)) cg) (aj (fj (aj (fj (aj (au 0 (pv 0)) (aj (Gi yw cg) bf)) (dg (ao (ao cj)) (by decide))) bf) (dg (ao cj) (by decide))) bf)
                        · exact dg (ao (ao cj)) (by decide)
                      · exact bf
                  · exact dg (ao (ao cj)) (by decide)
                · exact bf
            · exact dg (ao (ao cj)) (by decide)
          · exact bf
      · exact dg (ao (ao cj)) (by decide)
theorem Jo (F:Fun K "unequal_form" "unequal_form" Ae f fd) (hmg:mg "unequal_form" = some (.ref f)):gw P w K mg base "unequal_form" 1 Jb _root_.K.uo :=
  ⟨f,fd,Jk F,F.binds (ps:=Jb) fun _ _ _ _ _ _ us hl=>bd2 (fun _ _=>rfl) us hl,F.kp,hmg⟩
noncomputable abbrev Aj:Stmt:=top 17
theorem Gk:jx a7t Ib (j7 Aj):=⟨rfl,rfl,rfl,by decide +kernel,rfl,by decide +kernel,by decide +kernel⟩
theorem Pg (F:Fun K "plain_form" "plain_form" Aj f fd) {nn:Nat} (d_against_form:gw P w K mg base "against_form" (3+nn) Ib (_root_.K.iz nn)) (d_equal_form:gw P w K mg base "equal_form" 1 Jb (_root_.K.mz)) (d_place_box:gw P w K mg base "place_box" 1 Us (_root_.K.nq)) (d_plain_form:gw P w K mg base "plain_form" (3+nn) Ib (_root_.K.j9 nn)) (b_tuple:mg "tuple" = none):zy P w K mg base CX0 (3+nn+1) f fd Ib (spF K Ib.length (_root_.K.j9 (nn+1))):=by
  have d_against_form:=d_against_form.mono (show (3+nn)≤(3+nn) by first | decide | omega)
  have d_equal_form:=d_equal_form.mono (show 1≤(3+nn) by first | decide | omega)
  have d_place_box:=d_place_box.mono (show 1≤(3+nn) by first | decide | omega)
  have d_plain_form:=d_plain_form.mono (show (3+nn)≤(3+nn) by first | decide | omega)
  refine mj (N:=a7t) F Gk (by decide)  fun cdv A outer s H E B hr=>?_
  have hu:=wj hr
  have hq:=hr.units
  have nd:a7t.Nodup:=Gk.nd
  refine gj ?_ ?_
  · exact ni 1 (kj nd rfl (Or.inl rfl) (iu hu (au 0 (pv 0)) cg (fun _ _=>rfl))) (fun _ _ _ h=>h)
  · refine gj ?_ ?_
    · refine wz ?_ ?_ ?_
      · exact nu (ug hq) (au 1 (pv 1)) iy (n8 _)
      · exact jd (jo (gk d_equal_form hr (by rfl) (aj (gk d_place_box hr (by rfl) (aj (iu hu (au 0 (pv 0)) cg (fun _ _=>rfl)) bf) (d7 eq_nil)) (aj (iu hu (au 0 (pv 0)) cg (fun _ _=>rfl)) bf)) (d7 (d7 eq_nil))))
      · exact qy
    · refine gj ?_ ?_
      · exact wz (nu (ug hq) (au 1 (pv 1)) iy (n8 _))   (jd (jo (gk d_against_form hr (by rfl) (aj (iu hu (au 0 (pv 0)) cg (fun _ _=>rfl)) bf) (d7 eq_nil))))   qy
      · refine gj ?_ ?_
        · refine wz ?_ ?_ ?_
          · exact nu (a4m hq) (au 1 (pv 1)) (fj (aj iy (aj iy bf)) (dg (ao (ao cj)) (by decide))) rfl
          · refine jd ?_
            · refine jo ?_
              · refine fj ?_ ?_
                · refine aj ?_ ?_
                  · exact au 1 (pv 1)
                  · refine aj ?_ ?_
                    · refine n6 ?_
                      · refine qt ud ?_ ?_ PyProof.Rows.boot_tuple ?_
                        · exact by rfl
                        · exact b_tuple
                        · refine aj ?_ ?_
                          · refine su ?_
                            · refine xg (N:=["member"]) ?_ ?_ ?_ ?_ ?_ ?_ ?_ ?_
                              · exact ⟨rfl,fun j k h=>match j,h with | _+0,h=>(by cases h)⟩
                              · exact ⟨rfl,rfl,by decide +kernel,by decide +kernel⟩
                              · exact rfl
                              · exact v8 (iu hu (au 0 (pv 0)) cg (fun _ _=>rfl))
                              · exact v7
                              · exact fun C s₀ H₀ ex pn=>pgE fun B=>(uh 0 (j8 (show (["member"]:List Str).Nodup by decide +kernel) rfl (Or.inl rfl)))
                              · exact fun C s₀ H₀ ex pn=>rm
                              · exact fun C s₀ H₀ ex pn=>peE fun B=>(gk d_plain_form hr (by rfl) (aj (au 0 (pv 0)) bf) (d7 eq_nil))
                          · exact bf
                    · exact bf
                · exact dg (ao (ao cj)) (by decide)
          · exact qy
        · exact jd (jo (au 0 (pv 0)))
theorem Oa (F:Fun K "plain_form" "plain_form" Aj f fd) (hmg:mg "plain_form" = some (.ref f)) {nn:Nat} (d_against_form:gw P w K mg base "against_form" (3+nn) Ib (_root_.K.iz nn)) (d_equal_form:gw P w K mg base "equal_form" 1 Jb (_root_.K.mz)) (d_place_box:gw P w K mg base "place_box" 1 Us (_root_.K.nq)) (d_plain_form:gw P w K mg base "plain_form" (3+nn) Ib (_root_.K.j9 nn)) (b_tuple:mg "tuple" = none):gw P w K mg base "plain_form" (3+nn+1) Ib (_root_.K.j9 (nn+1)) :=
  ⟨f,fd,Pg F d_against_form d_equal_form d_place_box d_plain_form b_tuple,F.binds (ps:=Ib) fun _ _ _ _ _ _ us hl=>bd1 (fun _=>rfl) us hl,F.kp,hmg⟩
noncomputable abbrev yr:Stmt:=top 18
theorem Er:jx a7t Ib (j7 yr):=⟨rfl,rfl,rfl,by decide +kernel,rfl,by decide +kernel,by decide +kernel⟩
theorem Kw (F:Fun K "against_form" "against_form" yr f fd) {nn:Nat} (d_against_form:gw P w K mg base "against_form" (3+nn) Ib (_root_.K.iz nn)) (d_minus:gw P w K mg base "minus" 3 Kp (_root_.K.vo)) (d_place_box:gw P w K mg base "place_box" 1 Us (_root_.K.nq)) (d_plain_form:gw P w K mg base "plain_form" (3+nn) Ib (_root_.K.j9 nn)) (d_unequal_form:gw P w K mg base "unequal_form" 1 Jb (_root_.K.uo)) (b_range:mg "range" = none) (b_tuple:mg "tuple" = none) (c_TURNED:∃ a,mg "TURNED" = some (.ref a)∧Za K w a [("and","or"),("or","and")]):zy P w K mg base CX0 (3+nn+1) f fd Ib (spF K Ib.length (_root_.K.iz (nn+1))):=by
  have d_against_form:=d_against_form.mono (show (3+nn)≤(3+nn) by first | decide | omega)
  have d_minus:=d_minus.mono (show 3≤(3+nn) by first | decide | omega)
  have d_place_box:=d_place_box.mono (show 1≤(3+nn) by first | decide | omega)
  have d_plain_form:=d_plain_form.mono (show (3+nn)≤(3+nn) by first | decide | omega)
  have d_unequal_form:=d_unequal_form.mono (show 1≤(3+nn) by first | decide | omega)
  refine mj (N:=a7t) F Er (by decide)  fun cdv A outer s H E B hr=>?_
  have hu:=wj hr
  have hq:=hr.units
  have nd:a7t.Nodup:=Er.nd
  refine gj ?_ ?_
  · exact ni 1 (kj nd rfl (Or.inl rfl) (iu hu (au 0 (pv 0)) cg (fun _ _=>rfl))) (fun _ _ _ h=>h)
  · refine gj ?_ ?_
    · refine wz ?_ ?_ ?_
      · exact nu (ug hq) (au 1 (pv 1)) iy (n8 _)
      · refine jd ?_
        · refine jo ?_
          · refine fj ?_ ?_
            · refine aj ?_ ?_
              · exact iy
              · exact aj (gk d_minus hr (by rfl) (aj (fj (aj cg (aj (fj bf (dg cj (by decide))) bf)) (dg (ao (ao cj)) (by decide))) (aj (iu hu (au 0 (pv 0)) cg (fun _ _=>rfl)) bf)) (d7 (d7 eq_nil))) bf
            · exact dg (ao (ao cj)) (by decide)
      · exact qy
    · refine gj ?_ ?_
      · refine wz ?_ ?_ ?_
        · exact nu (ug hq) (au 1 (pv 1)) iy (n8 _)
        · refine jd ?_
          · refine jo ?_
            · refine fj ?_ ?_
              · refine aj ?_ ?_
                · exact iy
                · refine aj ?_ ?_
                  · refine n6 ?_
                    · refine qt ud ?_ ?_ PyProof.Rows.boot_tuple ?_
                      · exact by rfl
                      · exact b_tuple
                      · refine aj ?_ ?_
                        · refine su ?_
                          · refine xg (N:=["k","remark"]) ?_ ?_ ?_ ?_ ?_ ?_ ?_ ?_
                            · exact ⟨rfl,fun j k h=>match j,h with | 0,h=>(by cases h; exact ⟨_,rfl,rfl,⟨.inl rfl,.inr (.inl rfl),.inl rfl⟩⟩) | _+1,h=>(by cases h)⟩
                            · exact ⟨rfl,rfl,by decide +kernel,by decide +kernel⟩
                            · exact rfl
                            · exact Rf (by rfl) b_range cg (iu hu (au 0 (pv 0)) cg (fun _ _=>rfl))
                            · exact Rv
                            · exact fun C s₀ H₀ ex pn=>pgE fun B=>(uh 0 (j8 (show (["k","remark"]:List Str).Nodup by decide +kernel) rfl (Or.inl rfl)))
                            · exact fun C s₀ H₀ ex pn=>rm
                            · intro C s₀ H₀ ex pn
                              refine peE ?_
                              intro B
                              refine fj ?_ ?_
                              · refine aj ?_ ?_
                                · exact iy
                                · refine aj ?_ ?_
                                  · exact gk d_minus hr (by rfl) (aj (iu hu (au 1 (pv 1)) cg (fun _ _=>rfl)) (aj (fj (aj (au 0 (pv 0)) (aj (fj bf (dg cj (by decide))) bf)) (dg (ao (ao cj)) (by decide))) bf)) (d7 (d7 eq_nil))
                                  · exact aj (iu hu (au 1 (pv 1)) cg (fun _ _=>rfl)) bf
                              · exact dg (ao (ao (ao cj))) (by decide)
                        · exact bf
                  · exact bf
              · exact dg (ao (ao cj)) (by decide)
        · exact qy
      · refine gj ?_ ?_
        · refine wz ?_ ?_ ?_
          · exact nu (ug hq) (au 1 (pv 1)) iy (n8 _)
          · exact jd (jo (gk d_unequal_form hr (by rfl) (aj (gk d_place_box hr (by rfl) (aj (iu hu (au 0 (pv 0)) cg (fun _ _=>rfl)) bf) (d7 eq_nil)) (aj (iu hu (au 0 (pv 0)) cg (fun _ _=>rfl)) bf)) (d7 (d7 eq_nil))))
          · exact qy
        · refine gj ?_ ?_
          · exact wz (nu (ug hq) (au 1 (pv 1)) iy (n8 _))   (jd (jo (gk d_plain_form hr (by rfl) (aj (iu hu (au 0 (pv 0)) cg (fun _ _=>rfl)) bf) (d7 eq_nil))))   qy
          · refine jd ?_
            · refine jo ?_
              · refine fj ?_ ?_
                · refine aj ?_ ?_
                  · exact a94 (by rfl) c_TURNED (au 1 (pv 1)) (fun _ _=>rfl)
                  · refine aj ?_ ?_
                    · refine n6 ?_
                      · refine qt ud ?_ ?_ PyProof.Rows.boot_tuple ?_
                        · exact by rfl
                        · exact b_tuple
                        · refine aj ?_ ?_
                          · refine su ?_
                            · refine xg (N:=["member"]) ?_ ?_ ?_ ?_ ?_ ?_ ?_ ?_
                              · exact ⟨rfl,fun j k h=>match j,h with | _+0,h=>(by cases h)⟩
                              · exact ⟨rfl,rfl,by decide +kernel,by decide +kernel⟩
                              · exact rfl
                              · exact v8 (iu hu (au 0 (pv 0)) cg (fun _ _=>rfl))
                              · exact v7
                              · exact fun C s₀ H₀ ex pn=>pgE fun B=>(uh 0 (j8 (show (["member"]:List Str).Nodup by decide +kernel) rfl (Or.inl rfl)))
                              · exact fun C s₀ H₀ ex pn=>rm
                              · exact fun C s₀ H₀ ex pn=>peE fun B=>(gk d_against_form hr (by rfl) (aj (au 0 (pv 0)) bf) (d7 eq_nil))
                          · exact bf
                    · exact bf
                · exact dg (ao (ao cj)) (by decide)
theorem Kg (F:Fun K "against_form" "against_form" yr f fd) (hmg:mg "against_form" = some (.ref f)) {nn:Nat} (d_against_form:gw P w K mg base "against_form" (3+nn) Ib (_root_.K.iz nn)) (d_minus:gw P w K mg base "minus" 3 Kp (_root_.K.vo)) (d_place_box:gw P w K mg base "place_box" 1 Us (_root_.K.nq)) (d_plain_form:gw P w K mg base "plain_form" (3+nn) Ib (_root_.K.j9 nn)) (d_unequal_form:gw P w K mg base "unequal_form" 1 Jb (_root_.K.uo)) (b_range:mg "range" = none) (b_tuple:mg "tuple" = none) (c_TURNED:∃ a,mg "TURNED" = some (.ref a)∧Za K w a [("and","or"),("or","and")]):gw P w K mg base "against_form" (3+nn+1) Ib (_root_.K.iz (nn+1)) :=
  ⟨f,fd,Kw F d_against_form d_minus d_place_box d_plain_form d_unequal_form b_range b_tuple c_TURNED,F.binds (ps:=Ib) fun _ _ _ _ _ _ us hl=>bd1 (fun _=>rfl) us hl,F.kp,hmg⟩
theorem Fw {f_plain_form:Addr} {fd_plain_form:FuncData} {f_against_form:Addr} {fd_against_form:FuncData} (F_plain_form:Fun K "plain_form" "plain_form" Aj f_plain_form fd_plain_form) (h_plain_form:mg "plain_form" = some (.ref f_plain_form)) (F_against_form:Fun K "against_form" "against_form" yr f_against_form fd_against_form) (h_against_form:mg "against_form" = some (.ref f_against_form)) (d_equal_form:gw P w K mg base "equal_form" 1 Jb _root_.K.mz) (d_minus:gw P w K mg base "minus" 3 Kp _root_.K.vo) (d_place_box:gw P w K mg base "place_box" 1 Us _root_.K.nq) (d_unequal_form:gw P w K mg base "unequal_form" 1 Jb _root_.K.uo) (b_range:mg "range" = none) (b_tuple:mg "tuple" = none) (c_TURNED:∃ a,mg "TURNED" = some (.ref a)∧Za K w a [("and","or"),("or","and")]):∀ nn:Nat,gw P w K mg base "plain_form" (3+nn) Ib (_root_.K.j9 nn)∧gw P w K mg base "against_form" (3+nn) Ib (_root_.K.iz nn)
  | 0=>⟨gw.zero F_plain_form h_plain_form (F_plain_form.binds (ps:=Ib) fun _ _ _ _ _ _ us hl=>bd1 (fun _=>rfl) us hl),gw.zero F_against_form h_against_form (F_against_form.binds (ps:=Ib) fun _ _ _ _ _ _ us hl=>bd1 (fun _=>rfl) us hl)⟩
  | nn+1=>by
    have ih:=Fw F_plain_form h_plain_form F_against_form h_against_form d_equal_form d_minus d_place_box d_unequal_form b_range b_tuple c_TURNED nn
    obtain ⟨d_plain_form,d_against_form⟩:=ih
    exact ⟨Oa F_plain_form h_plain_form d_against_form d_equal_form d_place_box d_plain_form b_tuple,Kg F_against_form h_against_form d_against_form d_minus d_place_box d_plain_form d_unequal_form b_range b_tuple c_TURNED⟩
noncomputable abbrev Dp:Stmt:=top 21
theorem Iz:jx ab3 a74 (j7 Dp):=⟨rfl,rfl,rfl,by decide +kernel,rfl,by decide +kernel,by decide +kernel⟩
theorem Pz (F:Fun K "others_of" "others_of" Dp f fd) (b_range:mg "range" = none):zy P w K mg base CX0 1 f fd a74 (spF K a74.length _root_.K.yu):=by
  refine mj (N:=ab3) F Iz (by decide)  fun cdv A outer s H E B hr=>?_
  have hu:=wj hr
  have hq:=hr.units
  have nd:ab3.Nodup:=Iz.nd
  refine gj ?_ ?_
  · exact Am 2 (kj nd rfl (Or.inl rfl) (J1 bf (dg cj (by decide)))) (fun _ _ _ h=>h)
  · refine gj ?_ ?_
    · refine Bl ?_ ?_ ?_ ?_ ?_ ?_
      · exact PassesOwn.never
      · exact rfl
      · exact v8 (iu hu (au 0 (pv 0)) cg (fun _ _=>rfl))
      · exact Ai (is:=[3,4]) (Al rfl (jt (j8 nd rfl (Or.inr rfl)) (jt (j8 nd rfl (Or.inl rfl)) yd)))
      · refine jd ?_
        · refine wz ?_ ?_ ?_
          · exact nu (Ji hq) (au 3 (pv 3)) (iu hu (iu hu (iu hu (au 0 (pv 0)) cg (fun _ _=>rfl)) (au 1 (pv 1)) (fun _ _=>rfl)) cg (fun _ _=>rfl)) (n8 _)
          · refine jd ?_
            · refine Bm _ ?_
              · refine wk ?_
                · refine Eo PySem.F.plainAttrs_list PySem.F.slot_list_extend PySem.F.type_list_extend Ac ?_ ?_
                  · exact pv 2
                  · refine qw ?_ ?_
                    · refine su ?_
                      · refine xg (N:=["place","number","hand"]) ?_ ?_ ?_ ?_ ?_ ?_ ?_ ?_
                        · exact ⟨rfl,fun j k h=>match j,h with | 0,h=>(by cases h; exact ⟨_,rfl,rfl,⟨.inl rfl,.inr (.inl rfl),.inl rfl⟩⟩) | 1,h=>(by cases h; exact ⟨_,rfl,rfl,⟨.inl rfl,.inr (.inl rfl),.inl rfl⟩⟩) | _+2,h=>(by cases h)⟩
                        · exact ⟨rfl,rfl,by decide +kernel,by decide +kernel⟩
                        · exact rfl
                        · exact Dj (by rfl) b_range (au 4 (pv 4))
                        · exact Dd
                        · exact fun C s₀ H₀ ex pn=>pgE fun B=>(uh 0 (j8 (show (["place","number","hand"]:List Str).Nodup by decide +kernel) rfl (Or.inl rfl)))
                        · exact fun C s₀ H₀ ex pn=>rm
                        · exact fun C s₀ H₀ ex pn=>peE fun B=>(fj (aj iy (aj (au 1 (pv 1)) (aj (au 2 (pv 2)) (aj (au 0 (pv 0)) bf)))) (dg (ao (ao (ao (ao cj)))) (by decide)))
                    · exact w6
          · exact qy
      · exact v7
    · exact jd (jo (au 2 (pv 2)))
theorem S7 (F:Fun K "others_of" "others_of" Dp f fd) (hmg:mg "others_of" = some (.ref f)) (b_range:mg "range" = none):gw P w K mg base "others_of" 1 a74 _root_.K.yu :=
  ⟨f,fd,Pz F b_range,F.binds (ps:=a74) fun _ _ _ _ _ _ us hl=>bd2 (fun _ _=>rfl) us hl,F.kp,hmg⟩
noncomputable abbrev Dm:Stmt:=top 20
theorem Iv:jx abz a7o (j7 Dm):=⟨rfl,rfl,rfl,by decide +kernel,rfl,by decide +kernel,by decide +kernel⟩
theorem Sh (F:Fun K "duties_of" "duties_of" Dm f fd) (d_others_of:gw P w K mg base "others_of" 1 a74 (_root_.K.yu)) (b_len:mg "len" = none) (b_list:mg "list" = none) (b_range:mg "range" = none):zy P w K mg base CX0 2 f fd a7o (spF K a7o.length _root_.K.xr):=by
  have d_others_of:=d_others_of.mono (by decide:1≤1)
  refine mj (N:=abz) F Iv (by decide)  fun cdv A outer s H E B hr=>?_
  have hu:=wj hr
  have hq:=hr.units
  have nd:abz.Nodup:=Iv.nd
  refine gj ?_ ?_
  · exact ni 1 (kj nd rfl (Or.inl rfl) (a1l rfl (by rfl) b_list (by rfl) b_range (n6 (yt Ec (by rfl) b_len PySem.boot_len (aj (iu hu (au 0 (pv 0)) cg (fun _ _=>rfl)) bf))))) (fun _ _ _ h=>h)
  · refine gj ?_ ?_
    · exact Am 2 (Ig (N:=["hand","places"]) ⟨rfl,rfl,by decide +kernel,by decide +kernel⟩ rfl (v8 (iu hu (au 0 (pv 0)) cg (fun _ _=>rfl))) (fun C s₀ H₀ ex pn=>pgE fun B=>(Ai (is:=[0,1]) (Al rfl (jt (j8 (show (["hand","places"]:List Str).Nodup by decide +kernel) rfl (Or.inl rfl)) (jt (j8 (show (["hand","places"]:List Str).Nodup by decide +kernel) rfl (Or.inl rfl)) yd))))) (fun C s₀ H₀ ex pn=>rm) (fun C s₀ H₀ ex pn=>peE fun B=>(fj (aj iy (aj (au 0 (pv 0)) bf)) (dg (ao (ao cj)) (by decide)))) (j8 nd rfl (Or.inl rfl)) rfl) (fun σ H Q h=>Jq ⟨rfl,fun j k h=>match j,h with | _+0,h=>(by cases h)⟩ v7 h)
    · refine gj ?_ ?_
      · refine Bm _ ?_
        · refine wk ?_
          · refine Eo PySem.F.plainAttrs_list PySem.F.slot_list_extend PySem.F.type_list_extend Ac ?_ ?_
            · exact pv 2
            · refine qw ?_ ?_
              · refine su ?_
                · refine xg (N:=["number"]) ?_ ?_ ?_ ?_ ?_ ?_ ?_ ?_
                  · exact ⟨rfl,fun j k h=>match j,h with | _+0,h=>(by cases h)⟩
                  · exact ⟨rfl,rfl,by decide +kernel,by decide +kernel⟩
                  · exact rfl
                  · exact v8 (au 1 (pv 1))
                  · exact v7
                  · exact fun C s₀ H₀ ex pn=>pgE fun B=>(uh 0 (j8 (show (["number"]:List Str).Nodup by decide +kernel) rfl (Or.inl rfl)))
                  · exact fun C s₀ H₀ ex pn=>rm
                  · exact fun C s₀ H₀ ex pn=>peE fun B=>(fj (aj iy (aj (au 0 (pv 0)) bf)) (dg (ao (ao cj)) (by decide)))
              · exact w6
      · refine gj ?_ ?_
        · refine Bl ?_ ?_ ?_ ?_ ?_ ?_
          · exact PassesOwn.never
          · exact rfl
          · exact v8 (au 1 (pv 1))
          · exact uh 3 (j8 nd rfl (Or.inl rfl))
          · exact jd (Bm 2 (wk (Eo PySem.F.plainAttrs_list PySem.F.slot_list_extend PySem.F.type_list_extend Ac (pv 2) (qw (gk d_others_of hr (by rfl) (aj (au 0 (pv 0)) (aj (au 3 (pv 3)) bf)) (d7 (d7 eq_nil))) w6))))
          · exact v7
        · exact jd (jo (au 2 (pv 2)))
theorem R9 (F:Fun K "duties_of" "duties_of" Dm f fd) (hmg:mg "duties_of" = some (.ref f)) (d_others_of:gw P w K mg base "others_of" 1 a74 (_root_.K.yu)) (b_len:mg "len" = none) (b_list:mg "list" = none) (b_range:mg "range" = none):gw P w K mg base "duties_of" 2 a7o _root_.K.xr :=
  ⟨f,fd,Sh F d_others_of b_len b_list b_range,F.binds (ps:=a7o) fun _ _ _ _ _ _ us hl=>bd1 (fun _=>rfl) us hl,F.kp,hmg⟩
noncomputable abbrev Ax:Stmt:=top 27
theorem Fx:jx a1w a1w (j7 Ax):=⟨rfl,rfl,rfl,by decide +kernel,rfl,by decide +kernel,by decide +kernel⟩
theorem Lj (F:Fun K "within_form" "within_form" Ax f fd) (d_minus:gw P w K mg base "minus" 3 Kp (_root_.K.vo)):zy P w K mg base CX0 4 f fd a1w (spF K a1w.length _root_.K.uz):=by
  have d_minus:=d_minus.mono (by decide:3≤3)
  refine mj (N:=a1w) F Fx (by decide)  fun cdv A outer s H E B hr=>?_
  have hu:=wj hr
  have hq:=hr.units
  have nd:a1w.Nodup:=Fx.nd
  refine jd ?_
  · refine jo ?_
    · refine fj ?_ ?_
      · refine aj ?_ ?_
        · exact iy
        · refine aj ?_ ?_
          · refine fj ?_ ?_
            · refine aj ?_ ?_
              · exact fj (aj iy (aj (gk d_minus hr (by rfl) (aj (au 1 (pv 1)) (aj (au 0 (pv 0)) bf)) (d7 (d7 eq_nil))) bf)) (dg (ao (ao cj)) (by decide))
              · exact aj (fj (aj iy (aj (gk d_minus hr (by rfl) (aj (au 0 (pv 0)) (aj (au 2 (pv 2)) bf)) (d7 (d7 eq_nil))) bf)) (dg (ao (ao cj)) (by decide))) bf
            · exact dg (ao (ao cj)) (by decide)
          · exact bf
      · exact dg (ao (ao cj)) (by decide)
theorem Lq (F:Fun K "within_form" "within_form" Ax f fd) (hmg:mg "within_form" = some (.ref f)) (d_minus:gw P w K mg base "minus" 3 Kp (_root_.K.vo)):gw P w K mg base "within_form" 4 a1w _root_.K.uz :=
  ⟨f,fd,Lj F d_minus,F.binds (ps:=a1w) fun _ _ _ _ _ _ us hl=>bd3 (fun _ _ _=>rfl) us hl,F.kp,hmg⟩
noncomputable abbrev Ds:Stmt:=top 26
theorem Ip:jx ll8 a68 (j7 Ds):=⟨rfl,rfl,rfl,by decide +kernel,rfl,by decide +kernel,by decide +kernel⟩
theorem Qj (F:Fun K "set_forms" "set_forms" Ds f fd) (d_within_form:gw P w K mg base "within_form" 4 a1w (_root_.K.uz)):zy P w K mg base CX0 5 f fd a68 (spF K a68.length _root_.K.vm):=by
  have d_within_form:=d_within_form.mono (by decide:4≤4)
  refine mj (N:=ll8) F Ip (by decide)  fun cdv A outer s H E B hr=>?_
  have hu:=wj hr
  have hq:=hr.units
  have nd:ll8.Nodup:=Ip.nd
  refine gj ?_ ?_
  · exact Am 2 (kj nd rfl (Or.inr rfl) Yi) (fun _ _ _ h=>h)
  · refine gj ?_ ?_
    · refine Bl ?_ ?_ ?_ ?_ ?_ ?_
      · exact PassesOwn.never
      · exact rfl
      · exact v8 (iu hu (au 0 (pv 0)) cg (fun _ _=>rfl))
      · exact Ai (is:=[3,4,5,6,7]) (Al rfl (jt (j8 nd rfl (Or.inl rfl)) (jt (j8 nd rfl (Or.inl rfl)) (jt (j8 nd rfl (Or.inl rfl)) (jt (j8 nd rfl (Or.inl rfl)) (jt (j8 nd rfl (Or.inl rfl)) yd))))))
      · refine jd ?_
        · refine Kd _ ?_ ?_ ?_ ?_ ?_
          · exact hu
          · exact pv 2
          · exact au 3 (pv 3)
          · refine fj ?_ ?_
            · refine aj ?_ ?_
              · exact fj (aj (au 5 (pv 5)) (aj (fj bf (dg cj (by decide))) bf)) (dg (ao (ao cj)) (by decide))
              · exact aj (fj (aj (au 6 (pv 6)) (aj (fj bf (dg cj (by decide))) bf)) (dg (ao (ao cj)) (by decide))) bf
            · exact dg (ao (ao cj)) (by decide)
          · exact rfl
      · exact v7
    · refine jd ?_
      · refine jo ?_
        · refine su ?_
          · refine xg (N:=abu) ?_ ?_ ?_ ?_ ?_ ?_ ?_ ?_
            · exact ⟨rfl,fun j k h=>match j,h with | 0,h=>(by cases h; exact ⟨_,rfl,rfl,⟨.inl rfl,.inr (.inl rfl),.inl rfl⟩⟩) | _+1,h=>(by cases h)⟩
            · exact ⟨rfl,rfl,by decide +kernel,by decide +kernel⟩
            · exact rfl
            · exact v8 (au 1 (pv 1))
            · exact v7
            · exact fun C s₀ H₀ ex pn=>pgE fun B=>(Ai (is:=[0,1]) (Al rfl (jt (j8 (show abu.Nodup by decide +kernel) rfl (Or.inl rfl)) (jt (j8 (show abu.Nodup by decide +kernel) rfl (Or.inl rfl)) yd))))
            · exact fun C s₀ H₀ ex pn=>rm
            · intro C s₀ H₀ ex pn
              refine peE ?_
              intro B
              refine gk d_within_form ?_ ?_ ?_ ?_
              · exact hr
              · exact by rfl
              · exact aj (au 1 (pv 1)) (aj (iu hu (iu hu (au 2 (pv 2)) (au 0 (pv 0)) (fun _ _=>rfl)) cg (fun _ _=>rfl)) (aj (iu hu (iu hu (au 2 (pv 2)) (au 0 (pv 0)) (fun _ _=>rfl)) cg (fun _ _=>rfl)) bf))
              · exact d7 (d7 (d7 eq_nil))
theorem S9 (F:Fun K "set_forms" "set_forms" Ds f fd) (hmg:mg "set_forms" = some (.ref f)) (d_within_form:gw P w K mg base "within_form" 4 a1w (_root_.K.uz)):gw P w K mg base "set_forms" 5 a68 _root_.K.vm :=
  ⟨f,fd,Qj F d_within_form,F.binds (ps:=a68) fun _ _ _ _ _ _ us hl=>bd2 (fun _ _=>rfl) us hl,F.kp,hmg⟩
noncomputable abbrev Ay:Stmt:=top 25
theorem Fv:jx abr a6q (j7 Ay):=⟨rfl,rfl,rfl,by decide +kernel,rfl,by decide +kernel,by decide +kernel⟩
theorem Lk (F:Fun K "given_forms" "given_forms" Ay f fd) (d_plain_form:gw P w K mg base "plain_form" 43 Ib (_root_.K.j9 40)) (d_set_forms:gw P w K mg base "set_forms" 5 a68 (_root_.K.vm)):zy P w K mg base CX0 44 f fd a6q (a6w K a6q.length _root_.K.um):=by
  have d_plain_form:=d_plain_form.mono (by decide:43≤43)
  have d_set_forms:=d_set_forms.mono (by decide:5≤43)
  refine Ja (N:=abr) F Fv (by decide) (yh (yh (yh (yh (yh (Oe _)))))) fun cdv A outer s H E B hr=>?_
  have hu:=wj hr
  have hq:=hr.units
  have nd:abr.Nodup:=Fv.nd
  refine yg ?_ ?_
  · refine @ni _ _ _ _ (tOf _ _ _) _ ?_ (fun _ _ _ h=>h)
    · refine kj ?_ ?_ ?_ ?_
      · exact nd
      · exact rfl
      · exact Or.inl rfl
      · exact ju qj (Aa (aj (fj (aj (iu hu (au 2 (pv 2)) cg (fun _ _=>rfl)) (aj (iu hu (au 2 (pv 2)) cg (fun _ _=>rfl)) bf)) (dg (ao (ao cj)) (by decide))) bf) (dg (ao cj) (by decide))) (au 3 (pv 3))
  · refine yg ?_ ?_
    · exact Am 5 (Ig (N:=["hand","place"]) ⟨rfl,rfl,by decide +kernel,by decide +kernel⟩ rfl (v8 (au 4 (pv 4))) (fun C s₀ H₀ ex pn=>pgE fun B=>(Ai (is:=[0,1]) (Al rfl (jt (j8 (show (["hand","place"]:List Str).Nodup by decide +kernel) rfl (Or.inl rfl)) (jt (j8 (show (["hand","place"]:List Str).Nodup by decide +kernel) rfl (Or.inl rfl)) yd))))) (fun C s₀ H₀ ex pn=>rm) (fun C s₀ H₀ ex pn=>peE fun B=>(gk d_plain_form hr (by rfl) (aj (fj (aj iy (aj (au 0 (pv 0)) (aj (au 1 (pv 1)) bf))) (dg (ao (ao (ao cj))) (by decide))) bf) (d7 eq_nil))) (j8 nd rfl (Or.inl rfl)) rfl) (fun σ H Q h=>Jq ⟨rfl,fun j k h=>match j,h with | _+0,h=>(by cases h)⟩ v7 h)
    · refine yg ?_ ?_
      · refine Bm _ ?_
        · refine wk ?_
          · refine Eo PySem.F.plainAttrs_list PySem.F.slot_list_extend PySem.F.type_list_extend Ac ?_ ?_
            · exact pv 5
            · refine qw ?_ ?_
              · refine su ?_
                · refine xg (N:=["there","annotation"]) ?_ ?_ ?_ ?_ ?_ ?_ ?_ ?_
                  · exact ⟨rfl,fun j k h=>match j,h with | 0,h=>(by cases h; exact ⟨_,rfl,rfl,⟨.inl rfl,.inr (.inl rfl),.inl rfl⟩⟩) | _+1,h=>(by cases h)⟩
                  · exact ⟨rfl,rfl,by decide +kernel,by decide +kernel⟩
                  · exact rfl
                  · exact v8 (au 4 (pv 4))
                  · exact v7
                  · exact fun C s₀ H₀ ex pn=>pgE fun B=>(uh 0 (j8 (show (["there","annotation"]:List Str).Nodup by decide +kernel) rfl (Or.inl rfl)))
                  · exact fun C s₀ H₀ ex pn=>rm
                  · exact fun C s₀ H₀ ex pn=>peE fun B=>(gk d_plain_form hr (by rfl) (aj (zj hu (au 1 (pv 1)) (au 0 (pv 0)) (fun _ _=>rfl)) bf) (d7 eq_nil))
              · exact w6
      · refine yg ?_ ?_
        · exact yq 5 (wk (Eo PySem.F.plainAttrs_list PySem.F.slot_list_append PySem.F.type_list_append xu (pv 5) (qw (gk d_plain_form hr (by rfl) (aj (iu hu (au 2 (pv 2)) cg (fun _ _=>rfl)) bf) (d7 eq_nil)) w6)))
        · refine yg ?_ ?_
          · exact Bm 5 (wk (Eo PySem.F.plainAttrs_list PySem.F.slot_list_extend PySem.F.type_list_extend Ac (pv 5) (qw (gk d_set_forms hr (by rfl) (aj (au 0 (pv 0)) (aj (iu hu (au 2 (pv 2)) cg (fun _ _=>rfl)) bf)) (d7 (d7 eq_nil))) w6)))
          · exact Tf 5 (pv 5)
theorem Lb (F:Fun K "given_forms" "given_forms" Ay f fd) (hmg:mg "given_forms" = some (.ref f)) (d_plain_form:gw P w K mg base "plain_form" 43 Ib (_root_.K.j9 40)) (d_set_forms:gw P w K mg base "set_forms" 5 a68 (_root_.K.vm)):Bg P w K mg base "given_forms" 44 a6q _root_.K.um :=
  ⟨f,fd,Lk F d_plain_form d_set_forms,F.binds (ps:=a6q) fun _ _ _ _ _ _ us hl=>bd4 (fun _ _ _ _=>rfl) us hl,F.kp,hmg⟩
noncomputable abbrev Bw:Stmt:=top 24
theorem Hv:jx aan a7h (j7 Bw):=⟨rfl,rfl,rfl,by decide +kernel,rfl,by decide +kernel,by decide +kernel⟩
theorem Om (F:Fun K "step_forms" "step_forms" Bw f fd) (d_against_form:gw P w K mg base "against_form" 43 Ib (_root_.K.iz 40)) (d_behind:gw P w K mg base "behind" 44 M6 (_root_.K.Ad)) (d_given_forms:Bg P w K mg base "given_forms" 44 a6q (_root_.K.um)):zy P w K mg base CX0 45 f fd a7h (a6w K a7h.length _root_.K.qg):=by
  have d_against_form:=d_against_form.mono (by decide:43≤44)
  have d_behind:=d_behind.mono (by decide:44≤44)
  have d_given_forms:=d_given_forms.mono (by decide:44≤44)
  refine Ja (N:=aan) F Hv (by decide) (yh (yh (Oe _))) fun cdv A outer s H E B hr=>?_
  have hu:=wj hr
  have hq:=hr.units
  have nd:aan.Nodup:=Hv.nd
  refine yg ?_ ?_
  · exact Am 5 (kj nd rfl (Or.inl rfl) (Fg d_given_forms hr (by rfl) (aj (au 0 (pv 0)) (aj (au 1 (pv 1)) (aj (au 2 (pv 2)) (aj (au 3 (pv 3)) bf)))) (d7 (d7 (d7 (d7 eq_nil)))))) (fun _ _ _ h=>h)
  · refine yg ?_ ?_
    · refine yq _ ?_
      · refine wk ?_
        · refine Eo PySem.F.plainAttrs_list PySem.F.slot_list_append PySem.F.type_list_append xu ?_ ?_
          · exact pv 5
          · refine qw ?_ ?_
            · refine gk d_against_form ?_ ?_ ?_ ?_
              · exact hr
              · exact by rfl
              · refine aj ?_ ?_
                · exact gk d_behind hr (by rfl) (aj (au 4 (pv 4)) (aj (iu hu (au 2 (pv 2)) cg (fun _ _=>rfl)) (aj (iu hu (au 2 (pv 2)) cg (fun _ _=>rfl)) (aj (iu hu (au 2 (pv 2)) cg (fun _ _=>rfl)) bf)))) (d7 (d7 (d7 (d7 eq_nil))))
                · exact bf
              · exact d7 eq_nil
            · exact w6
    · exact Tf 5 (pv 5)
theorem Ot (F:Fun K "step_forms" "step_forms" Bw f fd) (hmg:mg "step_forms" = some (.ref f)) (d_against_form:gw P w K mg base "against_form" 43 Ib (_root_.K.iz 40)) (d_behind:gw P w K mg base "behind" 44 M6 (_root_.K.Ad)) (d_given_forms:Bg P w K mg base "given_forms" 44 a6q (_root_.K.um)):Bg P w K mg base "step_forms" 45 a7h _root_.K.qg :=
  ⟨f,fd,Om F d_against_form d_behind d_given_forms,F.binds (ps:=a7h) fun _ _ _ _ _ _ us hl=>bd5 (fun _ _ _ _ _=>rfl) us hl,F.kp,hmg⟩
noncomputable abbrev Ba:Stmt:=top 23
theorem Ga:jx ab1 a78 (j7 Ba):=⟨rfl,rfl,rfl,by decide +kernel,rfl,by decide +kernel,by decide +kernel⟩
theorem Kz (F:Fun K "start_forms" "start_forms" Ba f fd) (d_against_form:gw P w K mg base "against_form" 43 Ib (_root_.K.iz 40)) (d_equal_form:gw P w K mg base "equal_form" 1 Jb (_root_.K.mz)) (d_place_box:gw P w K mg base "place_box" 1 Us (_root_.K.nq)):zy P w K mg base CX0 44 f fd a78 (a6w K a78.length _root_.K.vd):=by
  have d_against_form:=d_against_form.mono (by decide:43≤43)
  have d_equal_form:=d_equal_form.mono (by decide:1≤43)
  have d_place_box:=d_place_box.mono (by decide:1≤43)
  refine Ja (N:=ab1) F Ga (by decide) (yh (yh (yh (Oe _)))) fun cdv A outer s H E B hr=>?_
  have hu:=wj hr
  have hq:=hr.units
  have nd:ab1.Nodup:=Ga.nd
  refine yg ?_ ?_
  · exact Am 3 (Ig (N:=["box"]) ⟨rfl,rfl,by decide +kernel,by decide +kernel⟩ rfl (v8 (iu hu (au 0 (pv 0)) cg (fun _ _=>rfl))) (fun C s₀ H₀ ex pn=>pgE fun B=>(uh 0 (j8 (show (["box"]:List Str).Nodup by decide +kernel) rfl (Or.inl rfl)))) (fun C s₀ H₀ ex pn=>rm) (fun C s₀ H₀ ex pn=>peE fun B=>(gk d_equal_form hr (by rfl) (aj (iu hu (au 0 (pv 0)) cg (fun _ _=>rfl)) (aj (iu hu (au 0 (pv 0)) cg (fun _ _=>rfl)) bf)) (d7 (d7 eq_nil)))) (j8 nd rfl (Or.inl rfl)) rfl) (fun σ H Q h=>Jq ⟨rfl,fun j k h=>match j,h with | _+0,h=>(by cases h)⟩ v7 h)
  · refine yg ?_ ?_
    · refine Bm _ ?_
      · refine wk ?_
        · refine Eo PySem.F.plainAttrs_list PySem.F.slot_list_extend PySem.F.type_list_extend Ac ?_ ?_
          · exact pv 3
          · refine qw ?_ ?_
            · refine su ?_
              · refine xg (N:=["other","places"]) ?_ ?_ ?_ ?_ ?_ ?_ ?_ ?_
                · exact ⟨rfl,fun j k h=>match j,h with | _+0,h=>(by cases h)⟩
                · exact ⟨rfl,rfl,by decide +kernel,by decide +kernel⟩
                · exact rfl
                · exact v8 (iu hu (au 0 (pv 0)) cg (fun _ _=>rfl))
                · exact v7
                · exact fun C s₀ H₀ ex pn=>pgE fun B=>(Ai (is:=[0,1]) (Al rfl (jt (j8 (show (["other","places"]:List Str).Nodup by decide +kernel) rfl (Or.inl rfl)) (jt (j8 (show (["other","places"]:List Str).Nodup by decide +kernel) rfl (Or.inl rfl)) yd))))
                · exact fun C s₀ H₀ ex pn=>rm
                · exact fun C s₀ H₀ ex pn=>peE fun B=>(gk d_equal_form hr (by rfl) (aj (gk d_place_box hr (by rfl) (aj (au 0 (pv 0)) bf) (d7 eq_nil)) (aj cg bf)) (d7 (d7 eq_nil)))
            · exact w6
    · refine yg ?_ ?_
      · refine yq _ ?_
        · refine wk ?_
          · refine Eo PySem.F.plainAttrs_list PySem.F.slot_list_append PySem.F.type_list_append xu ?_ ?_
            · exact pv 3
            · exact qw (gk d_against_form hr (by rfl) (aj (zj hu (au 1 (pv 1)) (fj (aj (au 2 (pv 2)) (aj cg bf)) (dg (ao (ao cj)) (by decide))) (fun _ _=>rfl)) bf) (d7 eq_nil)) w6
      · exact Tf 3 (pv 3)
theorem Lw (F:Fun K "start_forms" "start_forms" Ba f fd) (hmg:mg "start_forms" = some (.ref f)) (d_against_form:gw P w K mg base "against_form" 43 Ib (_root_.K.iz 40)) (d_equal_form:gw P w K mg base "equal_form" 1 Jb (_root_.K.mz)) (d_place_box:gw P w K mg base "place_box" 1 Us (_root_.K.nq)):Bg P w K mg base "start_forms" 44 a78 _root_.K.vd :=
  ⟨f,fd,Kz F d_against_form d_equal_form d_place_box,F.binds (ps:=a78) fun _ _ _ _ _ _ us hl=>bd3 (fun _ _ _=>rfl) us hl,F.kp,hmg⟩
noncomputable abbrev Cd:Stmt:=top 22
theorem Ho:jx abb a7p (j7 Cd):=⟨rfl,rfl,rfl,by decide +kernel,rfl,by decide +kernel,by decide +kernel⟩
theorem Oi (F:Fun K "duty_forms" "duty_forms" Cd f fd) (d_start_forms:Bg P w K mg base "start_forms" 44 a78 (_root_.K.vd)) (d_step_forms:Bg P w K mg base "step_forms" 45 a7h (_root_.K.qg)):zy P w K mg base CX0 46 f fd a7p (a6w K a7p.length _root_.K.lg):=by
  have d_start_forms:=d_start_forms.mono (by decide:44≤45)
  have d_step_forms:=d_step_forms.mono (by decide:45≤45)
  refine Ja (N:=abb) F Ho (by decide) (a1h (Jz _) (yh (a1h (yh (Jz _)) (yh (Jz _))))) fun cdv A outer s H E B hr=>?_
  have hu:=wj hr
  have hq:=hr.units
  have nd:abb.Nodup:=Ho.nd
  refine a4r ?_ ?_ ?_
  · exact nu (ug hq) (iu hu (au 2 (pv 2)) cg (fun _ _=>rfl)) iy (n8 _)
  · exact Ov (Fg d_start_forms hr (by rfl) (aj (au 0 (pv 0)) (aj (au 1 (pv 1)) (aj (iu hu (au 2 (pv 2)) cg (fun _ _=>rfl)) bf))) (d7 (d7 (d7 eq_nil))))
  · refine yg ?_ ?_
    · exact ni 3 (kj nd rfl (Or.inl rfl) (iu hu (iu hu (au 0 (pv 0)) cg (fun _ _=>rfl)) (iu hu (au 2 (pv 2)) cg (fun _ _=>rfl)) (fun _ _=>rfl))) (fun _ _ _ h=>h)
    · refine a4r ?_ ?_ ?_
      · exact nu (ug hq) (iu hu (au 2 (pv 2)) cg (fun _ _=>rfl)) iy (n8 _)
      · refine yg ?_ ?_
        · exact ni 4 (kj nd rfl (Or.inl rfl) (zj hu (au 1 (pv 1)) (fj (aj (iu hu (au 3 (pv 3)) cg (fun _ _=>rfl)) (aj (iu hu (au 3 (pv 3)) cg (fun _ _=>rfl)) bf)) (dg (ao (ao cj)) (by decide))) (fun _ _=>rfl))) (fun _ _ _ h=>h)
        · exact Ov (Fg d_step_forms hr (by rfl) (aj (au 0 (pv 0)) (aj (au 1 (pv 1)) (aj (au 3 (pv 3)) (aj (Aa bf (dg cj (by decide))) (aj (au 4 (pv 4)) bf))))) (d7 (d7 (d7 (d7 (d7 eq_nil))))))
      · refine yg ?_ ?_
        · exact ni 5 (kj nd rfl (Or.inl rfl) (fj (aj (iu hu (au 2 (pv 2)) cg (fun _ _=>rfl)) (aj (iu hu (au 2 (pv 2)) cg (fun _ _=>rfl)) bf)) (dg (ao (ao cj)) (by decide)))) (fun _ _ _ h=>h)
        · refine Ov ?_
          · refine Fg d_step_forms ?_ ?_ ?_ ?_
            · exact hr
            · exact by rfl
            · exact aj (au 0 (pv 0)) (aj (au 1 (pv 1)) (aj (au 3 (pv 3)) (aj (Aa (aj (au 5 (pv 5)) bf) (dg (ao cj) (by decide))) (aj (zj hu (au 1 (pv 1)) (au 5 (pv 5)) (fun _ _=>rfl)) bf))))
            · exact d7 (d7 (d7 (d7 (d7 eq_nil))))
theorem Nz (F:Fun K "duty_forms" "duty_forms" Cd f fd) (hmg:mg "duty_forms" = some (.ref f)) (d_start_forms:Bg P w K mg base "start_forms" 44 a78 (_root_.K.vd)) (d_step_forms:Bg P w K mg base "step_forms" 45 a7h (_root_.K.qg)):Bg P w K mg base "duty_forms" 46 a7p _root_.K.lg :=
  ⟨f,fd,Oi F d_start_forms d_step_forms,F.binds (ps:=a7p) fun _ _ _ _ _ _ us hl=>bd3 (fun _ _ _=>rfl) us hl,F.kp,hmg⟩
noncomputable abbrev Av:Stmt:=top 29
theorem G7:jx Wo Wo (j7 Av):=⟨rfl,rfl,rfl,by decide +kernel,rfl,by decide +kernel,by decide +kernel⟩
theorem Lz (F:Fun K "_law_cell_at" "_law_cell_at" Av f fd) (b_len:mg "len" = none):zy P w K mg base CX0 1 f fd Wo (spF K Wo.length _root_.K.je):=by
  refine mj (N:=Wo) F G7 (by decide)  fun cdv A outer s H E B hr=>?_
  have hu:=wj hr
  have hq:=hr.units
  have nd:Wo.Nodup:=G7.nd
  exact gj (wz (nu Zz (au 1 (pv 1)) (n6 (yt Ec (by rfl) b_len PySem.boot_len (aj (au 0 (pv 0)) bf))) (n8 _))   (jd (jo (iu hu (au 0 (pv 0)) (au 1 (pv 1)) (fun _ _=>rfl))))   qy)   (jd (jo cg))
theorem Ly (F:Fun K "_law_cell_at" "_law_cell_at" Av f fd) (hmg:mg "_law_cell_at" = some (.ref f)) (b_len:mg "len" = none):gw P w K mg base "_law_cell_at" 1 Wo _root_.K.je :=
  ⟨f,fd,Lz F b_len,F.binds (ps:=Wo) fun _ _ _ _ _ _ us hl=>bd2 (fun _ _=>rfl) us hl,F.kp,hmg⟩
noncomputable abbrev Bt:Stmt:=top 30
theorem Gq:jx a1v a1v (j7 Bt):=⟨rfl,rfl,rfl,by decide +kernel,rfl,by decide +kernel,by decide +kernel⟩
theorem Oh (F:Fun K "_law_signed" "_law_signed" Bt f fd):zy P w K mg base CX0 1 f fd a1v (spF K a1v.length _root_.K.uq):=by
  refine mj (N:=a1v) F Gq (by decide)  fun cdv A outer s H E B hr=>?_
  have hu:=wj hr
  have hq:=hr.units
  have nd:a1v.Nodup:=Gq.nd
  exact gj (wz (nu Zz (au 0 (pv 0)) cg (n8 _))   (jd (jo (Gi yw (ju u9 (Gi yw (au 0 (pv 0))) (au 1 (pv 1))))))   qy)   (jd (jo (ju u9 (au 0 (pv 0)) (au 1 (pv 1)))))
theorem Nt (F:Fun K "_law_signed" "_law_signed" Bt f fd) (hmg:mg "_law_signed" = some (.ref f)):gw P w K mg base "_law_signed" 1 a1v _root_.K.uq :=
  ⟨f,fd,Oh F,F.binds (ps:=a1v) fun _ _ _ _ _ _ us hl=>bd2 (fun _ _=>rfl) us hl,F.kp,hmg⟩
noncomputable abbrev Ca:Stmt:=top 31
theorem Hz:jx aat a5c (j7 Ca):=⟨rfl,rfl,rfl,by decide +kernel,rfl,by decide +kernel,by decide +kernel⟩
theorem Ph (F:Fun K "_law_digits" "_law_digits" Ca f fd) (d_law_cell_at:gw P w K mg base "_law_cell_at" 1 Wo (_root_.K.je)):zy P w K mg base CX0 2 f fd a5c (spF K a5c.length _root_.K.m8):=by
  have d_law_cell_at:=d_law_cell_at.mono (by decide:1≤1)
  refine mj (N:=aat) F Hz (by decide)  fun cdv A outer s H E B hr=>?_
  have hu:=wj hr
  have hq:=hr.units
  have nd:aat.Nodup:=Hz.nd
  refine gj ?_ ?_
  · exact ni 3 (kj nd rfl (Or.inl rfl) (gk d_law_cell_at hr (by rfl) (aj (au 0 (pv 0)) (aj (au 1 (pv 1)) bf)) (d7 (d7 eq_nil)))) (fun _ _ _ h=>h)
  · exact gj (wz (a5e (au 2 (pv 2)))   (jd (jo (au 3 (pv 3))))   qy)   (jd (jo (ju qj (ju u9 (ju Dh (au 3 (pv 3)) cg) cg) (ju Dh (ju u9 (ju Dh (au 3 (pv 3)) cg) cg) cg))))
theorem Nv (F:Fun K "_law_digits" "_law_digits" Ca f fd) (hmg:mg "_law_digits" = some (.ref f)) (d_law_cell_at:gw P w K mg base "_law_cell_at" 1 Wo (_root_.K.je)):gw P w K mg base "_law_digits" 2 a5c _root_.K.m8 :=
  ⟨f,fd,Ph F d_law_cell_at,F.binds (ps:=a5c) fun _ _ _ _ _ _ us hl=>bd3 (fun _ _ _=>rfl) us hl,F.kp,hmg⟩
noncomputable abbrev Hw:Stmt:=top 32
theorem Nj:jx ll7 a3q (j7 Hw):=⟨rfl,rfl,rfl,by decide +kernel,rfl,by decide +kernel,by decide +kernel⟩
theorem Xk (F:Fun K "_law_sum" "_law_sum" Hw f fd) (b_len:mg "len" = none) (b_range:mg "range" = none) (b_sorted:mg "sorted" = none) (b_tuple:mg "tuple" = none):zy P w K mg base CX0 1 f fd a3q (spF K a3q.length _root_.K.ux):=by
  refine mj (N:=ll7) F Nj (by decide)  fun cdv A outer s H E B hr=>?_
  have hu:=wj hr
  have hq:=hr.units
  have nd:ll7.Nodup:=Nj.nd
  refine gj ?_ ?_
  · exact Am 2 (kj nd rfl (Or.inl rfl) (J1 bf (dg cj (by decide)))) (fun _ _ _ h=>h)
  · refine gj ?_ ?_
    · refine Bl ?_ ?_ ?_ ?_ ?_ ?_
      · exact PassesOwn.never
      · exact rfl
      · exact Dj (by rfl) b_range (n6 (yt Ec (by rfl) b_len PySem.boot_len (aj (au 1 (pv 1)) bf)))
      · exact uh 3 (j8 nd rfl (Or.inl rfl))
      · refine gj ?_ ?_
        · refine @ni _ _ _ _ (tOf _ _ _) _ ?_ (fun _ _ _ h=>h)
          · exact kj nd rfl (Or.inl rfl) (ju Ny (ju u9 (ju qe (au 0 (pv 0)) (iu hu (Aa (aj cg (aj cg (aj cg bf))) (dg (ao (ao (ao cj))) (by decide))) (au 3 (pv 3)) (fun _ _=>rfl))) cg) cg)
        · refine jd ?_
          · refine wz ?_ ?_ ?_
            · exact nu (Ji hq) (au 4 (pv 4)) cg (n8 _)
            · refine jd ?_
              · refine yq _ ?_
                · refine wk ?_
                  · refine Eo PySem.F.plainAttrs_list PySem.F.slot_list_append PySem.F.type_list_append xu ?_ ?_
                    · exact pv 2
                    · exact qw (fj (aj (iu hu (iu hu (au 1 (pv 1)) (au 3 (pv 3)) (fun _ _=>rfl)) cg (fun _ _=>rfl)) (aj (au 4 (pv 4)) bf)) (dg (ao (ao cj)) (by decide))) w6
            · exact qy
      · exact Dd
    · refine jd ?_
      · refine jo ?_
        · refine fj ?_ ?_
          · exact aj (ju Ny (ju u9 (au 0 (pv 0)) cg) cg) (aj (n6 (qt ud (by rfl) b_tuple PyProof.Rows.boot_tuple (aj (n6 (yt Hu (by rfl) b_sorted PyProof.Rows.boot_sorted (aj (au 2 (pv 2)) bf))) bf))) bf)
          · exact dg (ao (ao cj)) (by decide)
theorem Wz (F:Fun K "_law_sum" "_law_sum" Hw f fd) (hmg:mg "_law_sum" = some (.ref f)) (b_len:mg "len" = none) (b_range:mg "range" = none) (b_sorted:mg "sorted" = none) (b_tuple:mg "tuple" = none):gw P w K mg base "_law_sum" 1 a3q _root_.K.ux :=
  ⟨f,fd,Xk F b_len b_range b_sorted b_tuple,F.binds (ps:=a3q) fun _ _ _ _ _ _ us hl=>bd2 (fun _ _=>rfl) us hl,F.kp,hmg⟩
noncomputable abbrev Fe:Stmt:=top 33
theorem Kv:jx ll5 Ul (j7 Fe):=⟨rfl,rfl,rfl,by decide +kernel,rfl,by decide +kernel,by decide +kernel⟩
theorem V6 (F:Fun K "_law_atom" "_law_atom" Fe f fd) (d_law_sum:gw P w K mg base "_law_sum" 1 a3q (_root_.K.ux)) (b_len:mg "len" = none):zy P w K mg base CX0 2 f fd Ul (spF K Ul.length _root_.K.uy):=by
  have d_law_sum:=d_law_sum.mono (by decide:1≤1)
  refine mj (N:=ll5) F Kv (by decide)  fun cdv A outer s H E B hr=>?_
  have hu:=wj hr
  have hq:=hr.units
  have nd:ll5.Nodup:=Kv.nd
  refine gj ?_ ?_
  · exact ni 3 (kj nd rfl (Or.inl rfl) (ju u9 (au 0 (pv 0)) cg)) (fun _ _ _ h=>h)
  · refine gj ?_ ?_
    · refine wz ?_ ?_ ?_
      · exact nu Zz (au 3 (pv 3)) cg (n8 _)
      · exact jd (jo (fj (aj iy (aj (gk d_law_sum hr (by rfl) (aj (ju qe (au 0 (pv 0)) cg) (aj (au 1 (pv 1)) bf)) (d7 (d7 eq_nil))) bf)) (dg (ao (ao cj)) (by decide))))
      · exact qy
    · refine gj ?_ ?_
      · refine wz ?_ ?_ ?_
        · exact nu (ug hq) (au 3 (pv 3)) cg (n8 _)
        · refine jd ?_
          · refine jo ?_
            · refine fj ?_ ?_
              · exact aj iy (aj (gk d_law_sum hr (by rfl) (aj (ju qe (au 0 (pv 0)) cg) (aj (au 1 (pv 1)) bf)) (d7 (d7 eq_nil))) (aj (ju qj cg (ju u9 (ju qe (au 0 (pv 0)) cg) cg)) bf))
              · exact dg (ao (ao (ao cj))) (by decide)
        · exact qy
      · refine gj ?_ ?_
        · refine a72 ?_
          · refine Zo ?_ ?_
            · exact iu hu (au 2 (pv 2)) (ju u9 (ju qe (au 0 (pv 0)) cg) (n6 (yt Ec (by rfl) b_len PySem.boot_len (aj (au 2 (pv 2)) bf)))) (fun _ _=>rfl)
            · exact Ai (is:=[4,5]) (Al rfl (jt (j8 nd rfl (Or.inl rfl)) (jt (j8 nd rfl (Or.inl rfl)) yd)))
        · exact jd (jo (fj (aj iy (aj (au 4 (pv 4)) (aj (ju u9 (ju qe (au 0 (pv 0)) cg) (au 5 (pv 5))) bf))) (dg (ao (ao (ao cj))) (by decide))))
theorem Uj (F:Fun K "_law_atom" "_law_atom" Fe f fd) (hmg:mg "_law_atom" = some (.ref f)) (d_law_sum:gw P w K mg base "_law_sum" 1 a3q (_root_.K.ux)) (b_len:mg "len" = none):gw P w K mg base "_law_atom" 2 Ul _root_.K.uy :=
  ⟨f,fd,V6 F d_law_sum b_len,F.binds (ps:=Ul) fun _ _ _ _ _ _ us hl=>bd3 (fun _ _ _=>rfl) us hl,F.kp,hmg⟩
noncomputable abbrev Bv:Stmt:=top 34
theorem Gs:jx ll4 Ul (j7 Bv):=⟨rfl,rfl,rfl,by decide +kernel,rfl,by decide +kernel,by decide +kernel⟩
theorem Oo (F:Fun K "_law_remark" "_law_remark" Bv f fd) (d_law_atom:gw P w K mg base "_law_atom" 2 Ul (_root_.K.uy)):zy P w K mg base CX0 3 f fd Ul (spF K Ul.length _root_.K.mq):=by
  have d_law_atom:=d_law_atom.mono (by decide:2≤2)
  refine mj (N:=ll4) F Gs (by decide)  fun cdv A outer s H E B hr=>?_
  have hu:=wj hr
  have hq:=hr.units
  have nd:ll4.Nodup:=Gs.nd
  refine gj ?_ ?_
  · exact ni 3 (kj nd rfl (Or.inl rfl) (ju u9 (au 0 (pv 0)) cg)) (fun _ _ _ h=>h)
  · refine gj ?_ ?_
    · exact ni 4 (kj nd rfl (Or.inl rfl) (gk d_law_atom hr (by rfl) (aj (ju qe (au 0 (pv 0)) cg) (aj (au 1 (pv 1)) (aj (au 2 (pv 2)) bf))) (d7 (d7 (d7 eq_nil))))) (fun _ _ _ h=>h)
    · refine gj ?_ ?_
      · exact ni 5 (kj nd rfl (Or.inl rfl) (gk d_law_atom hr (by rfl) (aj (ju qe (au 0 (pv 0)) cg) (aj (au 1 (pv 1)) (aj (au 2 (pv 2)) bf))) (d7 (d7 (d7 eq_nil))))) (fun _ _ _ h=>h)
      · refine gj ?_ ?_
        · exact ni 6 (kj nd rfl (Or.inl rfl) (gk d_law_atom hr (by rfl) (aj (ju qe (au 0 (pv 0)) cg) (aj (au 1 (pv 1)) (aj (au 2 (pv 2)) bf))) (d7 (d7 (d7 eq_nil))))) (fun _ _ _ h=>h)
        · refine gj ?_ ?_
          · refine @ni _ _ _ _ (tOf _ _ _) _ ?_ (fun _ _ _ h=>h)
            · refine kj ?_ ?_ ?_ ?_
              · exact nd
              · exact rfl
              · exact Or.inl rfl
              · refine fj ?_ ?_
                · refine aj ?_ ?_
                  · exact au 4 (pv 4)
                  · refine aj ?_ ?_
                    · exact au 5 (pv 5)
                    · refine aj ?_ ?_
                      · exact au 6 (pv 6)
                      · refine aj ?_ ?_
                        · exact fj (aj iy (aj (au 5 (pv 5)) bf)) (dg (ao (ao cj)) (by decide))
                        · refine aj ?_ ?_
                          · exact fj (aj iy (aj (fj (aj (au 6 (pv 6)) (aj (au 4 (pv 4)) bf)) (dg (ao (ao cj)) (by decide))) bf)) (dg (ao (ao cj)) (by decide))
                          · exact aj (fj (aj iy (aj (fj bf (dg cj (by decide))) bf)) (dg (ao (ao cj)) (by decide))) bf
                · exact dg (ao (ao (ao (ao (ao (ao cj)))))) (by decide)
          · refine gj ?_ ?_
            · refine @ni _ _ _ _ (tOf _ _ _) _ ?_ (fun _ _ _ h=>h)
              · refine kj ?_ ?_ ?_ ?_
                · exact nd
                · exact rfl
                · exact Or.inl rfl
                · refine Aa ?_ ?_
                  · refine aj ?_ ?_
                    · exact au 4 (pv 4)
                    · refine aj ?_ ?_
                      · exact fj (aj iy (aj (fj bf (dg cj (by decide))) bf)) (dg (ao (ao cj)) (by decide))
                      · refine aj ?_ ?_
                        · exact fj (aj iy (aj (au 4 (pv 4)) bf)) (dg (ao (ao cj)) (by decide))
                        · refine aj ?_ ?_
                          · exact fj (aj iy (aj (fj (aj (au 4 (pv 4)) (aj (au 5 (pv 5)) bf)) (dg (ao (ao cj)) (by decide))) bf)) (dg (ao (ao cj)) (by decide))
                          · exact aj (fj (aj iy (aj (fj (aj (au 4 (pv 4)) (aj (au 5 (pv 5)) (aj (au 6 (pv 6)) bf))) (dg (ao (ao (ao cj))) (by decide))) bf)) (dg (ao (ao cj)) (by decide))) bf
                  · exact dg (ao (ao (ao (ao (ao cj))))) (by decide)
            · refine gj ?_ ?_
              · refine @ni _ _ _ _ (tOf _ _ _) _ ?_ (fun _ _ _ h=>h)
                · refine kj ?_ ?_ ?_ ?_
                  · exact nd
                  · exact rfl
                  · exact Or.inl rfl
                  · refine ju ?_ ?_ ?_
                    · exact qj
                    · exact au 8 (pv 8)
                    · refine Aa ?_ ?_
                      · refine aj ?_ ?_
                        · refine fj ?_ ?_
                          · exact aj iy (aj (fj (aj iy (aj (fj (aj (au 4 (pv 4)) (aj (au 5 (pv 5)) bf)) (dg (ao (ao cj)) (by decide))) bf)) (dg (ao (ao cj)) (by decide))) bf)
                          · exact dg (ao (ao cj)) (by decide)
                        · refine aj ?_ ?_
                          · refine fj ?_ ?_
                            · refine aj ?_ ?_
                              · exact iy
                              · refine aj ?_ ?_
                                · refine fj ?_ ?_
                                  · exact aj iy (aj (fj (aj (au 5 (pv 5)) (aj (fj (aj iy (aj (au 4 (pv 4)) bf)) (dg (ao (ao cj)) (by decide))) bf)) (dg (ao (ao cj)) (by decide))) bf)
                                  · exact dg (ao (ao cj)) (by decide)
                                · exact bf
                            · exact dg (ao (ao cj)) (by decide)
                          · exact bf
                      · exact dg (ao (ao cj)) (by decide)
              · refine jd ?_
                · refine jo ?_
                  · refine iu ?_ ?_ ?_ ?_
                    · exact hu
                    · refine ju ?_ ?_ ?_
                      · exact qj
                      · exact au 8 (pv 8)
                      · refine Aa ?_ ?_
                        · refine aj ?_ ?_
                          · exact fj (aj iy (aj (Py (au 7 (pv 7)) a0g (Y7 (ju qj cg (ju u9 (ju qe (au 0 (pv 0)) cg) cg)))) bf)) (dg (ao (ao cj)) (by decide))
                          · exact aj (fj (aj iy (aj (Py (au 7 (pv 7)) a0g (Y7 (ju qj cg (ju u9 (ju qe (au 0 (pv 0)) cg) cg)))) bf)) (dg (ao (ao cj)) (by decide))) bf
                        · exact dg (ao (ao cj)) (by decide)
                    · exact au 3 (pv 3)
                    · exact fun _ _=>rfl
theorem Oc (F:Fun K "_law_remark" "_law_remark" Bv f fd) (hmg:mg "_law_remark" = some (.ref f)) (d_law_atom:gw P w K mg base "_law_atom" 2 Ul (_root_.K.uy)):gw P w K mg base "_law_remark" 3 Ul _root_.K.mq :=
  ⟨f,fd,Oo F d_law_atom,F.binds (ps:=Ul) fun _ _ _ _ _ _ us hl=>bd3 (fun _ _ _=>rfl) us hl,F.kp,hmg⟩
noncomputable abbrev Az:Stmt:=top 35
theorem Fy:jx ll1 a7u (j7 Az):=⟨rfl,rfl,rfl,by decide +kernel,rfl,by decide +kernel,by decide +kernel⟩
theorem Lg (F:Fun K "_law_program" "_law_program" Az f fd) (d_law_cell_at:gw P w K mg base "_law_cell_at" 1 Wo (_root_.K.je)) (d_law_digits:gw P w K mg base "_law_digits" 2 a5c (_root_.K.m8)) (d_law_remark:gw P w K mg base "_law_remark" 3 Ul (_root_.K.mq)) (d_law_signed:gw P w K mg base "_law_signed" 1 a1v (_root_.K.uq)) (d_law_sum:gw P w K mg base "_law_sum" 1 a3q (_root_.K.ux)) (b_abs:mg "abs" = none) (b_len:mg "len" = none) (b_range:mg "range" = none) (b_sorted:mg "sorted" = none) (b_tuple:mg "tuple" = none):zy P w K mg base CX0 4 f fd a7u (spF K a7u.length _root_.K.v9):=by
  have d_law_cell_at:=d_law_cell_at.mono (by decide:1≤3)
  have d_law_digits:=d_law_digits.mono (by decide:2≤3)
  have d_law_remark:=d_law_remark.mono (by decide:3≤3)
  have d_law_signed:=d_law_signed.mono (by decide:1≤3)
  have d_law_sum:=d_law_sum.mono (by decide:1≤3)
  refine mj (N:=ll1) F Fy (by decide)  fun cdv A outer s H E B hr=>?_
  have hu:=wj hr
  have hq:=hr.units
  have nd:ll1.Nodup:=Fy.nd
  refine gj ?_ ?_
  · exact ni 2 (kj nd rfl (Or.inr rfl) (gk d_law_cell_at hr (by rfl) (aj (au 0 (pv 0)) (aj cg bf)) (d7 (d7 eq_nil)))) (fun _ _ _ h=>h)
  · refine gj ?_ ?_
    · exact Am 3 (kj nd rfl (Or.inl rfl) (J1 bf (dg cj (by decide)))) (fun _ _ _ h=>h)
    · refine gj ?_ ?_
      · refine Bl ?_ ?_ ?_ ?_ ?_ ?_
        · exact PassesOwn.never
        · exact rfl
        · exact Dj (by rfl) b_range (ju u9 (ju qe (au 2 (pv 2)) cg) cg)
        · exact uh 4 (j8 nd rfl (Or.inl rfl))
        · refine gj ?_ ?_
          · exact ni 5 (kj nd rfl (Or.inl rfl) (gk d_law_cell_at hr (by rfl) (aj (au 0 (pv 0)) (aj (ju qj cg (au 4 (pv 4))) bf)) (d7 (d7 eq_nil)))) (fun _ _ _ h=>h)
          · refine gj ?_ ?_
            · refine @ni _ _ _ _ (tOf _ _ _) _ ?_ (fun _ _ _ h=>h)
              · refine kj ?_ ?_ ?_ ?_
                · exact nd
                · exact rfl
                · exact Or.inl rfl
                · refine gk d_law_signed ?_ ?_ ?_ ?_
                  · exact hr
                  · exact by rfl
                  · exact aj (au 5 (pv 5)) (aj (iu hu (Aa (aj cg (aj (ju Zy cg cg) bf)) (dg (ao (ao cj)) (by decide))) (ju u9 (ju qe (au 5 (pv 5)) cg) cg) (fun _ _=>rfl)) bf)
                  · exact d7 (d7 eq_nil)
            · refine jd ?_
              · refine yq _ ?_
                · refine wk ?_
                  · refine Eo PySem.F.plainAttrs_list PySem.F.slot_list_append PySem.F.type_list_append xu ?_ ?_
                    · exact pv 3
                    · refine qw ?_ ?_
                      · refine fj ?_ ?_
                        · refine aj ?_ ?_
                          · exact iu hu (Aa (aj iy (aj iy (aj iy bf))) (dg (ao (ao (ao cj))) (by decide))) (au 4 (pv 4)) (fun _ _=>rfl)
                          · refine aj ?_ ?_
                            · exact iu hu (Aa (aj iy (aj iy bf)) (dg (ao (ao cj)) (by decide))) (ju u9 (ju qe (au 5 (pv 5)) cg) cg) (fun _ _=>rfl)
                            · exact aj (au 6 (pv 6)) (aj (ju qj (au 6 (pv 6)) (ju u9 (ju qe (n6 (yt Yd (by rfl) b_abs PyProof.Rows.boot_abs (aj (au 5 (pv 5)) bf))) cg) (ju Zy cg cg))) (aj (au 6 (pv 6)) bf))
                        · exact dg (ao (ao (ao (ao (ao cj))))) (by decide)
                      · exact w6
        · exact Dd
      · refine gj ?_ ?_
        · exact ni 7 (Ig (N:=["_law_k","_law_first"]) ⟨rfl,rfl,by decide +kernel,by decide +kernel⟩ rfl (Dj (by rfl) b_range (ju qj cg (ju u9 (ju qe (au 2 (pv 2)) cg) cg))) (fun C s₀ H₀ ex pn=>pgE fun B=>(uh 0 (j8 (show (["_law_k","_law_first"]:List Str).Nodup by decide +kernel) rfl (Or.inl rfl)))) (fun C s₀ H₀ ex pn=>rm) (fun C s₀ H₀ ex pn=>peE fun B=>(fj (aj (iu hu (Aa (Zx (.cons (.cons (.cons (.cons .nil))))) (dg (len_strs _) (by decide))) (au 0 (pv 0)) (fun _ _=>rfl)) (aj (ju qj cg (ju u9 (ju qe (au 1 (pv 1)) (iu hu (Aa (aj cg (aj cg (aj cg (aj cg bf)))) (dg (ao (ao (ao (ao cj)))) (by decide))) (au 0 (pv 0)) (fun _ _=>rfl))) cg)) bf)) (dg (ao (ao cj)) (by decide)))) (j8 nd rfl (Or.inl rfl)) rfl) (fun σ H Q h=>Jq ⟨rfl,fun j k h=>match j,h with | 0,h=>(by cases h; exact ⟨_,rfl,rfl,⟨.inl rfl,.inr (.inl rfl),.inl rfl⟩⟩) | _+1,h=>(by cases h)⟩ Dd (Vw h))
        · refine gj ?_ ?_
          · exact Am 8 (kj nd rfl (Or.inl rfl) (J1 bf (dg cj (by decide)))) (fun _ _ _ h=>h)
          · refine gj ?_ ?_
            · refine Bl ?_ ?_ ?_ ?_ ?_ ?_
              · exact PassesOwn.never
              · exact rfl
              · exact Dj (by rfl) b_range (ju u9 (ju qe (au 2 (pv 2)) cg) cg)
              · exact uh 4 (j8 nd rfl (Or.inl rfl))
              · refine gj ?_ ?_
                · exact ni 9 (kj nd rfl (Or.inl rfl) (gk d_law_digits hr (by rfl) (aj (au 0 (pv 0)) (aj (ju qj cg (au 4 (pv 4))) (aj (au 1 (pv 1)) bf))) (d7 (d7 (d7 eq_nil))))) (fun _ _ _ h=>h)
                · refine gj ?_ ?_
                  · refine a72 ?_
                    · refine Zo ?_ ?_
                      · exact iu hu (au 7 (pv 7)) (ju u9 (au 9 (pv 9)) (n6 (yt Ec (by rfl) b_len PySem.boot_len (aj (au 7 (pv 7)) bf)))) (fun _ _=>rfl)
                      · exact Ai (is:=[10,11]) (Al rfl (jt (j8 nd rfl (Or.inl rfl)) (jt (j8 nd rfl (Or.inl rfl)) yd)))
                  · refine gj ?_ ?_
                    · exact Am 12 (kj nd rfl (Or.inl rfl) (J1 bf (dg cj (by decide)))) (fun _ _ _ h=>h)
                    · refine gj ?_ ?_
                      · refine Bl ?_ ?_ ?_ ?_ ?_ ?_
                        · exact PassesOwn.never
                        · exact rfl
                        · exact Dj (by rfl) b_range (a04 3 b_len rfl (pv 3))
                        · exact uh 13 (j8 nd rfl (Or.inl rfl))
                        · refine jd ?_
                          · refine wz ?_ ?_ ?_
                            · exact nu (ug hq) (ju u9 (ju qe (au 9 (pv 9)) (iu hu (Aa (aj cg (aj cg (aj cg bf))) (dg (ao (ao (ao cj))) (by decide))) (au 13 (pv 13)) (fun _ _=>rfl))) cg) cg (n8 _)
                            · refine jd ?_
                              · refine yq _ ?_
                                · refine wk ?_
                                  · refine Eo PySem.F.plainAttrs_list PySem.F.slot_list_append PySem.F.type_list_append xu ?_ ?_
                                    · exact pv 12
                                    · refine qw ?_ ?_
                                      · refine fj ?_ ?_
                                        · refine aj ?_ ?_
                                          · exact iu hu (a3s 3 (pv 3) (au 13 (pv 13)) (fun _ _=>rfl)) cg (fun _ _=>rfl)
                                          · exact aj (gk d_law_sum hr (by rfl) (aj (ju qe (au 9 (pv 9)) (ju qj cg (ju Dh cg (au 13 (pv 13))))) (aj (au 3 (pv 3)) bf)) (d7 (d7 eq_nil))) bf
                                        · exact dg (ao (ao cj)) (by decide)
                                      · exact w6
                            · exact qy
                        · exact Dd
                      · refine gj ?_ ?_
                        · exact ni 14 (kj nd rfl (Or.inl rfl) (gk d_law_remark hr (by rfl) (aj (ju qe (au 9 (pv 9)) cg) (aj (au 3 (pv 3)) (aj (au 7 (pv 7)) bf))) (d7 (d7 (d7 eq_nil))))) (fun _ _ _ h=>h)
                        · refine jd ?_
                          · refine yq _ ?_
                            · refine wk ?_
                              · refine Eo PySem.F.plainAttrs_list PySem.F.slot_list_append PySem.F.type_list_append xu ?_ ?_
                                · exact pv 8
                                · refine qw ?_ ?_
                                  · refine fj ?_ ?_
                                    · refine aj ?_ ?_
                                      · exact au 10 (pv 10)
                                      · refine aj ?_ ?_
                                        · exact ju u9 (ju qe (au 9 (pv 9)) cg) (au 11 (pv 11))
                                        · refine aj ?_ ?_
                                          · exact au 14 (pv 14)
                                          · refine aj ?_ ?_
                                            · exact n6 (qt ud (by rfl) b_tuple PyProof.Rows.boot_tuple (aj (n6 (yt Hu (by rfl) b_sorted PyProof.Rows.boot_sorted (aj (au 12 (pv 12)) bf))) bf))
                                            · exact aj (ju u9 (ju qe (au 9 (pv 9)) cg) (au 11 (pv 11))) bf
                                    · exact dg (ao (ao (ao (ao (ao cj))))) (by decide)
                                  · exact w6
              · exact Dd
            · exact jd (jo (fj (aj (au 3 (pv 3)) (aj (au 7 (pv 7)) (aj (au 8 (pv 8)) (aj (fj bf (dg cj (by decide))) bf)))) (dg (ao (ao (ao (ao cj)))) (by decide))))
theorem Li (F:Fun K "_law_program" "_law_program" Az f fd) (hmg:mg "_law_program" = some (.ref f)) (d_law_cell_at:gw P w K mg base "_law_cell_at" 1 Wo (_root_.K.je)) (d_law_digits:gw P w K mg base "_law_digits" 2 a5c (_root_.K.m8)) (d_law_remark:gw P w K mg base "_law_remark" 3 Ul (_root_.K.mq)) (d_law_signed:gw P w K mg base "_law_signed" 1 a1v (_root_.K.uq)) (d_law_sum:gw P w K mg base "_law_sum" 1 a3q (_root_.K.ux)) (b_abs:mg "abs" = none) (b_len:mg "len" = none) (b_range:mg "range" = none) (b_sorted:mg "sorted" = none) (b_tuple:mg "tuple" = none):gw P w K mg base "_law_program" 4 a7u _root_.K.v9 :=
  ⟨f,fd,Lg F d_law_cell_at d_law_digits d_law_remark d_law_signed d_law_sum b_abs b_len b_range b_sorted b_tuple,F.binds (ps:=a7u) fun _ _ _ _ _ _ us hl=>bd2 (fun _ _=>rfl) us hl,F.kp,hmg⟩
noncomputable abbrev Fj:Stmt:=top 36
theorem Kr:jx ll6 Xx (j7 Fj):=⟨rfl,rfl,rfl,by decide +kernel,rfl,by decide +kernel,by decide +kernel⟩
theorem U6 (F:Fun K "_law_plus" "_law_plus" Fj f fd) (b_dict:mg "dict" = none) (b_sorted:mg "sorted" = none) (b_tuple:mg "tuple" = none):zy P w K mg base CX0 1 f fd Xx (spF K Xx.length _root_.K.jk):=by
  refine mj (N:=ll6) F Kr (by decide)  fun cdv A outer s H E B hr=>?_
  have hu:=wj hr
  have hq:=hr.units
  have nd:ll6.Nodup:=Kr.nd
  refine gj ?_ ?_
  · exact Am 3 (kj nd rfl (Or.inr rfl) (a76 rfl (by rfl) b_dict (iu hu (au 0 (pv 0)) cg (fun _ _=>rfl)))) (fun _ _ _ h=>h)
  · refine gj ?_ ?_
    · refine Bl ?_ ?_ ?_ ?_ ?_ ?_
      · exact PassesOwn.never
      · exact rfl
      · exact v8 (iu hu (au 1 (pv 1)) cg (fun _ _=>rfl))
      · exact Ai (is:=[4,5]) (Al rfl (jt (j8 nd rfl (Or.inl rfl)) (jt (j8 nd rfl (Or.inl rfl)) yd)))
      · exact jd (Kd 3 hu (pv 3) (au 4 (pv 4)) (ju qj (R8 3 hu (pv 3) (au 4 (pv 4)) cg ⟨rfl,rfl,rfl,rfl⟩) (ju Dh (au 5 (pv 5)) (au 2 (pv 2)))) rfl)
      · exact v7
    · refine jd ?_
      · refine jo ?_
        · refine fj ?_ ?_
          · refine aj ?_ ?_
            · exact ju qj (iu hu (au 0 (pv 0)) cg (fun _ _=>rfl)) (ju Dh (iu hu (au 1 (pv 1)) cg (fun _ _=>rfl)) (au 2 (pv 2)))
            · refine aj ?_ ?_
              · refine n6 ?_
                · refine qt ud ?_ ?_ PyProof.Rows.boot_tuple ?_
                  · exact by rfl
                  · exact b_tuple
                  · refine aj ?_ ?_
                    · refine su ?_
                      · refine xg (N:=["_law_box","_law_book"]) ?_ ?_ ?_ ?_ ?_ ?_ ?_ ?_
                        · exact ⟨rfl,fun j k h=>match j,h with | 0,h=>(by cases h; exact ⟨_,rfl,rfl,⟨.inl rfl,.inr (.inl rfl),.inl rfl⟩⟩) | _+1,h=>(by cases h)⟩
                        · exact ⟨rfl,rfl,by decide +kernel,by decide +kernel⟩
                        · exact rfl
                        · exact v8 (n6 (yt (Ir (by rfl)) (by rfl) b_sorted PyProof.Rows.boot_sorted (aj (au 3 (pv 3)) bf)))
                        · exact v7
                        · exact fun C s₀ H₀ ex pn=>pgE fun B=>(uh 0 (j8 (show (["_law_box","_law_book"]:List Str).Nodup by decide +kernel) rfl (Or.inl rfl)))
                        · exact fun C s₀ H₀ ex pn=>(O2 fun B=>(nu (Ji hq) (iu hu (au 1 (pv 1)) (au 0 (pv 0)) (fun _ _=>rfl)) cg (n8 _)))
                        · exact fun C s₀ H₀ ex pn=>peE fun B=>(fj (aj (au 0 (pv 0)) (aj (iu hu (au 1 (pv 1)) (au 0 (pv 0)) (fun _ _=>rfl)) bf)) (dg (ao (ao cj)) (by decide)))
                    · exact bf
              · exact bf
          · exact dg (ao (ao cj)) (by decide)
theorem Ug (F:Fun K "_law_plus" "_law_plus" Fj f fd) (hmg:mg "_law_plus" = some (.ref f)) (b_dict:mg "dict" = none) (b_sorted:mg "sorted" = none) (b_tuple:mg "tuple" = none):gw P w K mg base "_law_plus" 1 Xx _root_.K.jk :=
  ⟨f,fd,U6 F b_dict b_sorted b_tuple,F.binds (ps:=Xx) fun _ _ _ _ _ _ us hl=>bd3 (fun _ _ _=>rfl) us hl,F.kp,hmg⟩
noncomputable abbrev Gy:Stmt:=top 37
theorem Ma:jx abq a5o (j7 Gy):=⟨rfl,rfl,rfl,by decide +kernel,rfl,by decide +kernel,by decide +kernel⟩
theorem Wn (F:Fun K "_law_put" "_law_put" Gy f fd) (d_law_plus:gw P w K mg base "_law_plus" 1 Xx (_root_.K.jk)) (b_dict:mg "dict" = none):zy P w K mg base CX0 2 f fd a5o (spF K a5o.length _root_.K.Ah):=by
  have d_law_plus:=d_law_plus.mono (by decide:1≤1)
  refine mj (N:=abq) F Ma (by decide)  fun cdv A outer s H E B hr=>?_
  have hu:=wj hr
  have hq:=hr.units
  have nd:abq.Nodup:=Ma.nd
  refine gj ?_ ?_
  · exact ni 2 (kj nd rfl (Or.inl rfl) (fj (aj (iu hu (au 0 (pv 0)) cg (fun _ _=>rfl)) (aj (fj bf (dg cj (by decide))) bf)) (dg (ao (ao cj)) (by decide)))) (fun _ _ _ h=>h)
  · refine gj ?_ ?_
    · refine Bl ?_ ?_ ?_ ?_ ?_ ?_
      · exact PassesOwn.never
      · exact rfl
      · exact v8 (iu hu (au 0 (pv 0)) cg (fun _ _=>rfl))
      · exact Ai (is:=[3,4]) (Al rfl (jt (j8 nd rfl (Or.inl rfl)) (jt (j8 nd rfl (Or.inl rfl)) yd)))
      · refine jd ?_
        · refine @ni _ _ _ _ (tOf _ _ _) _ ?_ (fun _ _ _ h=>h)
          · refine kj ?_ ?_ ?_ ?_
            · exact nd
            · exact rfl
            · exact Or.inl rfl
            · refine gk d_law_plus ?_ ?_ ?_ ?_
              · exact hr
              · exact by rfl
              · refine aj ?_ ?_
                · exact au 2 (pv 2)
                · refine aj ?_ ?_
                  · refine a4s ?_ ?_ ?_ ?_ ?_
                    · exact hu
                    · exact n6 (qt (Ms (by rfl)) (by rfl) b_dict PyProof.Rows.boot_dict (aj (au 1 (pv 1)) bf))
                    · exact au 3 (pv 3)
                    · exact fj (aj cg (aj (fj (aj (fj (aj (au 3 (pv 3)) (aj cg bf)) (dg (ao (ao cj)) (by decide))) bf) (dg (ao cj) (by decide))) bf)) (dg (ao (ao cj)) (by decide))
                    · exact ⟨rfl,rfl,rfl,rfl⟩
                  · exact aj (au 4 (pv 4)) bf
              · exact d7 (d7 (d7 eq_nil))
      · exact v7
    · exact jd (jo (au 2 (pv 2)))
theorem Xo (F:Fun K "_law_put" "_law_put" Gy f fd) (hmg:mg "_law_put" = some (.ref f)) (d_law_plus:gw P w K mg base "_law_plus" 1 Xx (_root_.K.jk)) (b_dict:mg "dict" = none):gw P w K mg base "_law_put" 2 a5o _root_.K.Ah :=
  ⟨f,fd,Wn F d_law_plus b_dict,F.binds (ps:=a5o) fun _ _ _ _ _ _ us hl=>bd2 (fun _ _=>rfl) us hl,F.kp,hmg⟩
noncomputable abbrev Ao:Stmt:=top 38
theorem Hy:jx Vu Vu (j7 Ao):=⟨rfl,rfl,rfl,by decide +kernel,rfl,by decide +kernel,by decide +kernel⟩
theorem Oq (F:Fun K "_law_behind" "_law_behind" Ao f fd) {nn:Nat} (d_law_behind:gw P w K mg base "_law_behind" (2+nn) Vu (_root_.K.jg nn)) (d_law_put:gw P w K mg base "_law_put" 2 a5o (_root_.K.Ah)) (b_int:mg "int" = none) (b_tuple:mg "tuple" = none):zy P w K mg base CX0 (2+nn+1) f fd Vu (spF K Vu.length (_root_.K.jg (nn+1))):=by
  have d_law_behind:=d_law_behind.mono (show (2+nn)≤(2+nn) by first | decide | omega)
  have d_law_put:=d_law_put.mono (show 2≤(2+nn) by first | decide | omega)
  refine mj (N:=Vu) F Hy (by decide)  fun cdv A outer s H E B hr=>?_
  have hu:=wj hr
  have hq:=hr.units
  have nd:Vu.Nodup:=Hy.nd
  refine gj ?_ ?_
  · refine wz ?_ ?_ ?_
    · exact nu (ug hq) (iu hu (au 0 (pv 0)) cg (fun _ _=>rfl)) iy (n8 _)
    · refine jd ?_
      · exact jo (fj (aj iy (aj (gk d_law_put hr (by rfl) (aj (iu hu (au 0 (pv 0)) cg (fun _ _=>rfl)) (aj (iu hu (au 1 (pv 1)) cg (fun _ _=>rfl)) bf)) (d7 (d7 eq_nil))) bf)) (dg (ao (ao cj)) (by decide)))
    · exact qy
  · refine gj ?_ ?_
    · refine wz ?_ ?_ ?_
      · exact nu (ug hq) (iu hu (au 0 (pv 0)) cg (fun _ _=>rfl)) iy (n8 _)
      · refine jd ?_
        · refine jo ?_
          · refine fj ?_ ?_
            · exact aj iy (aj (gk d_law_put hr (by rfl) (aj (iu hu (au 0 (pv 0)) cg (fun _ _=>rfl)) (aj (iu hu (au 1 (pv 1)) cg (fun _ _=>rfl)) bf)) (d7 (d7 eq_nil))) (aj (iu hu (au 0 (pv 0)) cg (fun _ _=>rfl)) bf))
            · exact dg (ao (ao (ao cj))) (by decide)
      · exact qy
    · refine gj ?_ ?_
      · refine wz ?_ ?_ ?_
        · exact PW.pt (a9y (nu (ug hq) (iu hu (au 0 (pv 0)) cg (fun _ _=>rfl)) iy (n8 _)) (a66 (nu (ug hq) (iu hu (au 0 (pv 0)) cg (fun _ _=>rfl)) (iu hu (au 1 (pv 1)) cg (fun _ _=>rfl)) (n8 _))))
        · refine jd ?_
          · refine jo ?_
            · refine fj ?_ ?_
              · refine aj ?_ ?_
                · refine iu ?_ ?_ ?_ ?_
                  · exact hu
                  · exact Aa (aj iy (aj iy bf)) (dg (ao (ao cj)) (by decide))
                  · exact n6 (qt Ql (by rfl) b_int PyProof.Rows.boot_int (aj (a1f (ug hq) (iu hu (au 0 (pv 0)) cg (fun _ _=>rfl)) (iu hu (au 1 (pv 1)) cg (fun _ _=>rfl)) (n8 _)) bf))
                  · exact fun _ _=>rfl
                · exact aj (fj bf (dg cj (by decide))) bf
              · exact dg (ao (ao cj)) (by decide)
        · exact qy
      · refine gj ?_ ?_
        · exact wz (nu (ug hq) (iu hu (au 0 (pv 0)) cg (fun _ _=>rfl)) iy (n8 _))   (jd (jo (au 0 (pv 0))))   qy
        · refine gj ?_ ?_
          · refine wz ?_ ?_ ?_
            · exact nu (ug hq) (iu hu (au 0 (pv 0)) cg (fun _ _=>rfl)) iy (n8 _)
            · exact jd (jo (fj (aj iy (aj (gk d_law_behind hr (by rfl) (aj (iu hu (au 0 (pv 0)) cg (fun _ _=>rfl)) (aj (au 1 (pv 1)) bf)) (d7 (d7 eq_nil))) bf)) (dg (ao (ao cj)) (by decide))))
            · exact qy
          · refine jd ?_
            · refine jo ?_
              · refine fj ?_ ?_
                · refine aj ?_ ?_
                  · exact iu hu (au 0 (pv 0)) cg (fun _ _=>rfl)
                  · refine aj ?_ ?_
                    · refine n6 ?_
                      · refine qt ud ?_ ?_ PyProof.Rows.boot_tuple ?_
                        · exact by rfl
                        · exact b_tuple
                        · refine aj ?_ ?_
                          · refine su ?_
                            · refine xg (N:=["_law_one","_law_step"]) ?_ ?_ ?_ ?_ ?_ ?_ ?_ ?_
                              · exact ⟨rfl,fun j k h=>match j,h with | 0,h=>(by cases h; exact ⟨_,rfl,rfl,⟨.inl rfl,.inr (.inl rfl),.inl rfl⟩⟩) | _+1,h=>(by cases h)⟩
                              · exact ⟨rfl,rfl,by decide +kernel,by decide +kernel⟩
                              · exact rfl
                              · exact v8 (iu hu (au 0 (pv 0)) cg (fun _ _=>rfl))
                              · exact v7
                              · exact fun C s₀ H₀ ex pn=>pgE fun B=>(uh 0 (j8 (show (["_law_one","_law_step"]:List Str).Nodup by decide +kernel) rfl (Or.inl rfl)))
                              · exact fun C s₀ H₀ ex pn=>rm
                              · exact fun C s₀ H₀ ex pn=>peE fun B=>(gk d_law_behind hr (by rfl) (aj (au 0 (pv 0)) (aj (au 1 (pv 1)) bf)) (d7 (d7 eq_nil)))
                          · exact bf
                    · exact bf
                · exact dg (ao (ao cj)) (by decide)
theorem Nx (F:Fun K "_law_behind" "_law_behind" Ao f fd) (hmg:mg "_law_behind" = some (.ref f)) {nn:Nat} (d_law_behind:gw P w K mg base "_law_behind" (2+nn) Vu (_root_.K.jg nn)) (d_law_put:gw P w K mg base "_law_put" 2 a5o (_root_.K.Ah)) (b_int:mg "int" = none) (b_tuple:mg "tuple" = none):gw P w K mg base "_law_behind" (2+nn+1) Vu (_root_.K.jg (nn+1)) :=
  ⟨f,fd,Oq F d_law_behind d_law_put b_int b_tuple,F.binds (ps:=Vu) fun _ _ _ _ _ _ us hl=>bd2 (fun _ _=>rfl) us hl,F.kp,hmg⟩
theorem G8 {f_law_behind:Addr} {fd_law_behind:FuncData} (F_law_behind:Fun K "_law_behind" "_law_behind" Ao f_law_behind fd_law_behind) (h_law_behind:mg "_law_behind" = some (.ref f_law_behind)) (d_law_put:gw P w K mg base "_law_put" 2 a5o _root_.K.Ah) (b_int:mg "int" = none) (b_tuple:mg "tuple" = none):∀ nn:Nat,gw P w K mg base "_law_behind" (2+nn) Vu (_root_.K.jg nn)
  | 0=>gw.zero F_law_behind h_law_behind (F_law_behind.binds (ps:=Vu) fun _ _ _ _ _ _ us hl=>bd2 (fun _ _=>rfl) us hl)
  | nn+1=>by
    have ih:=G8 F_law_behind h_law_behind d_law_put b_int b_tuple nn
    have d_law_behind:=ih
    exact Nx F_law_behind h_law_behind d_law_behind d_law_put b_int b_tuple
noncomputable abbrev Bk:Stmt:=top 39
theorem Iw:jx a7q Ia (j7 Bk):=⟨rfl,rfl,rfl,by decide +kernel,rfl,by decide +kernel,by decide +kernel⟩
theorem Ru (F:Fun K "_law_plain" "_law_plain" Bk f fd) {nn:Nat} (d_law_against:gw P w K mg base "_law_against" (1+nn) Ia (_root_.K.j4 nn)) (d_law_plain:gw P w K mg base "_law_plain" (1+nn) Ia (_root_.K.ig nn)) (b_tuple:mg "tuple" = none):zy P w K mg base CX0 (1+nn+1) f fd Ia (spF K Ia.length (_root_.K.ig (nn+1))):=by
  have d_law_against:=d_law_against.mono (show (1+nn)≤(1+nn) by first | decide | omega)
  have d_law_plain:=d_law_plain.mono (show (1+nn)≤(1+nn) by first | decide | omega)
  refine mj (N:=a7q) F Iw (by decide)  fun cdv A outer s H E B hr=>?_
  have hu:=wj hr
  have hq:=hr.units
  have nd:a7q.Nodup:=Iw.nd
  refine gj ?_ ?_
  · refine wz ?_ ?_ ?_
    · exact nu (ug hq) (iu hu (au 0 (pv 0)) cg (fun _ _=>rfl)) iy (n8 _)
    · refine gj ?_ ?_
      · exact ni 1 (kj nd rfl (Or.inl rfl) (ju qj iy (iu hu (au 0 (pv 0)) cg (fun _ _=>rfl)))) (fun _ _ _ h=>h)
      · refine jd ?_
        · refine jo ?_
          · refine fj ?_ ?_
            · refine aj ?_ ?_
              · exact iy
              · refine aj ?_ ?_
                · refine fj ?_ ?_
                  · refine aj ?_ ?_
                    · refine fj ?_ ?_
                      · refine aj ?_ ?_
                        · exact iy
                        · refine aj ?_ ?_
                          · refine fj ?_ ?_
                            · exact aj (Gi yw (iu hu (au 0 (pv 0)) cg (fun _ _=>rfl))) (aj (fj (aj (fj (aj (au 1 (pv 1)) (aj cg bf)) (dg (ao (ao cj)) (by decide))) bf) (dg (ao cj) (by decide))) bf)
                            · exact dg (ao (ao cj)) (by decide)
                          · exact bf
                      · exact dg (ao (ao cj)) (by decide)
                    · refine aj ?_ ?_
                      · refine fj ?_ ?_
                        · refine aj ?_ ?_
                          · exact iy
                          · refine aj ?_ ?_
                            · refine fj ?_ ?_
                              · exact aj (iu hu (au 0 (pv 0)) cg (fun _ _=>rfl)) (aj (fj (aj (fj (aj (au 1 (pv 1)) (aj (Gi yw cg) bf)) (dg (ao (ao cj)) (by decide))) bf) (dg (ao cj) (by decide))) bf)
                              · exact dg (ao (ao cj)) (by decide)
                            · exact bf
                        · exact dg (ao (ao cj)) (by decide)
                      · exact bf
                  · exact dg (ao (ao cj)) (by decide)
                · exact bf
            · exact dg (ao (ao cj)) (by decide)
    · exact qy
  · refine gj ?_ ?_
    · exact wz (nu (ug hq) (iu hu (au 0 (pv 0)) cg (fun _ _=>rfl)) iy (n8 _))   (jd (jo (gk d_law_against hr (by rfl) (aj (iu hu (au 0 (pv 0)) cg (fun _ _=>rfl)) bf) (d7 eq_nil))))   qy
    · refine gj ?_ ?_
      · refine wz ?_ ?_ ?_
        · exact nu (a4m hq) (iu hu (au 0 (pv 0)) cg (fun _ _=>rfl)) (fj (aj iy (aj iy bf)) (dg (ao (ao cj)) (by decide))) rfl
        · refine jd ?_
          · refine jo ?_
            · refine fj ?_ ?_
              · refine aj ?_ ?_
                · exact iu hu (au 0 (pv 0)) cg (fun _ _=>rfl)
                · refine aj ?_ ?_
                  · refine n6 ?_
                    · refine qt ud ?_ ?_ PyProof.Rows.boot_tuple ?_
                      · exact by rfl
                      · exact b_tuple
                      · refine aj ?_ ?_
                        · refine su ?_
                          · refine xg (N:=["_law_one"]) ?_ ?_ ?_ ?_ ?_ ?_ ?_ ?_
                            · exact ⟨rfl,fun j k h=>match j,h with | _+0,h=>(by cases h)⟩
                            · exact ⟨rfl,rfl,by decide +kernel,by decide +kernel⟩
                            · exact rfl
                            · exact v8 (iu hu (au 0 (pv 0)) cg (fun _ _=>rfl))
                            · exact v7
                            · exact fun C s₀ H₀ ex pn=>pgE fun B=>(uh 0 (j8 (show (["_law_one"]:List Str).Nodup by decide +kernel) rfl (Or.inl rfl)))
                            · exact fun C s₀ H₀ ex pn=>rm
                            · exact fun C s₀ H₀ ex pn=>peE fun B=>(gk d_law_plain hr (by rfl) (aj (au 0 (pv 0)) bf) (d7 eq_nil))
                        · exact bf
                  · exact bf
              · exact dg (ao (ao cj)) (by decide)
        · exact qy
      · exact jd (jo (au 0 (pv 0)))
theorem Qa (F:Fun K "_law_plain" "_law_plain" Bk f fd) (hmg:mg "_law_plain" = some (.ref f)) {nn:Nat} (d_law_against:gw P w K mg base "_law_against" (1+nn) Ia (_root_.K.j4 nn)) (d_law_plain:gw P w K mg base "_law_plain" (1+nn) Ia (_root_.K.ig nn)) (b_tuple:mg "tuple" = none):gw P w K mg base "_law_plain" (1+nn+1) Ia (_root_.K.ig (nn+1)) :=
  ⟨f,fd,Ru F d_law_against d_law_plain b_tuple,F.binds (ps:=Ia) fun _ _ _ _ _ _ us hl=>bd1 (fun _=>rfl) us hl,F.kp,hmg⟩
noncomputable abbrev zu:Stmt:=top 40
theorem Fz:jx a7q Ia (j7 zu):=⟨rfl,rfl,rfl,by decide +kernel,rfl,by decide +kernel,by decide +kernel⟩
theorem Le (F:Fun K "_law_against" "_law_against" zu f fd) {nn:Nat} (d_law_against:gw P w K mg base "_law_against" (1+nn) Ia (_root_.K.j4 nn)) (d_law_plain:gw P w K mg base "_law_plain" (1+nn) Ia (_root_.K.ig nn)) (d_law_plus:gw P w K mg base "_law_plus" 1 Xx (_root_.K.jk)) (b_int:mg "int" = none) (b_range:mg "range" = none) (b_tuple:mg "tuple" = none):zy P w K mg base CX0 (1+nn+1) f fd Ia (spF K Ia.length (_root_.K.j4 (nn+1))):=by
  have d_law_against:=d_law_against.mono (show (1+nn)≤(1+nn) by first | decide | omega)
  have d_law_plain:=d_law_plain.mono (show (1+nn)≤(1+nn) by first | decide | omega)
  have d_law_plus:=d_law_plus.mono (show 1≤(1+nn) by first | decide | omega)
  refine mj (N:=a7q) F Fz (by decide)  fun cdv A outer s H E B hr=>?_
  have hu:=wj hr
  have hq:=hr.units
  have nd:a7q.Nodup:=Fz.nd
  refine gj ?_ ?_
  · refine wz ?_ ?_ ?_
    · exact nu (ug hq) (iu hu (au 0 (pv 0)) cg (fun _ _=>rfl)) iy (n8 _)
    · refine jd ?_
      · refine jo ?_
        · refine fj ?_ ?_
          · refine aj ?_ ?_
            · exact iy
            · refine aj ?_ ?_
              · refine gk d_law_plus ?_ ?_ ?_ ?_
                · exact hr
                · exact by rfl
                · exact aj (fj (aj cg (aj (fj bf (dg cj (by decide))) bf)) (dg (ao (ao cj)) (by decide))) (aj (iu hu (au 0 (pv 0)) cg (fun _ _=>rfl)) (aj (Gi yw cg) bf))
                · exact d7 (d7 (d7 eq_nil))
              · exact bf
          · exact dg (ao (ao cj)) (by decide)
    · exact qy
  · refine gj ?_ ?_
    · refine wz ?_ ?_ ?_
      · exact nu (ug hq) (iu hu (au 0 (pv 0)) cg (fun _ _=>rfl)) iy (n8 _)
      · refine jd ?_
        · refine jo ?_
          · refine fj ?_ ?_
            · refine aj ?_ ?_
              · exact iy
              · refine aj ?_ ?_
                · refine n6 ?_
                  · refine qt ud ?_ ?_ PyProof.Rows.boot_tuple ?_
                    · exact by rfl
                    · exact b_tuple
                    · refine aj ?_ ?_
                      · refine su ?_
                        · refine xg (N:=["_law_k","_law_remark_here"]) ?_ ?_ ?_ ?_ ?_ ?_ ?_ ?_
                          · exact ⟨rfl,fun j k h=>match j,h with | 0,h=>(by cases h; exact ⟨_,rfl,rfl,⟨.inl rfl,.inr (.inl rfl),.inl rfl⟩⟩) | _+1,h=>(by cases h)⟩
                          · exact ⟨rfl,rfl,by decide +kernel,by decide +kernel⟩
                          · exact rfl
                          · exact Rf (by rfl) b_range cg (iu hu (au 0 (pv 0)) cg (fun _ _=>rfl))
                          · exact Rv
                          · exact fun C s₀ H₀ ex pn=>pgE fun B=>(uh 0 (j8 (show (["_law_k","_law_remark_here"]:List Str).Nodup by decide +kernel) rfl (Or.inl rfl)))
                          · exact fun C s₀ H₀ ex pn=>rm
                          · intro C s₀ H₀ ex pn
                            refine peE ?_
                            intro B
                            refine fj ?_ ?_
                            · refine aj ?_ ?_
                              · exact iy
                              · refine aj ?_ ?_
                                · refine gk d_law_plus ?_ ?_ ?_ ?_
                                  · exact hr
                                  · exact by rfl
                                  · exact aj (iu hu (au 1 (pv 1)) cg (fun _ _=>rfl)) (aj (fj (aj (au 0 (pv 0)) (aj (fj bf (dg cj (by decide))) bf)) (dg (ao (ao cj)) (by decide))) (aj (Gi yw cg) bf))
                                  · exact d7 (d7 (d7 eq_nil))
                                · exact aj (iu hu (au 1 (pv 1)) cg (fun _ _=>rfl)) bf
                            · exact dg (ao (ao (ao cj))) (by decide)
                      · exact bf
                · exact bf
            · exact dg (ao (ao cj)) (by decide)
      · exact qy
    · refine gj ?_ ?_
      · refine wz ?_ ?_ ?_
        · exact nu (ug hq) (iu hu (au 0 (pv 0)) cg (fun _ _=>rfl)) iy (n8 _)
        · refine gj ?_ ?_
          · exact ni 1 (kj nd rfl (Or.inl rfl) (ju qj iy (iu hu (au 0 (pv 0)) cg (fun _ _=>rfl)))) (fun _ _ _ h=>h)
          · refine jd ?_
            · refine jo ?_
              · refine fj ?_ ?_
                · refine aj ?_ ?_
                  · exact iy
                  · refine aj ?_ ?_
                    · refine fj ?_ ?_
                      · refine aj ?_ ?_
                        · refine fj ?_ ?_
                          · refine aj ?_ ?_
                            · exact iy
                            · refine aj ?_ ?_
                              · refine fj ?_ ?_
                                · exact aj (ju Ny cg (iu hu (au 0 (pv 0)) cg (fun _ _=>rfl))) (aj (fj (aj (fj (aj (au 1 (pv 1)) (aj cg bf)) (dg (ao (ao cj)) (by decide))) bf) (dg (ao cj) (by decide))) bf)
                                · exact dg (ao (ao cj)) (by decide)
                              · exact bf
                          · exact dg (ao (ao cj)) (by decide)
                        · refine aj ?_ ?_
                          · refine fj ?_ ?_
                            · refine aj ?_ ?_
                              · exact iy
                              · refine aj ?_ ?_
                                · refine fj ?_ ?_
                                  · exact aj (ju qj (iu hu (au 0 (pv 0)) cg (fun _ _=>rfl)) cg) (aj (fj (aj (fj (aj (au 1 (pv 1)) (aj (Gi yw cg) bf)) (dg (ao (ao cj)) (by decide))) bf) (dg (ao cj) (by decide))) bf)
                                  · exact dg (ao (ao cj)) (by decide)
                                · exact bf
                            · exact dg (ao (ao cj)) (by decide)
                          · exact bf
                      · exact dg (ao (ao cj)) (by decide)
                    · exact bf
                · exact dg (ao (ao cj)) (by decide)
        · exact qy
      · refine gj ?_ ?_
        · exact wz (nu (ug hq) (iu hu (au 0 (pv 0)) cg (fun _ _=>rfl)) iy (n8 _))   (jd (jo (gk d_law_plain hr (by rfl) (aj (iu hu (au 0 (pv 0)) cg (fun _ _=>rfl)) bf) (d7 eq_nil))))   qy
        · refine jd ?_
          · refine jo ?_
            · refine fj ?_ ?_
              · refine aj ?_ ?_
                · refine iu ?_ ?_ ?_ ?_
                  · exact hu
                  · exact Aa (aj iy (aj iy bf)) (dg (ao (ao cj)) (by decide))
                  · exact n6 (qt Ql (by rfl) b_int PyProof.Rows.boot_int (aj (a1f (ug hq) (iu hu (au 0 (pv 0)) cg (fun _ _=>rfl)) iy (n8 _)) bf))
                  · exact fun _ _=>rfl
                · refine aj ?_ ?_
                  · refine n6 ?_
                    · refine qt ud ?_ ?_ PyProof.Rows.boot_tuple ?_
                      · exact by rfl
                      · exact b_tuple
                      · refine aj ?_ ?_
                        · refine su ?_
                          · refine xg (N:=["_law_one"]) ?_ ?_ ?_ ?_ ?_ ?_ ?_ ?_
                            · exact ⟨rfl,fun j k h=>match j,h with | _+0,h=>(by cases h)⟩
                            · exact ⟨rfl,rfl,by decide +kernel,by decide +kernel⟩
                            · exact rfl
                            · exact v8 (iu hu (au 0 (pv 0)) cg (fun _ _=>rfl))
                            · exact v7
                            · exact fun C s₀ H₀ ex pn=>pgE fun B=>(uh 0 (j8 (show (["_law_one"]:List Str).Nodup by decide +kernel) rfl (Or.inl rfl)))
                            · exact fun C s₀ H₀ ex pn=>rm
                            · exact fun C s₀ H₀ ex pn=>peE fun B=>(gk d_law_against hr (by rfl) (aj (au 0 (pv 0)) bf) (d7 eq_nil))
                        · exact bf
                  · exact bf
              · exact dg (ao (ao cj)) (by decide)
theorem Lp (F:Fun K "_law_against" "_law_against" zu f fd) (hmg:mg "_law_against" = some (.ref f)) {nn:Nat} (d_law_against:gw P w K mg base "_law_against" (1+nn) Ia (_root_.K.j4 nn)) (d_law_plain:gw P w K mg base "_law_plain" (1+nn) Ia (_root_.K.ig nn)) (d_law_plus:gw P w K mg base "_law_plus" 1 Xx (_root_.K.jk)) (b_int:mg "int" = none) (b_range:mg "range" = none) (b_tuple:mg "tuple" = none):gw P w K mg base "_law_against" (1+nn+1) Ia (_root_.K.j4 (nn+1)) :=
  ⟨f,fd,Le F d_law_against d_law_plain d_law_plus b_int b_range b_tuple,F.binds (ps:=Ia) fun _ _ _ _ _ _ us hl=>bd1 (fun _=>rfl) us hl,F.kp,hmg⟩
theorem Gp {f_law_plain:Addr} {fd_law_plain:FuncData} {f_law_against:Addr} {fd_law_against:FuncData} (F_law_plain:Fun K "_law_plain" "_law_plain" Bk f_law_plain fd_law_plain) (h_law_plain:mg "_law_plain" = some (.ref f_law_plain)) (F_law_against:Fun K "_law_against" "_law_against" zu f_law_against fd_law_against) (h_law_against:mg "_law_against" = some (.ref f_law_against)) (d_law_plus:gw P w K mg base "_law_plus" 1 Xx _root_.K.jk) (b_int:mg "int" = none) (b_range:mg "range" = none) (b_tuple:mg "tuple" = none):∀ nn:Nat,gw P w K mg base "_law_plain" (1+nn) Ia (_root_.K.ig nn)∧gw P w K mg base "_law_against" (1+nn) Ia (_root_.K.j4 nn)
  | 0=>⟨gw.zero F_law_plain h_law_plain (F_law_plain.binds (ps:=Ia) fun _ _ _ _ _ _ us hl=>bd1 (fun _=>rfl) us hl),gw.zero F_law_against h_law_against (F_law_against.binds (ps:=Ia) fun _ _ _ _ _ _ us hl=>bd1 (fun _=>rfl) us hl)⟩
  | nn+1=>by
    have ih:=Gp F_law_plain h_law_plain F_law_against h_law_against d_law_plus b_int b_range b_tuple nn
    obtain ⟨d_law_plain,d_law_against⟩:=ih
    exact ⟨Qa F_law_plain h_law_plain d_law_against d_law_plain b_tuple,Lp F_law_against h_law_against d_law_against d_law_plain d_law_plus b_int b_range b_tuple⟩
noncomputable abbrev Ag:Stmt:=top 41
theorem Ek:jx a1x a1x (j7 Ag):=⟨rfl,rfl,rfl,by decide +kernel,rfl,by decide +kernel,by decide +kernel⟩
theorem Jy (F:Fun K "_law_at_start" "_law_at_start" Ag f fd):zy P w K mg base CX0 1 f fd a1x (spF K a1x.length _root_.K.p8):=by
  refine mj (N:=a1x) F Ek (by decide)  fun cdv A outer s H E B hr=>?_
  have hu:=wj hr
  have hq:=hr.units
  have nd:a1x.Nodup:=Ek.nd
  refine jd ?_
  · refine jo ?_
    · refine fj ?_ ?_
      · refine aj ?_ ?_
        · exact iy
        · refine aj ?_ ?_
          · refine fj ?_ ?_
            · refine aj ?_ ?_
              · refine fj ?_ ?_
                · refine aj ?_ ?_
                  · exact iy
                  · refine aj ?_ ?_
                    · exact fj (aj (Gi yw (au 1 (pv 1))) (aj (fj (aj (fj (aj (au 0 (pv 0)) (aj cg bf)) (dg (ao (ao cj)) (by decide))) bf) (dg (ao cj) (by decide))) bf)) (dg (ao (ao cj)) (by decide))
                    · exact bf
                · exact dg (ao (ao cj)) (by decide)
              · refine aj ?_ ?_
                · refine fj ?_ ?_
                  · refine aj ?_ ?_
                    · exact iy
                    · refine aj ?_ ?_
                      · exact fj (aj (au 1 (pv 1)) (aj (fj (aj (fj (aj (au 0 (pv 0)) (aj (Gi yw cg) bf)) (dg (ao (ao cj)) (by decide))) bf) (dg (ao cj) (by decide))) bf)) (dg (ao (ao cj)) (by decide))
                      · exact bf
                  · exact dg (ao (ao cj)) (by decide)
                · exact bf
            · exact dg (ao (ao cj)) (by decide)
          · exact bf
      · exact dg (ao (ao cj)) (by decide)
theorem Jf (F:Fun K "_law_at_start" "_law_at_start" Ag f fd) (hmg:mg "_law_at_start" = some (.ref f)):gw P w K mg base "_law_at_start" 1 a1x _root_.K.p8 :=
  ⟨f,fd,Jy F,F.binds (ps:=a1x) fun _ _ _ _ _ _ us hl=>bd2 (fun _ _=>rfl) us hl,F.kp,hmg⟩
noncomputable abbrev Dt:Stmt:=top 42
theorem J3:jx ll9 a5y (j7 Dt):=⟨rfl,rfl,rfl,by decide +kernel,rfl,by decide +kernel,by decide +kernel⟩
theorem Rj (F:Fun K "_law_start" "_law_start" Dt f fd) (d_law_against:gw P w K mg base "_law_against" 41 Ia (_root_.K.j4 40)) (d_law_at_start:gw P w K mg base "_law_at_start" 1 a1x (_root_.K.p8)):zy P w K mg base CX0 42 f fd a5y (spF K a5y.length _root_.K.vg):=by
  have d_law_against:=d_law_against.mono (by decide:41≤41)
  have d_law_at_start:=d_law_at_start.mono (by decide:1≤41)
  refine mj (N:=ll9) F J3 (by decide)  fun cdv A outer s H E B hr=>?_
  have hu:=wj hr
  have hq:=hr.units
  have nd:ll9.Nodup:=J3.nd
  refine gj ?_ ?_
  · exact ni 3 (Ig (N:=["_law_box"]) ⟨rfl,rfl,by decide +kernel,by decide +kernel⟩ rfl (v8 (iu hu (au 0 (pv 0)) cg (fun _ _=>rfl))) (fun C s₀ H₀ ex pn=>pgE fun B=>(uh 0 (j8 (show (["_law_box"]:List Str).Nodup by decide +kernel) rfl (Or.inl rfl)))) (fun C s₀ H₀ ex pn=>rm) (fun C s₀ H₀ ex pn=>peE fun B=>(gk d_law_at_start hr (by rfl) (aj (iu hu (au 0 (pv 0)) cg (fun _ _=>rfl)) (aj (iu hu (au 0 (pv 0)) cg (fun _ _=>rfl)) bf)) (d7 (d7 eq_nil)))) (j8 nd rfl (Or.inl rfl)) rfl) (fun σ H Q h=>Jq ⟨rfl,fun j k h=>match j,h with | _+0,h=>(by cases h)⟩ v7 (Vw h))
  · refine gj ?_ ?_
    · refine @ni _ _ _ _ (tOf _ _ _) _ ?_ (fun _ _ _ h=>h)
      · refine kj ?_ ?_ ?_ ?_
        · exact nd
        · exact rfl
        · exact Or.inl rfl
        · refine ju ?_ ?_ ?_
          · exact qj
          · exact au 3 (pv 3)
          · refine su ?_
            · refine xg (N:=abd) ?_ ?_ ?_ ?_ ?_ ?_ ?_ ?_
              · exact ⟨rfl,fun j k h=>match j,h with | _+0,h=>(by cases h)⟩
              · exact ⟨rfl,rfl,by decide +kernel,by decide +kernel⟩
              · exact rfl
              · exact v8 (iu hu (au 0 (pv 0)) cg (fun _ _=>rfl))
              · exact v7
              · exact fun C s₀ H₀ ex pn=>pgE fun B=>(Ai (is:=[0,1]) (Al rfl (jt (j8 (show abd.Nodup by decide +kernel) rfl (Or.inl rfl)) (jt (j8 (show abd.Nodup by decide +kernel) rfl (Or.inl rfl)) yd))))
              · exact fun C s₀ H₀ ex pn=>rm
              · exact fun C s₀ H₀ ex pn=>peE fun B=>(gk d_law_at_start hr (by rfl) (aj (ju qj iy (au 0 (pv 0))) (aj cg bf)) (d7 (d7 eq_nil)))
    · refine jd ?_
      · refine jo ?_
        · refine ju ?_ ?_ ?_
          · exact qj
          · exact au 3 (pv 3)
          · exact Aa (aj (gk d_law_against hr (by rfl) (aj (zj hu (au 1 (pv 1)) (fj (aj (au 2 (pv 2)) (aj cg bf)) (dg (ao (ao cj)) (by decide))) (fun _ _=>rfl)) bf) (d7 eq_nil)) bf) (dg (ao cj) (by decide))
theorem Ra (F:Fun K "_law_start" "_law_start" Dt f fd) (hmg:mg "_law_start" = some (.ref f)) (d_law_against:gw P w K mg base "_law_against" 41 Ia (_root_.K.j4 40)) (d_law_at_start:gw P w K mg base "_law_at_start" 1 a1x (_root_.K.p8)):gw P w K mg base "_law_start" 42 a5y _root_.K.vg :=
  ⟨f,fd,Rj F d_law_against d_law_at_start,F.binds (ps:=a5y) fun _ _ _ _ _ _ us hl=>bd3 (fun _ _ _=>rfl) us hl,F.kp,hmg⟩
noncomputable abbrev Hj:Stmt:=top 43
theorem Mg:jx ll2 a7v (j7 Hj):=⟨rfl,rfl,rfl,by decide +kernel,rfl,by decide +kernel,by decide +kernel⟩
theorem Xu (F:Fun K "_law_due" "_law_due" Hj f fd) (d_law_against:gw P w K mg base "_law_against" 41 Ia (_root_.K.j4 40)) (d_law_behind:gw P w K mg base "_law_behind" 42 Vu (_root_.K.jg 40)) (d_law_plain:gw P w K mg base "_law_plain" 41 Ia (_root_.K.ig 40)) (d_law_plus:gw P w K mg base "_law_plus" 1 Xx (_root_.K.jk)) (d_law_start:gw P w K mg base "_law_start" 42 a5y (_root_.K.vg)):zy P w K mg base CX0 43 f fd a7v (spF K a7v.length _root_.K.uf):=by
  have d_law_against:=d_law_against.mono (by decide:41≤42)
  have d_law_behind:=d_law_behind.mono (by decide:42≤42)
  have d_law_plain:=d_law_plain.mono (by decide:41≤42)
  have d_law_plus:=d_law_plus.mono (by decide:1≤42)
  have d_law_start:=d_law_start.mono (by decide:42≤42)
  refine mj (N:=ll2) F Mg (by decide)  fun cdv A outer s H E B hr=>?_
  have hu:=wj hr
  have hq:=hr.units
  have nd:ll2.Nodup:=Mg.nd
  refine gj ?_ ?_
  · refine wz ?_ ?_ ?_
    · exact nu (ug hq) (iu hu (au 2 (pv 2)) cg (fun _ _=>rfl)) iy (n8 _)
    · exact jd (jo (gk d_law_start hr (by rfl) (aj (au 0 (pv 0)) (aj (au 1 (pv 1)) (aj (iu hu (au 2 (pv 2)) cg (fun _ _=>rfl)) bf))) (d7 (d7 (d7 eq_nil)))))
    · exact qy
  · refine gj ?_ ?_
    · exact ni 3 (kj nd rfl (Or.inl rfl) (iu hu (iu hu (au 0 (pv 0)) cg (fun _ _=>rfl)) (iu hu (au 2 (pv 2)) cg (fun _ _=>rfl)) (fun _ _=>rfl))) (fun _ _ _ h=>h)
    · refine gj ?_ ?_
      · refine @Am _ _ _ _ (fOf _ _ _) _ ?_ (fun _ _ _ h=>h)
        · refine kj ?_ ?_ ?_ ?_
          · exact nd
          · exact rfl
          · exact Or.inl rfl
          · refine J1 ?_ ?_
            · refine aj ?_ ?_
              · exact gk d_law_plain hr (by rfl) (aj (fj (aj iy (aj (iu hu (au 3 (pv 3)) cg (fun _ _=>rfl)) (aj (iu hu (au 3 (pv 3)) cg (fun _ _=>rfl)) bf))) (dg (ao (ao (ao cj))) (by decide))) bf) (d7 eq_nil)
              · exact bf
            · exact dg (ao cj) (by decide)
      · refine gj ?_ ?_
        · refine @Am _ _ _ _ (fOf _ _ _) _ ?_ (fun _ _ _ h=>h)
          · refine kj ?_ ?_ ?_ ?_
            · exact nd
            · exact rfl
            · exact Or.inl rfl
            · refine J1 ?_ ?_
              · refine aj ?_ ?_
                · refine gk d_law_plain ?_ ?_ ?_ ?_
                  · exact hr
                  · exact by rfl
                  · exact aj (zj hu (au 1 (pv 1)) (fj (aj (iu hu (au 3 (pv 3)) cg (fun _ _=>rfl)) (aj (iu hu (au 3 (pv 3)) cg (fun _ _=>rfl)) bf)) (dg (ao (ao cj)) (by decide))) (fun _ _=>rfl)) bf
                  · exact d7 eq_nil
                · exact bf
              · exact dg (ao cj) (by decide)
        · refine gj ?_ ?_
          · exact ni 6 (kj nd rfl (Or.inl rfl) (zj hu (au 1 (pv 1)) (fj (aj (iu hu (au 3 (pv 3)) cg (fun _ _=>rfl)) (aj (iu hu (au 3 (pv 3)) cg (fun _ _=>rfl)) bf)) (dg (ao (ao cj)) (by decide))) (fun _ _=>rfl))) (fun _ _ _ h=>h)
          · refine gj ?_ ?_
            · refine wz ?_ ?_ ?_
              · exact nu (ug hq) (iu hu (au 2 (pv 2)) cg (fun _ _=>rfl)) iy (n8 _)
              · refine gj ?_ ?_
                · exact ni 6 (kj nd rfl (Or.inl rfl) (zj hu (au 1 (pv 1)) (fj (aj (iu hu (au 2 (pv 2)) cg (fun _ _=>rfl)) (aj (iu hu (au 2 (pv 2)) cg (fun _ _=>rfl)) bf)) (dg (ao (ao cj)) (by decide))) (fun _ _=>rfl))) (fun _ _ _ h=>h)
                · refine gj ?_ ?_
                  · refine yq _ ?_
                    · refine wk ?_
                      · refine Eo PySem.F.plainAttrs_list PySem.F.slot_list_append PySem.F.type_list_append xu ?_ ?_
                        · exact pv 4
                        · refine qw ?_ ?_
                          · exact gk d_law_plain hr (by rfl) (aj (fj (aj iy (aj (iu hu (au 2 (pv 2)) cg (fun _ _=>rfl)) (aj (iu hu (au 2 (pv 2)) cg (fun _ _=>rfl)) bf))) (dg (ao (ao (ao cj))) (by decide))) bf) (d7 eq_nil)
                          · exact w6
                  · exact jd (yq 5 (wk (Eo PySem.F.plainAttrs_list PySem.F.slot_list_append PySem.F.type_list_append xu (pv 5) (qw (gk d_law_plain hr (by rfl) (aj (au 6 (pv 6)) bf) (d7 eq_nil)) w6))))
              · exact qy
            · refine gj ?_ ?_
              · refine @Am _ _ _ _ (fOf _ _ _) _ ?_ (fun _ _ _ h=>h)
                · exact kj nd rfl (Or.inl rfl) (a75 (su (Qi 4 (pv 4) (au 5 (pv 5)))) (Aa (aj (gk d_law_plain hr (by rfl) (aj (iu hu (au 3 (pv 3)) cg (fun _ _=>rfl)) bf) (d7 eq_nil)) bf) (dg (ao cj) (by decide))))
              · refine gj ?_ ?_
                · refine Bl ?_ ?_ ?_ ?_ ?_ ?_
                  · exact PassesOwn.never
                  · exact rfl
                  · exact v8 (iu hu (au 3 (pv 3)) cg (fun _ _=>rfl))
                  · exact Ai (is:=[8,9]) (Al rfl (jt (j8 nd rfl (Or.inr rfl)) (jt (j8 nd rfl (Or.inl rfl)) yd)))
                  · refine gj ?_ ?_
                    · refine a72 ?_
                      · refine Zo ?_ ?_
                        · refine iu ?_ ?_ ?_ ?_
                          · exact hu
                          · refine su ?_
                            · refine xg (N:=["_law_row","_law_box"]) ?_ ?_ ?_ ?_ ?_ ?_ ?_ ?_
                              · exact ⟨rfl,fun j k h=>match j,h with | 0,h=>(by cases h; exact ⟨_,rfl,rfl,⟨.inl rfl,.inr (.inl rfl),.inl rfl⟩⟩) | _+1,h=>(by cases h)⟩
                              · exact ⟨rfl,rfl,by decide +kernel,by decide +kernel⟩
                              · exact rfl
                              · exact v8 (iu hu (au 0 (pv 0)) cg (fun _ _=>rfl))
                              · exact v7
                              · exact fun C s₀ H₀ ex pn=>pgE fun B=>(uh 0 (j8 (show (["_law_row","_law_box"]:List Str).Nodup by decide +kernel) rfl (Or.inl rfl)))
                              · exact fun C s₀ H₀ ex pn=>(O2 fun B=>(nu (ug hq) (iu hu (au 0 (pv 0)) cg (fun _ _=>rfl)) (au 1 (pv 1)) (n8 _)))
                              · exact fun C s₀ H₀ ex pn=>peE fun B=>(fj (aj (iu hu (au 0 (pv 0)) cg (fun _ _=>rfl)) (aj (iu hu (au 0 (pv 0)) cg (fun _ _=>rfl)) bf)) (dg (ao (ao cj)) (by decide)))
                          · exact cg
                          · exact fun _ _=>rfl
                        · exact Ai (is:=[10,11]) (Al rfl (jt (j8 nd rfl (Or.inl rfl)) (jt (j8 nd rfl (Or.inl rfl)) yd)))
                    · refine jd ?_
                      · refine yq _ ?_
                        · refine wk ?_
                          · refine Eo PySem.F.plainAttrs_list PySem.F.slot_list_append PySem.F.type_list_append xu ?_ ?_
                            · exact pv 7
                            · refine qw ?_ ?_
                              · refine fj ?_ ?_
                                · refine aj ?_ ?_
                                  · exact iy
                                  · refine aj ?_ ?_
                                    · refine fj ?_ ?_
                                      · refine aj ?_ ?_
                                        · refine fj ?_ ?_
                                          · refine aj ?_ ?_
                                            · exact iy
                                            · refine aj ?_ ?_
                                              · exact gk d_law_plus hr (by rfl) (aj (fj (aj (au 10 (pv 10)) (aj (fj bf (dg cj (by decide))) bf)) (dg (ao (ao cj)) (by decide))) (aj (au 9 (pv 9)) (aj (Gi yw cg) bf))) (d7 (d7 (d7 eq_nil)))
                                              · exact bf
                                          · exact dg (ao (ao cj)) (by decide)
                                        · refine aj ?_ ?_
                                          · refine fj ?_ ?_
                                            · refine aj ?_ ?_
                                              · exact iy
                                              · refine aj ?_ ?_
                                                · exact gk d_law_plus hr (by rfl) (aj (au 9 (pv 9)) (aj (fj (aj (au 11 (pv 11)) (aj (fj bf (dg cj (by decide))) bf)) (dg (ao (ao cj)) (by decide))) (aj (Gi yw cg) bf))) (d7 (d7 (d7 eq_nil)))
                                                · exact bf
                                            · exact dg (ao (ao cj)) (by decide)
                                          · exact bf
                                      · exact dg (ao (ao cj)) (by decide)
                                    · exact bf
                                · exact dg (ao (ao cj)) (by decide)
                              · exact w6
                  · exact v7
                · refine jd ?_
                  · refine jo ?_
                    · exact su (Qi 7 (pv 7) (Aa (aj (gk d_law_against hr (by rfl) (aj (gk d_law_behind hr (by rfl) (aj (au 6 (pv 6)) (aj (au 3 (pv 3)) bf)) (d7 (d7 eq_nil))) bf) (d7 eq_nil)) bf) (dg (ao cj) (by decide))))
theorem Xn (F:Fun K "_law_due" "_law_due" Hj f fd) (hmg:mg "_law_due" = some (.ref f)) (d_law_against:gw P w K mg base "_law_against" 41 Ia (_root_.K.j4 40)) (d_law_behind:gw P w K mg base "_law_behind" 42 Vu (_root_.K.jg 40)) (d_law_plain:gw P w K mg base "_law_plain" 41 Ia (_root_.K.ig 40)) (d_law_plus:gw P w K mg base "_law_plus" 1 Xx (_root_.K.jk)) (d_law_start:gw P w K mg base "_law_start" 42 a5y (_root_.K.vg)):gw P w K mg base "_law_due" 43 a7v _root_.K.uf :=
  ⟨f,fd,Xu F d_law_against d_law_behind d_law_plain d_law_plus d_law_start,F.binds (ps:=a7v) fun _ _ _ _ _ _ us hl=>bd3 (fun _ _ _=>rfl) us hl,F.kp,hmg⟩
noncomputable abbrev Nm:Stmt:=top 44
theorem a4z:jx ll3 aau (j7 Nm):=⟨rfl,rfl,rfl,by decide +kernel,rfl,by decide +kernel,by decide +kernel⟩
theorem a8o (F:Fun K "law" "law" Nm f fd) (d_law_cell_at:gw P w K mg base "_law_cell_at" 1 Wo (_root_.K.je)) (d_law_digits:gw P w K mg base "_law_digits" 2 a5c (_root_.K.m8)) (d_law_due:gw P w K mg base "_law_due" 43 a7v (_root_.K.uf)) (d_law_program:gw P w K mg base "_law_program" 4 a7u (_root_.K.v9)) (d_law_remark:gw P w K mg base "_law_remark" 3 Ul (_root_.K.mq)) (d_duties_of:gw P w K mg base "duties_of" 2 a7o (_root_.K.xr)) (d_duty_forms:Bg P w K mg base "duty_forms" 46 a7p (_root_.K.lg)) (b_isinstance:mg "isinstance" = none) (b_list:mg "list" = none) (b_range:mg "range" = none):zy P w K mg base CX0 47 f fd aau (spF K aau.length _root_.K.Xq):=by
  have d_law_cell_at:=d_law_cell_at.mono (by decide:1≤46)
  have d_law_digits:=d_law_digits.mono (by decide:2≤46)
  have d_law_due:=d_law_due.mono (by decide:43≤46)
  have d_law_program:=d_law_program.mono (by decide:4≤46)
  have d_law_remark:=d_law_remark.mono (by decide:3≤46)
  have d_duties_of:=d_duties_of.mono (by decide:2≤46)
  have d_duty_forms:=d_duty_forms.mono (by decide:46≤46)
  refine mj (N:=ll3) F a4z (by decide)  fun cdv A outer s H E B hr=>?_
  have hu:=wj hr
  have hq:=hr.units
  have nd:ll3.Nodup:=a4z.nd
  refine gj ?_ ?_
  · exact ni 1 (kj nd rfl (Or.inl rfl) (a1f (ug hq) (ju u9 (gk d_law_cell_at hr (by rfl) (aj (au 0 (pv 0)) (aj cg bf)) (d7 (d7 eq_nil))) cg) cg (n8 _))) (fun _ _ _ h=>h)
  · refine gj ?_ ?_
    · exact ni 2 (kj nd rfl (Or.inl rfl) (gk d_law_program hr (by rfl) (aj (au 0 (pv 0)) (aj (au 1 (pv 1)) bf)) (d7 (d7 eq_nil)))) (fun _ _ _ h=>h)
    · refine gj ?_ ?_
      · exact ni 3 (kj nd rfl (Or.inl rfl) a0k) (fun _ _ _ h=>h)
      · refine gj ?_ ?_
        · exact ni 4 (kj nd rfl (Or.inl rfl) cg) (fun _ _ _ h=>h)
        · refine gj ?_ ?_
          · refine Bl ?_ ?_ ?_ ?_ ?_ ?_
            · exact PassesOwn.never
            · exact rfl
            · exact v8 (iu hu (au 2 (pv 2)) cg (fun _ _=>rfl))
            · exact Ai (is:=[5,6]) (Al rfl (jt (j8 nd rfl (Or.inl rfl)) (jt (j8 nd rfl (Or.inl rfl)) yd)))
            · refine jd ?_
              · refine Bl ?_ ?_ ?_ ?_ ?_ ?_
                · exact PassesOwn.never
                · exact rfl
                · exact Dj (by rfl) b_range (au 6 (pv 6))
                · exact uh 7 (j8 nd rfl (Or.inl rfl))
                · refine gj ?_ ?_
                  · refine a1s ?_ ?_ ?_ ?_ ?_ ?_
                    · exact hu
                    · exact au 3 (pv 3)
                    · exact aj (au 5 (pv 5)) (aj (au 7 (pv 7)) bf)
                    · exact dg (ao (ao cj)) (by decide)
                    · refine gk d_law_remark ?_ ?_ ?_ ?_
                      · exact hr
                      · exact by rfl
                      · refine aj ?_ ?_
                        · exact gk d_law_digits hr (by rfl) (aj (au 0 (pv 0)) (aj (au 4 (pv 4)) (aj (au 1 (pv 1)) bf))) (d7 (d7 (d7 eq_nil)))
                        · exact aj (iu hu (au 2 (pv 2)) cg (fun _ _=>rfl)) (aj (iu hu (au 2 (pv 2)) cg (fun _ _=>rfl)) bf)
                      · exact d7 (d7 (d7 eq_nil))
                    · exact rfl
                  · exact jd (ni 4 (kj nd rfl (Or.inl rfl) (ju qj (au 4 (pv 4)) cg)) (fun _ _ _ h=>h))
                · exact Dd
            · exact v7
          · refine gj ?_ ?_
            · refine Bl ?_ ?_ ?_ ?_ ?_ ?_
              · exact PassesOwn.never
              · exact rfl
              · exact v8 (gk d_duties_of hr (by rfl) (aj (au 2 (pv 2)) bf) (d7 eq_nil))
              · exact uh 8 (j8 nd rfl (Or.inl rfl))
              · refine gj ?_ ?_
                · exact Am 9 (kj nd rfl (Or.inl rfl) (Fg d_duty_forms hr (by rfl) (aj (au 2 (pv 2)) (aj (au 3 (pv 3)) (aj (au 8 (pv 8)) bf))) (d7 (d7 (d7 eq_nil))))) (fun _ _ _ h=>h)
                · refine gj ?_ ?_
                  · refine wz ?_ ?_ ?_
                    · refine PW.pt ?_
                      · exact abm (a9l (a5e (a4e 9 (by rfl) b_isinstance (by rfl) b_list (pv 9)))) (a8m (a2i 9 (Ji hq) (pv 9) (gk d_law_due hr (by rfl) (aj (au 2 (pv 2)) (aj (au 3 (pv 3)) (aj (au 8 (pv 8)) bf))) (d7 (d7 (d7 eq_nil)))) (n8 _)))
                    · exact jd (jo a6s)
                    · exact qy
                  · refine gj ?_ ?_
                    · exact Wt 9 (wk (a89 PySem.F.plainAttrs_list PySem.F.slot_list_reverse PySem.F.type_list_reverse X3 (pv 9)))
                    · refine jd ?_
                      · refine wz ?_ ?_ ?_
                        · refine nu (Ji hq) ?_ ?_ ?_
                          · exact su (Fg d_duty_forms hr (by rfl) (aj (au 2 (pv 2)) (aj (au 3 (pv 3)) (aj (au 8 (pv 8)) bf))) (d7 (d7 (d7 eq_nil))))
                          · exact gk d_law_due hr (by rfl) (aj (au 2 (pv 2)) (aj (au 3 (pv 3)) (aj (au 8 (pv 8)) bf))) (d7 (d7 (d7 eq_nil)))
                          · exact n8 _
                        · exact jd (jo a6s)
                        · exact qy
              · exact v7
            · exact jd (jo a6s)
end
end D
end
noncomputable section
set_option linter.all false
set_option maxRecDepth 100000
set_option autoImplicit false
namespace C
open PySem
theorem Rx {α:Type} {h f:α→T} {g:G} {c:M Bool} {e:M T} {nv:Nat} {cap:List Slot} {sto:List SO} (hcap:cap.map qx=cap) :
    ∀ (l:List α) (acc:List T) (pre:List Slot),pre.length=nv→acc.length+l.length≤lim →
      (∀ a∈l,∀ pre:List Slot,pre.length=nv→∃ pre',pre'.length=nv∧g (h a) ⟨pre++cap,sto⟩=some ⟨pre'++cap,sto⟩∧c ⟨pre'++cap,sto⟩=some (true,⟨pre'++cap,sto⟩)∧e ⟨pre'++cap,sto⟩=some (f a,⟨pre'++cap,sto⟩)) →
      ∃ s',Fq g c e (l.map h) ⟨pre++cap,sto⟩ acc=some (acc++l.map f,s')∧s'.sto=sto
  | [],acc,pre,hp,hl,H=>⟨⟨pre++cap,sto⟩,by simp [Fq],rfl⟩
  | a::l,acc,pre,hp,hl,H=>by
    obtain ⟨pre',p1,p2,p3,p4⟩:=H a List.mem_cons_self pre hp
    have hlen:acc.length<lim:=by simp at hl ⊢; omega
    obtain ⟨s',q1,q2⟩:=Rx hcap l (acc++[f a]) (pre'.map qx) (by simpa using p1) (by simp at hl ⊢; omega) fun b hb=>H b (List.mem_cons_of_mem _ hb)
    refine ⟨s',?_,q2⟩
    rw [List.map_cons,Fq,p2]
    dsimp only
    rw [p3]
    dsimp only
    rw [p4]
    dsimp only
    rw [if_pos hlen,ur]
    dsimp only
    rw [List.map_append,hcap,q1]
    simp
theorem uw {α:Type} (h f:α→T) (l:List α) {g:G} {c:M Bool} {e:M T} {nv:Nat} {ci:List Nat} {it:M (List T)} {s s1:Sta} (env:List Slot) (cap:List Slot) (hit:it s=some (l.map h,s1)) (henv:d8 ci s1.env=env) (hci:ci.map (fun i=>(env[i]?).getD none)=cap) (hcap:cap.map qx=cap) (hl:l.length≤lim)
    (H:∀ a∈l,∀ pre:List Slot,pre.length=nv→∃ pre',pre'.length=nv∧g (h a) ⟨pre++cap,s1.sto⟩=some ⟨pre'++cap,s1.sto⟩∧c ⟨pre'++cap,s1.sto⟩=some (true,⟨pre'++cap,s1.sto⟩)∧e ⟨pre'++cap,s1.sto⟩=some (f a,⟨pre'++cap,s1.sto⟩)) :
    p7 nv ci g it c e s=some (.lst (l.map f),⟨env,s1.sto⟩):=by
  obtain ⟨s',q1,q2⟩:=Rx hcap l [] (List.replicate nv none) (by simp) (by simpa using hl) H
  unfold p7
  rw [hit]
  dsimp only
  rw [henv,hci,q1]
  dsimp only
  rw [q2]; rfl
noncomputable def okS (x:Str):Prop:=PyData.canLay0 (.str x)=true
theorem K1 {x:Str} (h:okS x):dat (.str x)=some (.str x):=by
  unfold okS at h
  simp [dat,h]
theorem Zr {a b:Str} (ha:okS a) (hb:okS b):neO (.str a) (.str b)=some (.bl (!(a==b))):=by
  simp [neO,eqT,eqD,K1 ha,K1 hb,PyData.depth,PyData.eqv]
noncomputable def Pl (n:Nat) (t:T):Prop:=∃ d,dat t=some d∧d.depth≤n
theorem Nh (n:Nat) (i:Int):Pl n (.int i):=⟨.int i,by simp [dat],by simp [PyData.depth]⟩
theorem a1a (n:Nat) {x:Str} (h:okS x):Pl n (.str x):=⟨.str x,K1 h,by simp [PyData.depth]⟩
theorem pls {n:Nat}:∀ ts:List T,(∀ t∈ts,Pl n t)→∃ ds,Ld ts=some ds∧PyData.depthAll ds≤n
  | [],_=>⟨[],by simp [Ld],by simp [PyData.depthAll]⟩
  | t::r,h=>by
    obtain ⟨d,d1,d2⟩:=h t List.mem_cons_self
    obtain ⟨ds,e1,e2⟩:=pls r fun x hx=>h x (List.mem_cons_of_mem _ hx)
    exact ⟨d::ds,by simp [Ld,d1,e1],by simp only [PyData.depthAll]; omega⟩
theorem Gv {n:Nat} {ts:List T} (h:∀ t∈ts,Pl n t):Pl (n+1) (.tup ts):=by
  obtain ⟨ds,e1,e2⟩:=pls ts h
  exact ⟨.tuple ds,by simp [dat,e1],by simp only [PyData.depth]; omega⟩
theorem a4v {n:Nat} {ts:List T} (h:∀ t∈ts,Pl n t):Pl (n+1) (.lst ts):=by
  obtain ⟨ds,e1,e2⟩:=pls ts h
  exact ⟨.list ds,by simp [dat,e1],by simp only [PyData.depth]; omega⟩
mutual
theorem W5:∀ d:PyData,d.canLay0=true→PyData.eqv d d=true
  | .none,_=>by simp [PyData.eqv]
  | .bool b,_=>by simp [PyData.eqv] -- here
  | .int i,_=>by simp [PyData.eqv] -- here
  | .str x,_=>by simp [PyData.eqv] -- here
  | .list xs,h=>by simp only [PyData.eqv]; exact Ju xs (by simpa [PyData.canLay0] using h)
  | .tuple xs,h=>by simp only [PyData.eqv]; exact Ju xs (by simpa [PyData.canLay0] using h)
  | .dict _,h=>by simp [PyData.canLay0] at h
theorem Ju:∀ xs:List PyData,PyData.canLayAll0 xs=true→PyData.eqvAll xs xs=true
  | [],_=>by simp [PyData.eqvAll]
  | x::xs,h=>by
    simp only [PyData.canLayAll0,Bool.and_eq_true] at h
    simp only [PyData.eqvAll,W5 x h.1,Ju xs h.2,Bool.and_self]
end
end C
namespace C
open PySem
theorem a0n {g:G} {b:S} (P:List T→Sta→Prop) (H:∀ t r s,P (t::r) s→∃ s1 s2,g t s=some s1∧b s1=some (.next,s2)∧P r s2):∀ (ts:List T) (s:Sta),P ts s→∃ s',forL g b ts s=some (.next,s')∧P [] s'
  | [],s,h=>⟨s,by simp [forL],h⟩
  | t::r,s,h=>by
    obtain ⟨s1,s2,h1,h2,h3⟩:=H t r s h
    obtain ⟨s',e,p⟩:=a0n P H r s2 h3
    refine ⟨s',?_,p⟩
    rw [forL]; dsimp only; rw [h1]; dsimp only; rw [h2]; dsimp only; exact e
theorem a0t {g:G} {b:S} {ts:List T} {s:Sta} {r:Option (Flow × Sta)} (hF:forL g b ts s=r) (P:List T→Sta→Prop) (hP:P ts s) (H:∀ t r s,P (t::r) s→∃ s1 s2,g t s=some s1∧b s1=some (.next,s2)∧P r s2):∃ s',r=some (.next,s')∧P [] s':=by
  obtain ⟨s',e,p⟩:=a0n P H ts s hP
  exact ⟨s',hF.symm.trans e,p⟩
end C
namespace C
open PySem
theorem Kc {α:Type} (h:α→T) (l:List α) {i:Int} (h0:0≤i) (h1:i<l.length):∃ a∈l,bx (.lst (l.map h)) (.int i)=some (h a):=by
  have hi:i.toNat<l.length:=by omega
  refine ⟨l[i.toNat],List.getElem_mem hi,?_⟩
  simp [bx,ixI,h0,h1,List.getElem?_eq_getElem hi]
theorem O1 {α:Type} (h:α→T) (l:List α) {k:Nat} (hk:k<l.length):bx (.lst (l.map h)) (.int (k:Int))=some (h l[k]):=by
  have h1:(k:Int)<(l.length:Int):=by omega
  simp [bx,ixI,h1,List.getElem?_eq_getElem hk]
end C
end
noncomputable section
set_option linter.all false
set_option maxRecDepth 100000
set_option autoImplicit false
namespace C
open PySem
theorem Qu {α σ:Type} {g:G} {b:S} (h:α→T) (R:σ→Sta) (step:σ→α→σ) (P:List α→σ→Prop)
    (H:∀ a r x,P (a::r) x→(∃ s1,g (h a) (R x)=some s1∧b s1=some (.next,R (step x a)))∧P r (step x a)) :
    ∀ (l:List α) (x:σ),P l x→forL g b (l.map h) (R x)=some (.next,R (l.foldl step x))∧P [] (l.foldl step x)
  | [],x,p=>⟨by simp [forL],p⟩
  | a::l,x,p=>by
    obtain ⟨⟨s1,h1,h2⟩,h3⟩:=H a l x p
    obtain ⟨e,q⟩:=Qu h R step P H l (step x a) h3
    refine ⟨?_,q⟩
    rw [List.map_cons,forL]; dsimp only; rw [h1]; dsimp only; rw [h2]; dsimp only; exact e
theorem W2 {α σ:Type} {g:G} {b:S} {ts:List T} {s:Sta} {r:Option (Flow × Sta)} (hF:forL g b ts s=r) (h:α→T) (l:List α) (R:σ→Sta) (x0:σ) (step:σ→α→σ) (P:List α→σ→Prop) (ht:ts=l.map h) (hs:s=R x0) (hP:P l x0)
    (H:∀ a r x,P (a::r) x→(∃ s1,g (h a) (R x)=some s1∧b s1=some (.next,R (step x a)))∧P r (step x a)) :
    r=some (.next,R (l.foldl step x0))∧P [] (l.foldl step x0):=by
  subst ht hs
  obtain ⟨e,p⟩:=Qu h R step P H l x0 hP
  exact ⟨hF.symm.trans e,p⟩
theorem Ea {α:Type} {h f:α→T} {q:α→Bool} {g:G} {c:M Bool} {e:M T} {nv:Nat} {cap:List Slot} {sto:List SO} (hcap:cap.map qx=cap) :
    ∀ (l:List α) (acc:List T) (pre:List Slot),pre.length=nv→acc.length+l.length≤lim →
      (∀ a∈l,∀ pre:List Slot,pre.length=nv→∃ pre',pre'.length=nv∧g (h a) ⟨pre++cap,sto⟩=some ⟨pre'++cap,sto⟩∧c ⟨pre'++cap,sto⟩=some (q a,⟨pre'++cap,sto⟩)∧(q a=true→e ⟨pre'++cap,sto⟩=some (f a,⟨pre'++cap,sto⟩))) →
      ∃ s',Fq g c e (l.map h) ⟨pre++cap,sto⟩ acc=some (acc++(l.filter q).map f,s')∧s'.sto=sto
  | [],acc,pre,hp,hl,H=>⟨⟨pre++cap,sto⟩,by simp [Fq],rfl⟩
  | a::l,acc,pre,hp,hl,H=>by
    obtain ⟨pre',p1,p2,p3,p4⟩:=H a List.mem_cons_self pre hp
    have hlen:acc.length<lim:=by simp at hl ⊢; omega
    rw [List.map_cons,Fq,p2]
    dsimp only
    rw [p3]
    cases hq:q a with
    | true =>
      obtain ⟨s',q1,q2⟩:=Ea hcap l (acc++[f a]) (pre'.map qx) (by simpa using p1) (by simp at hl ⊢; omega) fun b hb=>H b (List.mem_cons_of_mem _ hb)
      refine ⟨s',?_,q2⟩
      dsimp only
      rw [p4 hq]
      dsimp only
      rw [if_pos hlen,ur]
      dsimp only
      rw [List.map_append,hcap,q1]
      simp [hq]
    | false =>
      obtain ⟨s',q1,q2⟩:=Ea hcap l acc (pre'.map qx) (by simpa using p1) (by simp at hl ⊢; omega) fun b hb=>H b (List.mem_cons_of_mem _ hb)
      refine ⟨s',?_,q2⟩
      dsimp only
      rw [ur]
      dsimp only
      rw [List.map_append,hcap,q1]
      simp [hq]
theorem Jv {α:Type} {g:G} {c:M Bool} {e:M T} {nv:Nat} {ci:List Nat} {it:M (List T)} {s:Sta} {r:Option (T × Sta)} (hF:p7 nv ci g it c e s=r) (h f:α→T) (q:α→Bool) (l:List α) (s1:Sta) (env cap:List Slot) (hit:it s=some (l.map h,s1)) (henv:d8 ci s1.env=env) (hci:ci.map (fun i=>(env[i]?).getD none)=cap) (hcap:cap.map qx=cap) (hl:l.length≤lim)
    (H:∀ a∈l,∀ pre:List Slot,pre.length=nv→∃ pre',pre'.length=nv∧g (h a) ⟨pre++cap,s1.sto⟩=some ⟨pre'++cap,s1.sto⟩∧c ⟨pre'++cap,s1.sto⟩=some (q a,⟨pre'++cap,s1.sto⟩)∧(q a=true→e ⟨pre'++cap,s1.sto⟩=some (f a,⟨pre'++cap,s1.sto⟩))) :
    r=some (.lst ((l.filter q).map f),⟨env,s1.sto⟩):=by
  obtain ⟨s',q1,q2⟩:=Ea hcap l [] (List.replicate nv none) (by simp) (by simpa using hl) H
  rw [← hF]
  unfold p7
  rw [hit]
  dsimp only
  rw [henv,hci,q1]
  dsimp only
  rw [q2]; rfl
theorem a2d {n:Nat} {t:T} (h:Pl n t) (hn:n≤40):eqD t t=some true:=by
  obtain ⟨d,e1,e2⟩:=h
  have:d.depth≤40:=Nat.le_trans e2 hn
  simp [eqD,e1,this,W5 d (Dq _ e1)]
theorem a2p {n:Nat} {t:T} (h:Pl n t) (hn:n≤40):eqT t t=some true:=by
  cases t with
  | dic k=>obtain ⟨d,e1,_⟩:=h; simp [dat] at e1
  | _=>exact a2d h hn
theorem Wg {n:Nat} {t:T} (h:Pl n t) (hn:n≤40):neO t t=some (.bl false):=by simp [neO,a2p h hn]
theorem Ej {a b:Int}:eqO (.int a) (.int b)=some (.bl (a==b)):=by simp [eqO,eqT,eqD,dat,PyData.depth,PyData.eqv]
theorem Uw {a b:Int}:neO (.int a) (.int b)=some (.bl (!(a==b))):=by simp [neO,eqT,eqD,dat,PyData.depth,PyData.eqv]
theorem T5 {a b:Str} (ha:okS a) (hb:okS b):eqO (.str a) (.str b)=some (.bl (a==b)):=by
  simp [eqO,eqT,eqD,K1 ha,K1 hb,PyData.depth,PyData.eqv]
theorem a6m {xs:List T} {k:Nat} {t:T} (h:xs[k]? = some t):bx (.lst xs) (.int (k:Int))=some t:=by
  have hk:k<xs.length:=(List.getElem?_eq_some_iff.mp h).1
  have h1:(k:Int)<(xs.length:Int):=by omega
  simp [bx,ixI,h1,h]
theorem Kh {xs:List T} {k:Nat} {t:T} (h:xs[k]? = some t):bx (.tup xs) (.int (k:Int))=some t:=by
  have hk:k<xs.length:=(List.getElem?_eq_some_iff.mp h).1
  have h1:(k:Int)<(xs.length:Int):=by omega
  simp [bx,ixI,h1,h]
theorem yc {a:T} {r:List T}:bx (.tup (a::r)) (.int 0)=some a:=Kh (k:=0) rfl
theorem wu {a b:T} {r:List T}:bx (.tup (a::b::r)) (.int 1)=some b:=Kh (k:=1) rfl
theorem Cg {a b c:T} {r:List T}:bx (.tup (a::b::c::r)) (.int 2)=some c:=Kh (k:=2) rfl
theorem Vp {a b c d:T} {r:List T}:bx (.tup (a::b::c::d::r)) (.int 3)=some d:=Kh (k:=3) rfl
theorem Hf {i j:Nat} {x y:T} {s:Sta}:m5 [i,j] (.tup [x,y]) s=some (dh j y false (dh i x false s)):=by simp [m5]
theorem jq {a b:S} {s s':Sta} (h:a s=some (.next,s')):jc a b s=b s':=by unfold jc; rw [h]
end C
end
noncomputable section
set_option linter.all false
set_option autoImplicit false
namespace K
open C PySem
noncomputable section
variable {a b:M T} {l r:M (List T)} {s s1 s2:Sta} {t u v:T} {ts:List T} {i:Nat} {F:Fn} {z:List SO} {x y:S}
theorem zo {f:T→T→Option T} (h1:a s=some (t,s1)) (h2:b s1=some (u,s2)) (h3:f t u=some v):mOp f a b s=some (v,s2):=by
  unfold mOp; rw [h1]; dsimp only; rw [h2]; dsimp only; rw [h3]
theorem zm {f:List T→Option T} (h:l s=some (ts,s1)) (h2:f ts=some u):gb f l s=some (u,s1):=by
  unfold gb; rw [h]; dsimp only; rw [h2]
theorem zc (h:a s=some (t,s1)) (h2:l s1=some (ts,s2)):ak a l s=some (t::ts,s2):=by
  unfold ak; rw [h]; dsimp only; rw [h2]
theorem zf (h:l s=some (ts,s1)) (h2:F ts s1.sto=some (t,z)):dj F l s=some (t,⟨s1.env,z⟩):=by
  unfold dj; rw [h]; dsimp only; rw [h2]
theorem zs (h:a s=some (t,s1)):jw i a s=some (.next,dh i t false s1):=by unfold jw; rw [h]
theorem zn (h:a s=some (t,s1)):sNew i a s=some (.next,dh i t true s1):=by unfold sNew; rw [h]
theorem zr (h:a s=some (t,s1)):jr a s=some (.ret t,s1):=by unfold jr; rw [h]
theorem zq {q:Option (C.Flow × Sta)} (h:x s=some (.next,s1)) (h2:y s1=q):jc x y s=q:=by unfold jc; rw [h]; exact h2
theorem zt {k:Bool} (h:a s=some (.bl k,s1)):gq a s=some (k,s1):=by unfold gq; rw [h]
theorem zk {c:M Bool} (h:c s=some (true,s1)) {q:Option (C.Flow × Sta)} (h2:x s1=q):sIf c x y s=q:=by unfold sIf; rw [h]; exact h2
theorem ze {c:M Bool} (h:c s=some (false,s1)) {q:Option (C.Flow × Sta)} (h2:y s1=q):sIf c x y s=q:=by unfold sIf; rw [h]; exact h2
theorem ys {s':Sta} (h:a s=some (t,s1)) (e:dh i t false s1=s'):jw i a s=some (.next,s'):=by unfold jw; rw [h,← e]
theorem yn {s':Sta} (h:a s=some (t,s1)) (e:dh i t true s1=s'):sNew i a s=some (.next,s'):=by unfold sNew; rw [h,← e]
theorem md {i j:Int} (h:0<j):m6 (.int i) (.int j)=some (.int (i%j)):=if_pos h
theorem abv {α:Type} {f:α→T} {l:List α}:ql [.lst (l.map f)]=some (.int l.length):=by show some (T.int ((l.map f).length:Int))=_; rw [List.length_map]
theorem ad {p q:Str} (h:p.length+q.length<lim):lu (.str p) (.str q)=some (.str (p++q)):=if_pos h
theorem zun {f:T→Option T} (h:a s=some (t,s1)) (h2:f t=some u):mUn f a s=some (u,s1):=by unfold mUn; rw [h]; dsimp only; rw [h2]
theorem zis {α:Type} {f:α→T} {k:List α} (h:a s=some (.lst (k.map f),s1)) (hl:k.length<lim):jy a s=some (k.map f,s1):=by
  unfold jy; rw [h]; dsimp only; rw [List.length_map,if_pos hl]
theorem zqr (h:x s=some (.ret t,s1)):jc x y s=some (.ret t,s1):=by unfold jc; rw [h]
theorem zgo {g:G} (h:a s=some (t,s1)) (h2:g t s1=some s2):sGo g a s=some (.next,s2):=by unfold sGo; rw [h]; dsimp only; rw [h2]
theorem za {s':Sta} {xs:List T} (h:a s=some (t,s1)) (hx:s1.env[i]? = some (some (.lst xs,true))) (hl:xs.length<lim) (hs:jf i s=true) (e:dh i (.lst (xs++[t])) true s1=s'):dz i a s=some (.next,s'):=by
  unfold dz; rw [if_pos hs,h]; dsimp only; rw [hx]; dsimp only; rw [if_pos hl,e]
theorem zw {s':Sta} {kv:List (C.Key × T)} {q:C.Key} (h:b s=some (t,s1)) (hd:O4 i s1=true) (h2:a s1=some (u,s2)) (hx:s2.env[i]? = some (some (.dic kv,true))) (hq:keyOf u=some q) (hl:kv.length<lim) (e:dh i (.dic (Lh q t kv)) true s2=s'):Aq i a b s=some (.next,s'):=by
  unfold Aq; rw [h]; dsimp only; rw [if_pos hd,h2]; dsimp only; rw [hx,hq]; dsimp only; rw [if_pos hl,e]
theorem adb {p q:Int} (h:p<q):ltT (.int p) (.int q)=some (.bl true):=by show some (T.bl (decide (p<q)))=_; rw [decide_eq_true h]
theorem acf {p q:Int} (h:¬ p<q):ltT (.int p) (.int q)=some (.bl false):=by show some (T.bl (decide (p<q)))=_; rw [decide_eq_false h]
theorem eq_i {p q:Int} {k:Bool} (h:(p==q)=k):eqO (.int p) (.int q)=some (.bl k):=by rw [Ej,h]
theorem mu {p q:Int} (h:Dw p=true):Jh (.int p) (.int q)=some (.int (p * q)):=if_pos (by rw [h]; rfl)
theorem zf0 (h:l s=some (ts,s1)) (h2:F ts s1.sto=some (t,s1.sto)):dj F l s=some (t,s1):=by
  unfold dj; rw [h]; dsimp only; rw [h2]
theorem zex {s':Sta} {xs zs:List T} (h:a s=some (t,s1)) (hq:jh t=some zs) (hx:s1.env[i]? = some (some (.lst xs,true))) (hl:xs.length+zs.length<lim) (hs:jf i s=true) (e:dh i (.lst (xs++zs)) true s1=s'):fu i a s=some (.next,s'):=by
  unfold fu; rw [if_pos hs,h]; dsimp only; rw [hq,hx]; dsimp only; rw [if_pos hl,e]
theorem Z1 {g:G} {q:S} {w:List T} (h:g t s=some s1) (hb:q s1=some (.next,s2)):forL g q (t::w) s=forL g q w s2:=by
  rw [forL]; dsimp only; rw [h]; dsimp only; rw [hb]
theorem a9d {g:G} {q:S} {m:M (List T)} {r0:Option (C.Flow × Sta)} (h:m s=some (ts,s1)) (h2:forL g q ts s1=r0):m9 g m q s=r0:=by
  unfold m9; rw [h]; exact h2
theorem zos {p:Int} (h:a s=some (.int p,s1)):Xr a s=some (some p,s1):=by unfold Xr; rw [h]
theorem zrun {n:Nat} {A:List T} {z0:List SO} (h:x ⟨A.map (fun t=>some (t,false))++List.replicate (n - A.length) none,z0⟩=some (.ret t,s1)) (h2:s1.sto=z):iw n x A z0=some (t,z):=by
  unfold iw; rw [h]; dsimp only; rw [h2]
end
end K
end
noncomputable section
set_option linter.all false
set_option autoImplicit false
namespace K
open C PySem
theorem zsl {m:M T} {lo hi:M (Option Int)} {s s1 s2 s3:Sta} {xs zs:List T} {p q:Option Int} (h:m s=some (.tup xs,s1)) (h1:lo s1=some (p,s2)) (h2:hi s2=some (q,s3)) (e:a4c xs p q=zs):Gh m lo hi s=some (.tup zs,s3):=by
  unfold Gh; rw [h]; dsimp only; rw [h1]; dsimp only; rw [h2]; dsimp only; show (match some (T.tup (a4c xs p q)) with | some u=>some (u,s3) | none=>none)=_; rw [e]
theorem zan {c d:M Bool} {s s1:Sta} (h:c s=some (false,s1)):u6 c d s=some (false,s1):=by unfold u6; rw [h]
end K
end
noncomputable section
set_option linter.all false
set_option maxRecDepth 100000
set_option autoImplicit false
namespace K
open C PySem
noncomputable abbrev Pr:=Str × Int
noncomputable def pT (p:Pr):T:=.tup [.str p.1,.int p.2]
noncomputable abbrev Sm:=Int × List Pr
noncomputable def smT (s:Sm):T:=.tup [.int s.1,.tup (s.2.map pT)]
noncomputable def dd (d:List Pr):List (C.Key × T):=d.map fun p=>(.inr p.1,.int p.2)
noncomputable def gt:List Pr→Str→Int
  | [],_=>0
  | (k,v)::r,b=>if k=b then v else gt r b
noncomputable def ks (d:List Pr):List Str:=d.map (·.1)
noncomputable def pt (d:List Pr) (b:Str) (v:Int):List Pr:=if b∈ks d then d.map fun p=>if p.1=b then (p.1,v) else p else d++[(b,v)]
theorem T8 (b:Str):∀ d:List Pr,(Lf (.inr b) (dd d)).getD (.int 0)=.int (gt d b)
  | []=>rfl
  | (k,v)::r=>by
    have ih:=T8 b r
    unfold dd at ih ⊢
    simp only [List.map_cons,Lf,gt]
    by_cases h:k=b
    · simp [h]
    · rw [if_neg (by simpa using h),if_neg h,ih]
theorem Pa {b:Str}:∀ {d:List Pr},b∈ks d→Lf (.inr b) (dd d)=some (.int (gt d b))
  | [],h=>by simp [ks] at h
  | (k,v)::r,h=>by
    unfold dd
    simp only [List.map_cons,Lf,gt]
    by_cases e:k=b
    · simp [e]
    · rw [if_neg (by simpa using e),if_neg e]
      simp only [ks,List.map_cons,List.mem_cons] at h
      rcases h with h | h
      · exact absurd h.symm e
      · exact Pa (d:=r) h
theorem Sw {b:Str}:∀ {d:List Pr},b∉ks d→gt d b=0
  | [],_=>rfl
  | (k,v)::r,h=>by
    simp only [ks,List.map_cons,List.mem_cons,not_or] at h
    rw [gt,if_neg (fun e=>h.1 e.symm)]
    exact Sw (d:=r) h.2
theorem a0f (b:Str) (v:Int) (d:List Pr):Lh (.inr b) (.int v) (dd d)=dd (pt d b v):=by
  have any:((dd d).any fun p=>decide (p.1=Sum.inr b))=decide (b∈ks d):=by
    rw [Bool.eq_iff_iff]
    simp only [List.any_eq_true,decide_eq_true_eq,dd,ks,List.mem_map]
    constructor
    · rintro ⟨x,⟨p,hp,rfl⟩,h⟩
      simp only [Sum.inr.injEq] at h
      exact ⟨p,hp,h⟩
    · rintro ⟨p,hp,h⟩
      exact ⟨_,⟨p,hp,rfl⟩,by simp [h]⟩
  unfold Lh pt
  rw [any]
  by_cases h:b∈ks d
  · rw [if_pos (by simpa using h),if_pos h] -- here
    unfold dd
    rw [List.map_map,List.map_map] -- here
    apply List.map_congr_left
    intro p _
    simp only [Function.comp,Sum.inr.injEq]
    split <;> rfl
  · rw [if_neg (by simpa using h),if_neg h] -- here
    unfold dd
    rw [List.map_append]; rfl
theorem a8e (d:List Pr) (b:Str) (v:Int):ks (pt d b v)=if b∈ks d then ks d else ks d++[b]:=by
  unfold pt
  split
  · unfold ks
    rw [List.map_map]
    apply List.map_congr_left
    intro p _
    simp only [Function.comp]
    split <;> rfl
  · unfold ks; rw [List.map_append]; rfl
theorem Qd {b k:Str} {v:Int} {r:List Pr}:b∈ks ((k,v)::r)↔b=k∨b∈ks r:=by simp [ks]
theorem a5k {b:Str} {e:List Pr}:∀ {d:List Pr},gt (d++e) b=if b∈ks d then gt d b else gt e b
  | []=>by simp [ks]
  | (k,v)::r=>by
    simp only [List.cons_append,gt]
    by_cases h:k=b
    · rw [if_pos h,if_pos h,if_pos (Qd.mpr (.inl h.symm))]
    · rw [if_neg h,if_neg h,a5k (d:=r)]
      have hiff:(b∈ks ((k,v)::r))↔b∈ks r:=Qd.trans ⟨fun z=>z.resolve_left fun z=>h z.symm,.inr⟩
      by_cases hr:b∈ks r
      · rw [if_pos hr,if_pos (hiff.mpr hr)]
      · rw [if_neg hr,if_neg (fun z=>hr (hiff.mp z))]
theorem a5a {b c:Str} {v:Int}:∀ {d:List Pr},gt (d.map fun p=>if p.1=b then (p.1,v) else p) c=if c=b∧c∈ks d then v else gt d c
  | []=>by simp [ks,gt]
  | (k,w)::r=>by
    have ih:=a5a (b:=b) (c:=c) (v:=v) (d:=r)
    rw [List.map_cons]
    by_cases h:k=b
    · rw [if_pos h]
      simp only [gt]
      by_cases hc:k=c
      · rw [if_pos hc,if_pos ⟨by rw [← hc,h],Qd.mpr (.inl hc.symm)⟩]
      · rw [if_neg hc,if_neg hc,ih]
        have hb:¬ c=b:=fun z=>hc (by rw [h,z])
        rw [if_neg (fun z=>hb z.1),if_neg (fun z=>hb z.1)]
    · rw [if_neg h]
      simp only [gt]
      by_cases hc:k=c
      · rw [if_pos hc,if_pos hc]
        have hb:¬ c=b:=fun z=>h (by rw [hc,z])
        rw [if_neg (fun z=>hb z.1)]
      · rw [if_neg hc,if_neg hc,ih]
        have hiff:(c∈ks ((k,w)::r))↔c∈ks r:=Qd.trans ⟨fun z=>z.resolve_left fun z=>hc z.symm,.inr⟩
        by_cases hr:c=b∧c∈ks r
        · rw [if_pos hr,if_pos ⟨hr.1,hiff.mpr hr.2⟩]
        · rw [if_neg hr,if_neg (fun z=>hr ⟨z.1,hiff.mp z.2⟩)]
theorem ab5 {d:List Pr} {b c:Str} {v:Int}:gt (pt d b v) c=if c=b then v else gt d c:=by
  unfold pt
  split
  · rename_i h
    rw [a5a]
    by_cases e:c=b
    · rw [if_pos ⟨e,by rw [e]; exact h⟩,if_pos e]
    · rw [if_neg (fun z=>e z.1),if_neg e]
  · rename_i h
    rw [a5k]
    by_cases e:c=b
    · subst e
      rw [if_neg h,if_pos rfl]; simp [gt]
    · rw [if_neg e]
      split
      · rfl
      · rename_i h2
        have:¬ b=c:=fun z=>e z.symm
        rw [Sw h2]
        simp [gt,this]
noncomputable def tot:List Pr→Str→Int
  | [],_=>0
  | (k,v)::r,b=>(if k=b then v else 0)+tot r b
noncomputable def Uz (l:List Pr) (d:List Pr):List Pr:=l.foldl (fun d p=>pt d p.1 (gt d p.1+p.2)) d
theorem V4 (b:Str):∀ (l d:List Pr),gt (Uz l d) b=gt d b+tot l b
  | [],d=>by simp [Uz,tot]
  | (k,v)::r,d=>by
    have ih:=V4 b r (pt d k (gt d k+v))
    unfold Uz at ih ⊢
    rw [List.foldl_cons,ih,ab5,tot]
    by_cases h:b=k
    · subst h; simp; omega
    · have h2:¬ k=b:=fun z=>h z.symm
      rw [if_neg h,if_neg h2]; omega
theorem Ut:∀ (l d:List Pr),(ks d).Nodup→(ks (Uz l d)).Nodup∧(∀ b,b∈ks (Uz l d)↔b∈ks d∨b∈ks l)
  | [],d,h=>⟨h,fun b=>by simp [Uz,ks]⟩
  | (k,v)::r,d,h=>by
    have h1:(ks (pt d k (gt d k+v))).Nodup:=by
      rw [a8e]
      split
      · exact h
      · rename_i hn
        rw [List.nodup_append]
        exact ⟨h,by simp,fun a ha b hb=>by simp at hb; subst hb; exact fun z=>hn (by rw [← z]; exact ha)⟩
    obtain ⟨a1,a2⟩:=Ut r (pt d k (gt d k+v)) h1
    unfold Uz at a1 a2 ⊢
    rw [List.foldl_cons]
    refine ⟨a1,fun b=>?_⟩
    rw [a2 b,a8e,Qd]
    by_cases hk:k∈ks d
    · rw [if_pos hk]
      constructor
      · rintro (z | z)
        · exact .inl z
        · exact .inr (.inr z)
      · rintro (z | z | z)
        · exact .inl z
        · subst z; exact .inl hk
        · exact .inr z
    · rw [if_neg hk]
      constructor
      · rintro (z | z)
        · rcases List.mem_append.mp z with z | z
          · exact .inl z
          · simp at z; exact .inr (.inl z)
        · exact .inr (.inr z)
      · rintro (z | z | z)
        · exact .inl (List.mem_append_left _ z)
        · subst z; exact .inl (List.mem_append_right _ (by simp))
        · exact .inr z
structure Uni (U:List Str):Prop where
  len:U.length≤8
  ok:∀ x∈U,okS x
  ins:∀ x∈U,∀ P:Str→Bool,P x=false→Y0 x (U.filter P)=U.filter fun b=>P b||b==x
noncomputable def canon (U:List Str) (f:Str→Int):List Pr:=(U.filter fun b=>f b != 0).map fun b=>(b,f b)
theorem Qy {U:List Str} (u:Uni U):∀ (l:List Str) (P:Str→Bool),l.Nodup→(∀ b∈l,b∈U∧P b=false)→l.foldl (fun acc x=>Y0 x acc) (U.filter P)=U.filter fun b=>P b||l.contains b
  | [],P,_,_=>by simp
  | x::l,P,hn,h=>by
    obtain ⟨h1,h2⟩:=List.nodup_cons.mp hn
    rw [List.foldl_cons,u.ins x (h x List.mem_cons_self).1 P (h x List.mem_cons_self).2,Qy u l _ h2 fun b hb=>⟨(h b (List.mem_cons_of_mem _ hb)).1,by
      rw [(h b (List.mem_cons_of_mem _ hb)).2,Bool.false_or]
      exact beq_eq_false_iff_ne.mpr fun z=>h1 (by rw [← z]; exact hb)⟩]
    congr 1
    funext b
    rw [List.contains_cons,Bool.or_assoc]
theorem Es {U l:List Str} (u:Uni U) (hn:l.Nodup) (h:∀ b∈l,b∈U):Bs l=U.filter fun b=>l.contains b:=by
  have:=Qy u l (fun _=>false) hn fun b hb=>⟨h b hb,rfl⟩
  unfold Bs
  rw [show U.filter (fun _=>false)=[] by simp] at this
  rw [this]
  apply List.filter_congr
  intro b _
  simp
theorem Jl {U:List Str} {d:List Pr} (u:Uni U) (hn:(ks d).Nodup) (h:∀ b∈ks d,b∈U):((Bs (ks d)).filter fun b=>gt d b != 0)=U.filter fun b=>gt d b != 0:=by
  rw [Es u hn h,List.filter_filter]
  apply List.filter_congr
  intro b hb
  by_cases e:b∈ks d
  · simp [e]
  · simp [Sw e]
theorem O8 {U:List Str} {d:List Pr} (u:Uni U) (hn:(ks d).Nodup) (h:∀ b∈ks d,b∈U):d.length≤U.length:=by
  have h1:=List.Nodup.length_le_of_subset hn h
  simpa [ks] using h1
end K
end
noncomputable section
set_option linter.all false
set_option maxRecDepth 100000
set_option autoImplicit false
namespace K
open C PySem
noncomputable section
variable {U:List Str} {sto:List SO}
theorem keys_str:∀ d:List Pr,J6 ((dd d).map fun p=>Xj p.1)=some (ks d)
  | []=>rfl
  | (k,v)::r=>by
    have ih:=keys_str r
    show (J6 ((dd r).map fun p=>Xj p.1)).map (k :: ·)=_
    rw [ih]; rfl
theorem Qt {d:List Pr} (h:d.length<64):Cp [.dic (dd d)]=some (.lst ((Bs (ks d)).map T.str)):=by
  have h2:(dd d).length<64:=by simpa [dd] using h
  simp only [Cp,if_pos h2,keys_str,Option.map_some]
noncomputable def prs (l:List Pr) (s:T):Prop:=s=.lst (l.map pT)∨s=.tup (l.map pT)
theorem a6h {l:List Pr} {s:T} (h:prs l s) (hl:l.length<1000000) {m:M T} {st st':Sta} (e:m st=some (s,st')):jy m st=some (l.map pT,st'):=by
  have h1:l.length<lim:=hl
  rcases h with rfl | rfl <;> simp [jy,e,h1]
theorem a5m {b:Str} {v:Int} {d:List Pr}:Lh (.inr b) (.int v) (dd d)=dd (pt d b v):=a0f b v d
theorem Ze {v:Int}:neO (.int v) (.int 0)=some (.bl (v != 0)):=by
  rw [Uw]; rfl
theorem a0p {n:Int} {l:List Pr} {s:T} (u:Uni U) (hs:prs l s) (hl:l.length<1000) (hU:∀ b∈ks l,b∈U):yj [.int n,s] sto=some (smT (n,canon U (tot l)),sto):=by
  have e1:bw 1 ⟨[some (.int n,false),some (s,false),some (.dic (dd []),true),none,none,none],sto⟩=some (s,⟨[some (.int n,false),some (s,false),some (.dic (dd []),true),none,none,none],sto⟩):=rfl
  have is:=a6h hs (by omega) e1
  obtain ⟨hn,hk⟩:=Ut l [] (by simp [ks])
  have hkU:∀ b∈ks (Uz l []),b∈U:=fun b hb=>by
    rcases (hk b).mp hb with z | z
    · simp [ks] at z
    · exact hU b z
  have hlen:=O8 u hn hkU
  have ul:=u.len
  unfold yj iw
  rw [show ([T.int n,s].map (fun t=>some (t,false))++List.replicate (6 - [T.int n,s].length) none:List Slot)=[some (.int n,false),some (s,false),none,none,none,none] from rfl]
  rw [jq (s':=⟨[some (.int n,false),some (s,false),some (.dic (dd []),true),none,none,none],sto⟩) rfl]
  have loop:(m9 (m5 [3,4]) (jy (bw 1)) (Aq 2 (bw 3) (mOp lu (Eb 2 (bw 3) (aq (.int 0))) (bw 4)))) ⟨[some (.int n,false),some (s,false),some (.dic (dd []),true),none,none,none],sto⟩
      = some (.next,⟨[some (.int n,false),some (s,false),some (.dic (dd (Uz l [])),true),(l.foldl (fun (x:List Pr × Slot × Slot) p=>(pt x.1 p.1 (gt x.1 p.1+p.2),some (.str p.1,false),some (.int p.2,false))) ([],none,none)).2.1,(l.foldl (fun (x:List Pr × Slot × Slot) p=>(pt x.1 p.1 (gt x.1 p.1+p.2),some (.str p.1,false),some (.int p.2,false))) ([],none,none)).2.2,none],sto⟩):=by
    unfold m9
    rw [is]
    dsimp only
    generalize hF:forL _ _ _ _=r
    obtain ⟨rfl,_⟩:=W2 hF pT l (fun (x:List Pr × Slot × Slot)=>(⟨[some (.int n,false),some (s,false),some (.dic (dd x.1),true),x.2.1,x.2.2,none],sto⟩:Sta)) ([],none,none)
      (fun x p=>(pt x.1 p.1 (gt x.1 p.1+p.2),some (.str p.1,false),some (.int p.2,false))) (fun r x=>x.1.length+r.length≤l.length) rfl rfl (by simp) (by
        rintro p r x h1
        simp only [List.length_cons] at h1
        have hlt:(dd x.1).length<lim:=by simp only [dd,List.length_map]; show _<1000000; omega
        refine ⟨⟨_,by unfold pT; exact Hf,?_⟩,?_⟩
        · simp [iw,jc,sIf,jw,sNew,jr,m7,sNx,g8,sGo,dw,m9,dz,fu,jf,gq,uc,u6,mOr,jm,mIf,mOp,mUn,bw,gb,ak,d9,aq,ji,dj,dh,hName,m5,gn,jy,ltT,leT,ql,lu,tu,m6,j6,qb,sy,jh,j5,d8,qx,Aq,Eb,O4,keyOf,T8,hlt,a5m]
        · have:(pt x.1 p.1 (gt x.1 p.1+p.2)).length≤x.1.length+1:=by
            unfold pt
            split
            · rw [List.length_map]; omega
            · rw [List.length_append,List.length_singleton]; exact Nat.le_refl _
          dsimp only
          omega)
    have fst:∀ (l:List Pr) (x:List Pr × Slot × Slot),(l.foldl (fun (x:List Pr × Slot × Slot) p=>(pt x.1 p.1 (gt x.1 p.1+p.2),some (T.str p.1,false),some (T.int p.2,false))) x).1=Uz l x.1:=fun l=>by
      induction l with
      | nil=>intro x; rfl
      | cons p l ih=>intro x; rw [List.foldl_cons,ih]; rfl
    rw [fst]
  rw [jq loop]
  generalize (l.foldl (fun (x:List Pr × Slot × Slot) p=>(pt x.1 p.1 (gt x.1 p.1+p.2),some (T.str p.1,false),some (T.int p.2,false))) ([],none,none)).2.1=o3
  generalize (l.foldl (fun (x:List Pr × Slot × Slot) p=>(pt x.1 p.1 (gt x.1 p.1+p.2),some (T.str p.1,false),some (T.int p.2,false))) ([],none,none)).2.2=o4
  generalize hd:Uz l []=d at *
  have hso:=Qt (d:=d) (by omega)
  have il:(Bs (ks d)).length<lim:=by
    rw [Es u hn hkU]
    exact Nat.lt_of_le_of_lt (List.length_filter_le _ _) (by show _<1000000; omega)
  simp [iw,jc,sIf,jw,sNew,jr,m7,sNx,g8,sGo,dw,m9,dz,fu,jf,gq,uc,u6,mOr,jm,mIf,mOp,mUn,bw,gb,ak,d9,aq,ji,dj,dh,hName,m5,gn,jy,ltT,leT,ql,lu,tu,m6,j6,qb,sy,jh,j5,d8,qx]
  generalize hF:p7 1 _ _ _ _ _ _=r
  have e:=Jv hF T.str (fun b=>pT (b,gt d b)) (fun b=>gt d b != 0) (Bs (ks d)) ⟨[some (.int n,false),some (s,false),some (.dic (dd d),false),o3,o4,none],sto⟩ [some (.int n,false),some (s,false),some (.dic (dd d),false),o3,o4,none] [some (.dic (dd d),false)] (by first | exact rfl | simp [iw,jc,sIf,jw,sNew,jr,m7,sNx,g8,sGo,dw,m9,dz,fu,jf,gq,uc,u6,mOr,jm,mIf,mOp,mUn,bw,gb,ak,d9,aq,ji,dj,dh,hName,m5,gn,jy,ltT,leT,ql,lu,tu,m6,j6,qb,sy,jh,j5,d8,qx,hso,il]) rfl rfl rfl (Nat.le_of_lt il) (fun b hb pre hp=>by
    have hb2:b∈ks d:=by
      rw [Es u hn hkU] at hb
      have:=(List.mem_filter.mp hb).2
      simpa using this
    have hg:=Pa hb2
    match pre,hp with
    | [p0],_=>exact ⟨[some (.str b,false)],rfl,by first | exact rfl | simp [iw,jc,sIf,jw,sNew,jr,m7,sNx,g8,sGo,dw,m9,dz,fu,jf,gq,uc,u6,mOr,jm,mIf,mOp,mUn,bw,gb,ak,d9,aq,ji,dj,dh,hName,m5,gn,jy,ltT,leT,ql,lu,tu,m6,j6,qb,sy,jh,j5,d8,qx],by first | exact rfl | simp [iw,jc,sIf,jw,sNew,jr,m7,sNx,g8,sGo,dw,m9,dz,fu,jf,gq,uc,u6,mOr,jm,mIf,mOp,mUn,bw,gb,ak,d9,aq,ji,dj,dh,hName,m5,gn,jy,ltT,leT,ql,lu,tu,m6,j6,qb,sy,jh,j5,d8,qx,bx,keyOf,hg,Ze],fun _=>by first | exact rfl | simp [iw,jc,sIf,jw,sNew,jr,m7,sNx,g8,sGo,dw,m9,dz,fu,jf,gq,uc,u6,mOr,jm,mIf,mOp,mUn,bw,gb,ak,d9,aq,ji,dj,dh,hName,m5,gn,jy,ltT,leT,ql,lu,tu,m6,j6,qb,sy,jh,j5,d8,qx,bx,keyOf,hg,pT]⟩)
  subst e
  rw [Jl u hn hkU]
  have hg:∀ b,gt d b=tot l b:=fun b=>by rw [← hd,V4]; simp [gt]
  simp [iw,jc,sIf,jw,sNew,jr,m7,sNx,g8,sGo,dw,m9,dz,fu,jf,gq,uc,u6,mOr,jm,mIf,mOp,mUn,bw,gb,ak,d9,aq,ji,dj,dh,hName,m5,gn,jy,ltT,leT,ql,lu,tu,m6,j6,qb,sy,jh,j5,d8,qx,yp,smT,canon]
  simp only [hg]
  rfl
end
end K
end
noncomputable section
set_option linter.all false
set_option maxRecDepth 100000
set_option autoImplicit false
namespace K
open C PySem
noncomputable section
variable {U:List Str} {sto:List SO}
theorem W8:∀ l:List Pr,Br (l.map pT)=some (dd l)
  | []=>rfl
  | (k,v)::r=>by
    have ih:=W8 r
    simp only [List.map_cons,pT,Br,keyOf,ih]; rfl
theorem a0x:∀ (l d:List Pr),(dd l).foldl (fun d p=>Lh p.1 p.2 d) (dd d)=dd (l.foldl (fun d p=>pt d p.1 p.2) d)
  | [],d=>rfl
  | (k,v)::r,d=>by
    have ih:=a0x r (pt d k v)
    show (dd r).foldl _ (Lh (.inr k) (.int v) (dd d))=_
    rw [a0f,ih]; rfl
theorem Vt:∀ (l d:List Pr),(ks d++ks l).Nodup→l.foldl (fun d p=>pt d p.1 p.2) d=d++l
  | [],d,_=>by simp
  | (k,v)::r,d,h=>by
    have hk:k∉ks d:=fun z=>by
      rw [List.nodup_append] at h
      exact h.2.2 k z k (by simp [ks]) rfl
    have e:pt d k v=d++[(k,v)]:=by unfold pt; rw [if_neg hk]
    rw [List.foldl_cons]
    show r.foldl _ (pt d k v)=_
    rw [e,Vt r (d++[(k,v)]) (by
      have:ks (d++[(k,v)])++ks r=ks d++ks ((k,v)::r):=by simp [ks]
      rw [this]; exact h)]
    simp
theorem a7d {l:List Pr} (hn:(ks l).Nodup) (hl:l.length<1000000):Bf [.tup (l.map pT)]=some (.dic (dd l)):=by
  have h1:(l.map pT).length<lim:=by rw [List.length_map]; exact hl
  have:=a0x l []
  rw [Vt l [] (by simpa [ks] using hn)] at this
  simp only [Bf,if_pos h1,W8,Option.map_some]
  rw [show ([]:List (C.Key × T))=dd [] from rfl,this]
  simp
structure Bp (U:List Str) (s:Sm):Prop where
  nd:(ks s.2).Nodup
  sub:∀ b∈ks s.2,b∈U
theorem Vo {f:Str→Int}:ks (canon U f)=U.filter fun b=>f b != 0:=by
  unfold ks canon
  rw [List.map_map]
  exact List.map_id' _
theorem Nk {f:Str→Int} (hU:U.Nodup) {b:Str} (hb:b∈U):gt (canon U f) b=f b:=by
  unfold canon
  induction U with
  | nil=>cases hb
  | cons c U ih =>
    obtain ⟨h1,h2⟩:=List.nodup_cons.mp hU
    rw [List.filter_cons]
    rcases List.mem_cons.mp hb with rfl | hb'
    · by_cases h0:f b=0
      · rw [if_neg (by simp [h0])]
        rw [Sw,h0]
        intro z
        simp only [ks,List.map_map,List.mem_map,List.mem_filter] at z
        obtain ⟨a,⟨ha,_⟩,e⟩:=z
        exact h1 (by rw [← e]; exact ha)
      · rw [if_pos (by simp [h0])]
        simp [gt]
    · have hne:c≠b:=fun z=>h1 (by rw [z]; exact hb')
      split
      · rw [List.map_cons,gt,if_neg hne]; exact ih h2 hb'
      · exact ih h2 hb'
theorem Fi {f:Str→Int} {n:Int} (hU:U.Nodup):Bp U (n,canon U f):=⟨by
  show (ks (canon U f)).Nodup
  rw [Vo]; exact hU.filter _,fun b hb=>by
  have hb:b∈ks (canon U f):=hb
  rw [Vo] at hb; exact (List.mem_filter.mp hb).1⟩
theorem Mw {b:Str}:∀ {l:List Pr},(ks l).Nodup→tot l b=gt l b
  | [],_=>rfl
  | (k,v)::r,h=>by
    obtain ⟨h1,h2⟩:=List.nodup_cons.mp (show (k::ks r).Nodup from h)
    rw [tot,gt,Mw h2]
    by_cases e:k=b
    · subst e; rw [if_pos rfl,if_pos rfl,Sw h1]; omega
    · rw [if_neg e,if_neg e]; omega
noncomputable def Rk (t:Int) (l:List Pr):List Pr:=l.map fun p=>(p.1,p.2 * t)
theorem Yu {t:Int} {l:List Pr}:ks (Rk t l)=ks l:=by unfold ks Rk; rw [List.map_map]; rfl
theorem Ow {t:Int} {b:Str}:∀ {l:List Pr},tot (Rk t l) b=tot l b * t
  | []=>by simp [Rk,tot]
  | (k,v)::r=>by
    have ih:=Ow (t:=t) (b:=b) (l:=r)
    simp only [Rk,List.map_cons,tot] at ih ⊢
    rw [ih,Int.add_mul]
    by_cases e:k=b
    · simp [e]
    · simp [e]
theorem Ky {s:Sm} (u:Uni U) (h:Bp U s):s.2.length≤8:=Nat.le_trans (O8 u h.nd h.sub) u.len
theorem Wd {s1 s2:Sm} {t:Int} (u:Uni U) (h1:Bp U s1) (h2:Bp U s2) (hb:Dw t=true):jk [smT s1,smT s2,.int t] sto=some (smT (s1.1+s2.1 * t,canon U (fun b=>gt s1.2 b+gt s2.2 b * t)),sto):=by
  obtain ⟨n1,l1⟩:=s1
  obtain ⟨n2,l2⟩:=s2
  have le1:=Ky u h1
  have le2:=Ky u h2
  dsimp only at le1 le2
  have hdi:=a7d h1.nd (l:=l1) (by omega)
  have il:l2.length<lim:=by show _<1000000; omega
  obtain ⟨hn,hk⟩:=Ut (Rk t l2) l1 h1.nd
  have hkU:∀ b∈ks (Uz (Rk t l2) l1),b∈U:=fun b hb=>by
    rcases (hk b).mp hb with z | z
    · exact h1.sub b z
    · rw [Yu] at z; exact h2.sub b z
  have hlen:=O8 u hn hkU
  have ul:=u.len
  unfold jk
  simp [iw,jc,sIf,jw,sNew,jr,m7,sNx,g8,sGo,dw,m9,dz,fu,jf,gq,uc,u6,mOr,jm,mIf,mOp,mUn,bw,gb,ak,d9,aq,ji,dj,dh,hName,m5,gn,jy,ltT,leT,ql,lu,tu,m6,j6,qb,sy,jh,j5,d8,qx,smT,yc,wu,hdi,il]
  generalize hF:forL _ _ _ _=r
  obtain ⟨rfl,p1⟩:=W2 hF pT l2 (fun (x:List Pr × Slot × Slot)=>(⟨[some (smT (n1,l1),false),some (smT (n2,l2),false),some (.int t,false),some (.dic (dd x.1),true),x.2.1,x.2.2],sto⟩:Sta)) (l1,none,none)
    (fun x p=>(pt x.1 p.1 (gt x.1 p.1+p.2 * t),some (.str p.1,false),some (.int p.2,false))) (fun r x=>x.1.length+r.length≤l1.length+l2.length) rfl rfl (by simp) (by
      rintro p r x h1
      simp only [List.length_cons] at h1
      have hlt:(dd x.1).length<lim:=by simp only [dd,List.length_map]; show _<1000000; omega
      refine ⟨⟨_,by unfold pT; exact Hf,?_⟩,?_⟩
      · simp [iw,jc,sIf,jw,sNew,jr,m7,sNx,g8,sGo,dw,m9,dz,fu,jf,gq,uc,u6,mOr,jm,mIf,mOp,mUn,bw,gb,ak,d9,aq,ji,dj,dh,hName,m5,gn,jy,ltT,leT,ql,lu,tu,m6,j6,qb,sy,jh,j5,d8,qx,Aq,Eb,O4,keyOf,T8,hlt,a5m,Jh,hb]
      · have:(pt x.1 p.1 (gt x.1 p.1+p.2 * t)).length≤x.1.length+1:=by
          unfold pt
          split
          · rw [List.length_map]; omega
          · rw [List.length_append,List.length_singleton]; exact Nat.le_refl _
        dsimp only
        omega)
  have fst:∀ (l:List Pr) (x:List Pr × Slot × Slot),(l.foldl (fun (x:List Pr × Slot × Slot) p=>(pt x.1 p.1 (gt x.1 p.1+p.2 * t),some (T.str p.1,false),some (T.int p.2,false))) x).1=Uz (Rk t l) x.1:=fun l=>by
    induction l with
    | nil=>intro x; rfl
    | cons p l ih=>intro x; rw [List.foldl_cons,ih]; rfl
  generalize hX:List.foldl _ _ _=X1 at p1
  have ex:X1.1=Uz (Rk t l2) l1:=by rw [← hX,fst]
  obtain ⟨d,o4,o5⟩:=X1
  dsimp only at ex
  generalize hd:Uz (Rk t l2) l1=d' at *
  subst ex
  have hso:=Qt (d:=d) (by omega)
  have il2:(Bs (ks d)).length<lim:=by
    rw [Es u hn hkU]
    exact Nat.lt_of_le_of_lt (List.length_filter_le _ _) (by show _<1000000; omega)
  simp [iw,jc,sIf,jw,sNew,jr,m7,sNx,g8,sGo,dw,m9,dz,fu,jf,gq,uc,u6,mOr,jm,mIf,mOp,mUn,bw,gb,ak,d9,aq,ji,dj,dh,hName,m5,gn,jy,ltT,leT,ql,lu,tu,m6,j6,qb,sy,jh,j5,d8,qx,smT,yc,Jh,hb]
  generalize hF:p7 1 _ _ _ _ _ _=r
  have e:=Jv hF T.str (fun b=>pT (b,gt d b)) (fun b=>gt d b != 0) (Bs (ks d)) ⟨[some (smT (n1,l1),false),some (smT (n2,l2),false),some (.int t,false),some (.dic (dd d),false),o4,o5],sto⟩ [some (smT (n1,l1),false),some (smT (n2,l2),false),some (.int t,false),some (.dic (dd d),false),o4,o5] [some (.dic (dd d),false)] (by unfold smT; simp [iw,jc,sIf,jw,sNew,jr,m7,sNx,g8,sGo,dw,m9,dz,fu,jf,gq,uc,u6,mOr,jm,mIf,mOp,mUn,bw,gb,ak,d9,aq,ji,dj,dh,hName,m5,gn,jy,ltT,leT,ql,lu,tu,m6,j6,qb,sy,jh,j5,d8,qx,hso,il2]) rfl rfl rfl (Nat.le_of_lt il2) (fun b hb pre hp=>by
    have hb2:b∈ks d:=by
      rw [Es u hn hkU] at hb
      have:=(List.mem_filter.mp hb).2
      simpa using this
    have hg:=Pa hb2
    match pre,hp with
    | [p0],_=>exact ⟨[some (.str b,false)],rfl,by first | exact rfl | simp [iw,jc,sIf,jw,sNew,jr,m7,sNx,g8,sGo,dw,m9,dz,fu,jf,gq,uc,u6,mOr,jm,mIf,mOp,mUn,bw,gb,ak,d9,aq,ji,dj,dh,hName,m5,gn,jy,ltT,leT,ql,lu,tu,m6,j6,qb,sy,jh,j5,d8,qx],by first | exact rfl | simp [iw,jc,sIf,jw,sNew,jr,m7,sNx,g8,sGo,dw,m9,dz,fu,jf,gq,uc,u6,mOr,jm,mIf,mOp,mUn,bw,gb,ak,d9,aq,ji,dj,dh,hName,m5,gn,jy,ltT,leT,ql,lu,tu,m6,j6,qb,sy,jh,j5,d8,qx,bx,keyOf,hg,Ze],fun _=>by first | exact rfl | simp [iw,jc,sIf,jw,sNew,jr,m7,sNx,g8,sGo,dw,m9,dz,fu,jf,gq,uc,u6,mOr,jm,mIf,mOp,mUn,bw,gb,ak,d9,aq,ji,dj,dh,hName,m5,gn,jy,ltT,leT,ql,lu,tu,m6,j6,qb,sy,jh,j5,d8,qx,bx,keyOf,hg,pT]⟩)
  subst e
  rw [Jl u hn hkU]
  have hg:∀ b,gt d b=gt l1 b+gt l2 b * t:=fun b=>by rw [← hd,V4,Ow,Mw h2.nd]
  simp [iw,jc,sIf,jw,sNew,jr,m7,sNx,g8,sGo,dw,m9,dz,fu,jf,gq,uc,u6,mOr,jm,mIf,mOp,mUn,bw,gb,ak,d9,aq,ji,dj,dh,hName,m5,gn,jy,ltT,leT,ql,lu,tu,m6,j6,qb,sy,jh,j5,d8,qx,yp,smT,canon,yc,Jh,hb]
  simp only [hg]
  rfl
end
end K
end
noncomputable section
set_option linter.all false
set_option maxRecDepth 100000
set_option autoImplicit false
namespace K
open C PySem
noncomputable def U3:List Str:=["b2","x","y"]
theorem nd3:U3.Nodup:=by decide +kernel
theorem a5s:Uni U3 where
  len:=by decide
  ok:=by unfold okS; decide +kernel
  ins:=by
    intro x hx P hP
    simp only [U3,List.mem_cons,List.not_mem_nil,or_false] at hx
    unfold U3
    rcases hx with rfl | rfl | rfl
    · cases h1:P "x" <;> cases h2:P "y" <;> simp only [List.filter_cons,List.filter_nil,hP,h1,h2] <;> decide +kernel
    · cases h1:P "b2" <;> cases h2:P "y" <;> simp only [List.filter_cons,List.filter_nil,hP,h1,h2] <;> decide +kernel
    · cases h1:P "b2" <;> cases h2:P "x" <;> simp only [List.filter_cons,List.filter_nil,hP,h1,h2] <;> decide +kernel
noncomputable section
variable {U:List Str} {sto:List SO}
theorem Tq {b:Str}:∀ l r:List Pr,tot (l++r) b=tot l b+tot r b
  | [],r=>by simp [tot]
  | (k,v)::l,r=>by rw [List.cons_append,tot,tot,Tq l r]; omega
theorem Bo {f g:Str→Int} (h:∀ b∈U,f b=g b):canon U f=canon U g:=by
  unfold canon
  rw [List.filter_congr (q:=fun b=>g b != 0) fun b hb=>by rw [h b hb]]
  exact List.map_congr_left fun b hb=>by rw [h b (List.mem_filter.mp hb).1]
theorem a4k {l r:List Pr}:ks (l++r)=ks l++ks r:=by simp [ks]
theorem plus {a b:Sm} (u:Uni U) (ha:Bp U a) (hb:Bp U b):Kq [smT a,smT b] sto=some (smT (a.1+b.1,canon U fun c=>gt a.2 c+gt b.2 c),sto):=by
  have l1:=Ky u ha
  have l2:=Ky u hb
  have e:=a0p (sto:=sto) (n:=a.1+b.1) (l:=a.2++b.2) (s:=.tup ((a.2++b.2).map pT)) u (.inr rfl) (by rw [List.length_append]; omega) (fun c hc=>by
    rw [a4k] at hc
    rcases List.mem_append.mp hc with z | z
    · exact ha.sub c z
    · exact hb.sub c z)
  have hl:a.2.length+b.2.length<lim:=by show _<1000000; omega
  rw [Bo (f:=tot (a.2++b.2)) (g:=fun c=>gt a.2 c+gt b.2 c) (fun c _=>by rw [Tq,Mw ha.nd,Mw hb.nd]),List.map_append] at e
  unfold Kq smT
  simp [iw,jc,sIf,jw,sNew,jr,m7,sNx,g8,sGo,dw,m9,dz,fu,jf,gq,uc,u6,mOr,jm,mIf,mOp,mUn,bw,gb,ak,d9,aq,ji,dj,dh,hName,m5,gn,jy,ltT,leT,ql,lu,tu,m6,j6,qb,sy,jh,j5,d8,qx,yc,wu,hl,e]
  rfl
theorem by_ {s:Sm} {t:Int} (u:Uni U) (hs:Bp U s) (ht:Dw t=true):Zc [smT s,.int t] sto=some (smT (s.1 * t,canon U fun c=>gt s.2 c * t),sto):=by
  have l1:=Ky u hs
  have hl:s.2.length<lim:=by show _<1000000; omega
  have e:=a0p (sto:=sto) (n:=s.1 * t) (l:=Rk t s.2) (s:=.lst ((Rk t s.2).map pT)) u (.inl rfl) (by unfold Rk; rw [List.length_map]; omega) (fun c hc=>by rw [Yu] at hc; exact hs.sub c hc)
  rw [Bo (f:=tot (Rk t s.2)) (g:=fun c=>gt s.2 c * t) (fun c _=>by rw [Ow,Mw hs.nd])] at e
  have co:p7 2 [1] (m5 [0,1]) (jy (mOp bx (bw 0) (aq (.int 1)))) j5 (gb (fun l=>some (.tup l)) (ak (bw 0) (ak (mOp Jh (bw 1) (bw 2)) d9))) ⟨[some (smT s,false),some (.int t,false)],sto⟩=some (.lst ((Rk t s.2).map pT),⟨[some (smT s,false),some (.int t,false)],sto⟩):=by
    unfold Rk
    rw [List.map_map]
    refine uw pT (fun p=>pT (p.1,p.2 * t)) s.2 (s1:=⟨[some (smT s,false),some (.int t,false)],sto⟩) _ [some (.int t,false)] (by unfold smT; simp [iw,jc,sIf,jw,sNew,jr,m7,sNx,g8,sGo,dw,m9,dz,fu,jf,gq,uc,u6,mOr,jm,mIf,mOp,mUn,bw,gb,ak,d9,aq,ji,dj,dh,hName,m5,gn,jy,ltT,leT,ql,lu,tu,m6,j6,qb,sy,jh,j5,d8,qx,wu,hl]) rfl rfl rfl (Nat.le_of_lt hl) ?_
    intro p hp pre hpre
    obtain ⟨a,b,rfl⟩:∃ a b,pre=[a,b]:=by
      match pre,hpre with
      | [a,b],_=>exact ⟨a,b,rfl⟩
    refine ⟨[some (.str p.1,false),some (.int p.2,false)],rfl,by unfold pT; rw [Hf]; rfl,rfl,?_⟩
    simp [iw,jc,sIf,jw,sNew,jr,m7,sNx,g8,sGo,dw,m9,dz,fu,jf,gq,uc,u6,mOr,jm,mIf,mOp,mUn,bw,gb,ak,d9,aq,ji,dj,dh,hName,m5,gn,jy,ltT,leT,ql,lu,tu,m6,j6,qb,sy,jh,j5,d8,qx,Jh,ht,pT]
  have e2:mOp Jh (mOp bx (bw 0) (aq (.int 0))) (bw 1) ⟨[some (smT s,false),some (.int t,false)],sto⟩=some (.int (s.1 * t),⟨[some (smT s,false),some (.int t,false)],sto⟩):=by
    unfold smT; simp [iw,jc,sIf,jw,sNew,jr,m7,sNx,g8,sGo,dw,m9,dz,fu,jf,gq,uc,u6,mOr,jm,mIf,mOp,mUn,bw,gb,ak,d9,aq,ji,dj,dh,hName,m5,gn,jy,ltT,leT,ql,lu,tu,m6,j6,qb,sy,jh,j5,d8,qx,yc,Jh,ht]
  unfold Zc iw
  show (match jr _ ⟨[some (smT s,false),some (.int t,false)],sto⟩ with | some (.ret t,s)=>some (t,s.sto) | some (.next,s)=>some (.non,s.sto) | _=>none)=_
  simp only [jr,dj,ak,d9,e2,co,e]
theorem b1:Dw (-1)=true:=by decide
theorem minus {a b:Sm} (u:Uni U) (nd:U.Nodup) (ha:Bp U a) (hb:Bp U b):vo [smT a,smT b] sto=some (smT (a.1+b.1 * -1,canon U fun c=>gt a.2 c+gt b.2 c * -1),sto):=by
  have e1:=by_ (sto:=sto) (t:=-1) u hb b1
  have e2:=plus (sto:=sto) u ha (Fi (n:=b.1 * -1) (f:=fun c=>gt b.2 c * -1) nd)
  dsimp only at e2
  have ec:(canon U fun c=>gt a.2 c+gt (canon U fun c=>gt b.2 c * -1) c)=canon U fun c=>gt a.2 c+gt b.2 c * -1:=Bo fun c hc=>by rw [Nk nd hc]
  rw [ec] at e2
  unfold vo iw
  show (match jr _ ⟨[some (smT a,false),some (smT b,false)],sto⟩ with | some (.ret t,s)=>some (t,s.sto) | some (.next,s)=>some (.non,s.sto) | _=>none)=_
  simp only [jr,dj,ak,d9,bw,mUn,qb,aq,List.getElem?_cons_zero,List.getElem?_cons_succ,e1,e2]
noncomputable def aac (b:Str):Sm:=(0,[(b,1)])
noncomputable def inn (D:List (Str × Sm)) (b:Str):Sm:=match D with
  | []=>aac b
  | (k,s)::r=>if k=b then s else inn r b
noncomputable def dS (D:List (Str × Sm)):List (C.Key × T):=D.map fun p=>(.inr p.1,smT p.2)
theorem a5f (b:Str):∀ D:List (Str × Sm),(Lf (.inr b) (dS D)).getD (smT (aac b))=smT (inn D b)
  | []=>rfl
  | (k,s)::r=>by
    show (if (Sum.inr k:C.Key)=.inr b then some (smT s) else Lf (.inr b) (dS r)).getD _=_
    unfold inn
    by_cases e:k=b
    · rw [if_pos (by rw [e]),if_pos e]; rfl
    · rw [if_neg (fun z=>e (Sum.inr.inj z)),if_neg e]; exact a5f b r
theorem a5j {D:List (Str × Sm)} (hD:∀ p∈D,Bp U p.2) {b:Str} (hb:b∈U):Bp U (inn D b):=by
  induction D with
  | nil=>exact ⟨by simp [inn,aac,ks],fun c hc=>by simp [inn,aac,ks] at hc; rw [hc]; exact hb⟩
  | cons p r ih =>
    obtain ⟨k,s⟩:=p
    unfold inn
    split
    · exact hD _ List.mem_cons_self
    · exact ih fun q hq=>hD q (List.mem_cons_of_mem _ hq)
noncomputable def pN (D:List (Str × Sm)) (l:List Pr):Int:=(l.map fun p=>(inn D p.1).1 * p.2).sum
noncomputable def pF (D:List (Str × Sm)) (l:List Pr) (c:Str):Int:=(l.map fun p=>gt (inn D p.1).2 c * p.2).sum
theorem a98 {D:List (Str × Sm)} {b:Str}:a3h [.dic (dS D),.str b,.tup [.int 0,.tup [.tup [.str b,.int 1]]]]=some (smT (inn D b)):=by
  have:=a5f b D
  simp only [a3h,keyOf,Option.map_some]
  rw [← this]; rfl
theorem a5r:∀ (D:List (Str × Sm)),Br (D.map fun p=>.tup [.str p.1,smT p.2])=some (dS D)
  | []=>rfl
  | p::r=>by
    have:=a5r r
    simp only [List.map_cons,Br,keyOf,this]
    rfl
end
end K
end
noncomputable section
set_option linter.all false
set_option maxRecDepth 100000
set_option autoImplicit false
namespace K
open C PySem
noncomputable section
variable {U:List Str} {sto:List SO} {D:List (Str × Sm)}
theorem a0j {p:Pr} {l:List Pr}:pN D (p::l)=(inn D p.1).1 * p.2+pN D l:=by simp [pN]
theorem a1g {p:Pr} {l:List Pr} {c:Str}:pF D (p::l) c=gt (inn D p.1).2 c * p.2+pF D l c:=by simp [pF]
theorem Z5 {f:Str→Int} (nd:U.Nodup) {c:Str} (hc:c∈U):tot (canon U f) c=f c:=by
  rw [Mw (Fi (n:=0) (f:=f) nd).nd,Nk nd hc]
theorem Qs {f:Str→Int}:(canon U f).length≤U.length:=by
  unfold canon
  rw [List.length_map]
  exact List.length_filter_le _ _
noncomputable abbrev a84:S:=(jc (jw 6 (gb a3h (ak (bw 1) (ak (bw 4) (ak (gb (fun l=>some (.tup l)) (ak (aq (.int 0)) (ak (gb (fun l=>some (.tup l)) (ak (gb (fun l=>some (.tup l)) (ak (bw 4) (ak (aq (.int 1)) d9))) d9)) d9))) d9)))))
  (jc (jw 2 (mOp lu (bw 2) (mOp Jh (bw 5) (mOp bx (bw 6) (aq (.int 0))))))
  (fu 3 (mOp bx (dj Zc (ak (bw 6) (ak (bw 5) d9))) (aq (.int 1))))))
noncomputable abbrev qp (s:Sm) (D:List (Str × Sm)) (n:Int) (acc:List Pr) (a b c:Slot) (sto:List SO):Sta:=⟨[some (smT s,false),some (.dic (dS D),false),some (.int n,false),some (.lst (acc.map pT),true),a,b,c],sto⟩
noncomputable def cf (U:List Str) (D:List (Str × Sm)) (p:Pr):List Pr:=canon U fun c=>gt (inn D p.1).2 c * p.2
theorem Sx {s:Sm} (u:Uni U) (hD:∀ p∈D,Bp U p.2):∀ (l acc:List Pr) (n:Int) (o4 o5 o6:Slot),(∀ p∈l,p.1∈U∧Dw p.2=true)→acc.length+8 * l.length<1000 →
    ∃ o4' o5' o6':Slot,forL (m5 [4,5]) a84 (l.map pT) (qp s D n acc o4 o5 o6 sto)=some (.next,qp s D (n+pN D l) (acc++l.flatMap (cf U D)) o4' o5' o6' sto)
  | [],acc,n,o4,o5,o6,_,_=>⟨o4,o5,o6,by simp [forL,pN]⟩
  | p::l,acc,n,o4,o5,o6,h,hl=>by
    obtain ⟨hU,hb⟩:=h p List.mem_cons_self
    rw [List.length_cons] at hl
    have cl:(cf U D p).length≤8:=Nat.le_trans Qs u.len
    obtain ⟨a,b,c,ih⟩:=Sx (s:=s) u hD l (acc++cf U D p) (n+p.2 * (inn D p.1).1) (some (.str p.1,false)) (some (.int p.2,false)) (some (smT (inn D p.1),false)) (fun q hq=>h q (List.mem_cons_of_mem _ hq)) (by rw [List.length_append]; omega)
    have al:(acc.map pT).length+((cf U D p).map pT).length<lim:=by rw [List.length_map,List.length_map]; show _<1000000; omega
    have i1:bx (smT ((inn D p.1).1 * p.2,cf U D p)) (.int 1)=some (.tup ((cf U D p).map pT)):=wu
    have st:a84 (qp s D n acc (some (.str p.1,false)) (some (.int p.2,false)) o6 sto)=some (.next,qp s D (n+p.2 * (inn D p.1).1) (acc++cf U D p) (some (.str p.1,false)) (some (.int p.2,false)) (some (smT (inn D p.1),false)) sto) :=
      zq (zs (zm rfl (a98 (D:=D) (b:=p.1)))) (zq (zs (zo rfl (zo rfl (zo rfl rfl yc) (mu hb)) rfl)) (zex (zo (zf rfl (by_ u (a5j hD hU) hb)) rfl i1) rfl rfl al rfl (by rw [← List.map_append]; rfl)))
    refine ⟨a,b,c,?_⟩
    refine (Z1 (t:=pT p) (Hf (x:=.str p.1) (y:=.int p.2)) st).trans ?_
    rw [ih,a0j,List.flatMap_cons,Int.mul_comm p.2,Int.add_assoc,List.append_assoc]
theorem a5d (nd:U.Nodup) {c:Str} (hc:c∈U):∀ l:List Pr,tot (l.flatMap (cf U D)) c=pF D l c
  | []=>rfl
  | p::l=>by rw [List.flatMap_cons,Tq,a5d nd hc l,a1g]; unfold cf; rw [Z5 nd hc]
theorem put {s:Sm} (u:Uni U) (nd:U.Nodup) (hs:Bp U s) (hD:∀ p∈D,Bp U p.2) (hb:∀ p∈s.2,Dw p.2=true) :
    Rh [smT s,.dic (dS D)] sto=some (smT (s.1+pN D s.2,canon U (pF D s.2)),sto):=by
  have ls:=Ky u hs
  have hl:s.2.length<lim:=by show _<1000000; omega
  have cl:∀ l:List Pr,(l.flatMap (cf U D)).length≤8 * l.length:=fun l=>by
    induction l with
    | nil=>exact Nat.le_refl _
    | cons p l ih =>
      have:(cf U D p).length≤8:=Nat.le_trans Qs u.len
      rw [List.flatMap_cons,List.length_append,List.length_cons]; omega
  obtain ⟨a,b,c,L⟩:=Sx (sto:=sto) (s:=s) u hD s.2 [] s.1 none none none (fun p hp=>⟨hs.sub _ (List.mem_map.mpr ⟨p,hp,rfl⟩),hb p hp⟩) (by rw [List.length_nil]; omega)
  have e:=a0p (sto:=sto) (n:=s.1+pN D s.2) (l:=s.2.flatMap (cf U D)) u (.inl rfl) (by have:=cl s.2; omega) (fun x hx=>by
    obtain ⟨q,hq,rfl⟩:=List.mem_map.mp hx
    obtain ⟨p,_,hp⟩:=List.mem_flatMap.mp hq
    exact (Fi (n:=0) nd).sub _ (List.mem_map.mpr ⟨q,hp,rfl⟩))
  rw [Bo fun c hc=>a5d (D:=D) nd hc s.2] at e
  have J:jy (mOp bx (bw 0) (aq (.int 1))) (qp s D s.1 [] none none none sto)=some (s.2.map pT,qp s D s.1 [] none none none sto):=by
    unfold jy mOp; rw [show bw 0 (qp s D s.1 [] none none none sto)=some (smT s,qp s D s.1 [] none none none sto) from rfl]
    show (if (s.2.map pT).length<lim then some (s.2.map pT,_) else none)=_
    rw [List.length_map,if_pos hl]
  exact zrun (n:=7) (zq (zs (zo rfl rfl yc)) (zq (zn rfl) (zq (a9d J L) (zr (zf rfl e))))) rfl
theorem a08:∀ (l d:List (Str × Sm)),((d++l).map (·.1)).Nodup→(dS l).foldl (fun d p=>Lh p.1 p.2 d) (dS d)=dS (d++l)
  | [],d,_=>by simp [dS]
  | p::l,d,h=>by
    have h1:((d++[p]++l).map (·.1)).Nodup:=by simpa using h
    have ne:∀ x∈d,¬ x.1=p.1:=by
      intro x hx e
      rw [List.map_append,List.nodup_append] at h
      exact h.2.2 x.1 (List.mem_map.mpr ⟨x,hx,rfl⟩) p.1 (by simp) e
    have e:Lh (.inr p.1) (smT p.2) (dS d)=dS (d++[p]):=by
      unfold Lh
      rw [if_neg]
      · simp [dS]
      · simp only [dS,List.any_map,Bool.not_eq_true]
        rw [List.any_eq_false]
        intro x hx
        simp only [Function.comp,decide_eq_true_eq]
        exact fun z=>ne x hx (Sum.inr.inj z)
    show (dS l).foldl _ (Lh (.inr p.1) (smT p.2) (dS d))=_
    rw [e,a08 l (d++[p]) h1,List.append_assoc]; rfl
noncomputable def seT (p:Str × Sm):T:=.tup [.str p.1,smT p.2]
theorem Zm (hl:D.length<1000) (nd:(D.map (·.1)).Nodup):Bf [.tup (D.map seT)]=some (.dic (dS D)):=by
  have h1:(D.map seT).length<lim:=by rw [List.length_map]; show _<1000000; omega
  have e:Br (D.map seT)=some (dS D):=a5r D
  have f:=a08 D [] (by simpa using nd)
  simp only [Bf,if_pos h1,e,Option.map_some]
  rw [show ([]:List (C.Key × T))=dS [] from rfl,f]; rfl
noncomputable abbrev a9z:S:=(jw 2 (dj jk (ak (bw 2) (ak (gb a3h (ak (gb Bf (ak (bw 1) d9)) (ak (bw 3) (ak (gb (fun l=>some (.tup l)) (ak (aq (.int 0)) (ak (gb (fun l=>some (.tup l)) (ak (gb (fun l=>some (.tup l)) (ak (bw 3) (ak (aq (.int 1)) d9))) d9)) d9))) d9)))) (ak (bw 4) d9)))))
noncomputable abbrev qlp (s:Sm) (D:List (Str × Sm)) (z:Sm) (a b:Slot) (sto:List SO):Sta:=⟨[some (smT s,false),some (.tup (D.map seT),false),some (smT z,false),a,b],sto⟩
theorem Q5 {s:Sm} (u:Uni U) (nd:U.Nodup) (hl':D.length<1000) (hn:(D.map (·.1)).Nodup) (hD:∀ p∈D,Bp U p.2):∀ (l:List Pr) (n:Int) (f:Str→Int) (o3 o4:Slot),(∀ p∈l,p.1∈U∧Dw p.2=true) →
    ∃ o3' o4':Slot,forL (m5 [3,4]) a9z (l.map pT) (qlp s D (n,canon U f) o3 o4 sto)=some (.next,qlp s D (n+pN D l,canon U fun c=>f c+pF D l c) o3' o4' sto)
  | [],n,f,o3,o4,_=>⟨o3,o4,by simp [forL,pN,pF]⟩
  | p::l,n,f,o3,o4,h=>by
    obtain ⟨hU,hb⟩:=h p List.mem_cons_self
    obtain ⟨a,b,ih⟩:=Q5 (s:=s) u nd hl' hn hD l (n+(inn D p.1).1 * p.2) (fun c=>f c+gt (inn D p.1).2 c * p.2) (some (.str p.1,false)) (some (.int p.2,false)) (fun q hq=>h q (List.mem_cons_of_mem _ hq))
    have lp:=Wd (sto:=sto) (s1:=(n,canon U f)) (s2:=inn D p.1) (t:=p.2) u (Fi nd) (a5j hD hU) hb
    dsimp only at lp
    rw [Bo (f:=fun b=>gt (canon U f) b+gt (inn D p.1).2 b * p.2) (g:=fun b=>f b+gt (inn D p.1).2 b * p.2) (fun b hb=>by rw [Nk nd hb])] at lp
    have st:a9z (qlp s D (n,canon U f) (some (.str p.1,false)) (some (.int p.2,false)) sto)=some (.next,qlp s D (n+(inn D p.1).1 * p.2,canon U fun c=>f c+gt (inn D p.1).2 c * p.2) (some (.str p.1,false)) (some (.int p.2,false)) sto) :=
      ys (zf (zc rfl (zc (zm (zc (zm rfl (Zm hl' hn)) rfl) (a98 (D:=D) (b:=p.1))) rfl)) lp) rfl
    refine ⟨a,b,?_⟩
    refine (Z1 (t:=pT p) (Hf (x:=.str p.1) (y:=.int p.2)) st).trans ?_
    rw [ih,a0j,Int.add_assoc]
    have:(fun c=>f c+gt (inn D p.1).2 c * p.2+pF D l c)=fun c=>f c+pF D (p::l) c:=funext fun c=>by rw [a1g,Int.add_assoc]
    rw [this]
theorem a1i {s:Sm} (u:Uni U) (nd:U.Nodup) (hs:Bp U s) (hl':D.length<1000) (hn:(D.map (·.1)).Nodup) (hD:∀ p∈D,Bp U p.2) (hb:∀ p∈s.2,Dw p.2=true) :
    Ah [smT s,.tup (D.map seT)] sto=some (smT (s.1+pN D s.2,canon U (pF D s.2)),sto):=by
  have ls:=Ky u hs
  have hl:s.2.length<lim:=by show _<1000000; omega
  obtain ⟨a,b,L⟩:=Q5 (sto:=sto) (s:=s) u nd hl' hn hD s.2 s.1 (fun _=>0) none none (fun p hp=>⟨hs.sub _ (List.mem_map.mpr ⟨p,hp,rfl⟩),hb p hp⟩)
  have z0:canon U (fun _=>0)=[]:=by simp [canon]
  rw [z0,show (fun c=>(0:Int)+pF D s.2 c)=pF D s.2 from funext fun c=>Int.zero_add _] at L
  have J:jy (mOp bx (bw 0) (aq (.int 1))) (qlp s D (s.1,[]) none none sto)=some (s.2.map pT,qlp s D (s.1,[]) none none sto):=by
    unfold jy mOp; rw [show bw 0 (qlp s D (s.1,[]) none none sto)=some (smT s,qlp s D (s.1,[]) none none sto) from rfl]
    show (if (s.2.map pT).length<lim then some (s.2.map pT,_) else none)=_
    rw [List.length_map,if_pos hl]
  exact zrun (n:=5) (zq (zs (zm (zc (zo rfl rfl yc) rfl) rfl)) (zq (a9d J L) (zr rfl))) rfl
end
end K
end
noncomputable section
set_option linter.all false
set_option maxRecDepth 100000
set_option maxHeartbeats 1000000
set_option autoImplicit false
namespace K
open C PySem
theorem eqC {a b:Str} {c:Bool} (h:(PyData.canLay0 (.str a)&&PyData.canLay0 (.str b)&&((a==b)==c))=true):eqO (.str a) (.str b)=some (.bl c):=by
  simp only [Bool.and_eq_true,beq_iff_eq] at h
  rw [T5 h.1.1 h.1.2,h.2]
theorem inC {w a b:Str} {c:Bool} (h:(PyData.canLay0 (.str w)&&PyData.canLay0 (.str a)&&PyData.canLay0 (.str b)&&((a==w||b==w)==c))=true):inT (.str w) (.tup [.str a,.str b])=some (.bl c):=by
  simp only [Bool.and_eq_true,beq_iff_eq] at h
  obtain ⟨⟨⟨h1,h2⟩,h3⟩,h4⟩:=h -- here
  simp [inT,inL,eqD,dat,h1,h2,h3,PyData.depth,PyData.eqv,← h4]
theorem Dc:eqO (.str "most") (.str "most")=some (.bl true):=eqC (by decide +kernel)
theorem Qg:eqO (.str "most") (.str "at")=some (.bl false):=eqC (by decide +kernel)
theorem M8:eqO (.str "most") (.str "not")=some (.bl false):=eqC (by decide +kernel)
theorem a4h:inT (.str "most") (.tup [.str "and",.str "or"])=some (.bl false):=inC (by decide +kernel)
theorem Dl:eqO (.str "rest") (.str "most")=some (.bl false):=eqC (by decide +kernel)
theorem Di:eqO (.str "rest") (.str "rest")=some (.bl true):=eqC (by decide +kernel)
theorem Qh:eqO (.str "rest") (.str "at")=some (.bl false):=eqC (by decide +kernel)
theorem Mj:eqO (.str "rest") (.str "not")=some (.bl false):=eqC (by decide +kernel)
theorem a5h:inT (.str "rest") (.tup [.str "and",.str "or"])=some (.bl false):=inC (by decide +kernel)
theorem Cu:eqO (.str "at") (.str "most")=some (.bl false):=eqC (by decide +kernel)
theorem Cw:eqO (.str "at") (.str "rest")=some (.bl false):=eqC (by decide +kernel)
theorem Ef:eqO (.str "at") (.str "at")=some (.bl true):=eqC (by decide +kernel)
theorem Pj:eqO (.str "at") (.str "not")=some (.bl false):=eqC (by decide +kernel)
theorem Nu:eqO (.str "at") (.str "and")=some (.bl false):=eqC (by decide +kernel)
theorem V2:eqO (.str "at") (.str "or")=some (.bl false):=eqC (by decide +kernel)
theorem Ez:eqO (.str "not") (.str "most")=some (.bl false):=eqC (by decide +kernel)
theorem Fd:eqO (.str "not") (.str "rest")=some (.bl false):=eqC (by decide +kernel)
theorem Dk:eqO (.str "not") (.str "at")=some (.bl false):=eqC (by decide +kernel)
theorem Cr:eqO (.str "not") (.str "not")=some (.bl true):=eqC (by decide +kernel)
theorem Ey:eqO (.str "and") (.str "most")=some (.bl false):=eqC (by decide +kernel)
theorem Eu:eqO (.str "and") (.str "rest")=some (.bl false):=eqC (by decide +kernel)
theorem Dg:eqO (.str "and") (.str "at")=some (.bl false):=eqC (by decide +kernel)
theorem Cy:eqO (.str "and") (.str "not")=some (.bl false):=eqC (by decide +kernel)
theorem Yp:eqO (.str "and") (.str "and")=some (.bl true):=eqC (by decide +kernel)
theorem a7w:inT (.str "and") (.tup [.str "and",.str "or"])=some (.bl true):=inC (by decide +kernel)
theorem Hh:eqO (.str "or") (.str "most")=some (.bl false):=eqC (by decide +kernel)
theorem Hr:eqO (.str "or") (.str "rest")=some (.bl false):=eqC (by decide +kernel)
theorem Gg:eqO (.str "or") (.str "at")=some (.bl false):=eqC (by decide +kernel)
theorem Ew:eqO (.str "or") (.str "not")=some (.bl false):=eqC (by decide +kernel)
theorem a2n:eqO (.str "or") (.str "and")=some (.bl false):=eqC (by decide +kernel)
theorem ac1:inT (.str "or") (.tup [.str "and",.str "or"])=some (.bl true):=inC (by decide +kernel)
inductive Rem where
  | most (s:Sm) | rest (s:Sm) (m:Int) | pl (h:Str) (p:Int) | all (l:List Rem) | any (l:List Rem) | no (r:Rem)
mutual
noncomputable def jz:Rem→T
  | .most s=>.tup [.str "most",smT s]
  | .rest s m=>.tup [.str "rest",smT s,.int m]
  | .pl h p=>.tup [.str "at",.str h,.int p]
  | .all l=>.tup [.str "and",.tup (Lx l)]
  | .any l=>.tup [.str "or",.tup (Lx l)]
  | .no r=>.tup [.str "not",jz r]
noncomputable def Lx:List Rem→List T
  | []=>[]
  | r::l=>jz r::Lx l
end
theorem wg:∀ l:List Rem,Lx l=l.map jz
  | []=>rfl
  | r::l=>by rw [Lx,wg l]; rfl
inductive OkR (Q:Sm→Prop):Nat→Rem→Prop where
  | most {d:Nat} {s:Sm}:Bp U3 s→Q s→OkR Q d (.most s)
  | rest {d:Nat} {s:Sm} {m:Int}:Bp U3 s→Q s→2≤m→m≤12→OkR Q d (.rest s m)
  | pl {d:Nat} {h:Str} {p:Int}:okS h→h.length<100→OkR Q d (.pl h p)
  | all {d:Nat} {l:List Rem}:l.length≤6→(∀ r∈l,OkR Q d r)→OkR Q (d+1) (.all l)
  | any {d:Nat} {l:List Rem}:l.length≤6→(∀ r∈l,OkR Q d r)→OkR Q (d+1) (.any l)
  | no {d:Nat} {r:Rem}:OkR Q d r→OkR Q (d+1) (.no r)
noncomputable def eqF (b:Str) (n:Int):T:=.tup [.str "and",.tup [.tup [.str "most",.tup [.int (-n),.tup [.tup [.str b,.int 1]]]],.tup [.str "most",.tup [.int n,.tup [.tup [.str b,.int (-1)]]]]]]
noncomputable def neF (b:Str) (n:Int):T:=.tup [.str "or",.tup [.tup [.str "most",.tup [.int (1 - n),.tup [.tup [.str b,.int 1]]]],.tup [.str "most",.tup [.int (n+1),.tup [.tup [.str b,.int (-1)]]]]]]
noncomputable def ls (a b:Sm):Sm:=(a.1+b.1 * -1,canon U3 fun c=>gt a.2 c+gt b.2 c * -1)
noncomputable def rests (s:Sm) (m:Int):List T:=(List.range (m - 1).toNat).map fun (k:Nat)=>.tup [.str "rest",smT (ls s (1+(k:Int),[])),.int m]
mutual
noncomputable def pfT:Rem→T
  | .most s=>.tup [.str "most",smT s]
  | .rest s m=>.tup [.str "rest",smT s,.int m]
  | .pl h p=>eqF ("@" ++ h) p
  | .all l=>.tup [.str "and",.tup (pfs l)]
  | .any l=>.tup [.str "or",.tup (pfs l)]
  | .no r=>agT r
noncomputable def agT:Rem→T
  | .most s=>.tup [.str "most",smT (ls (1,[]) s)]
  | .rest s m=>.tup [.str "or",.tup (rests s m)]
  | .pl h p=>neF ("@" ++ h) p
  | .all l=>.tup [.str "or",.tup (ags l)]
  | .any l=>.tup [.str "and",.tup (ags l)]
  | .no r=>pfT r
noncomputable def pfs:List Rem→List T
  | []=>[]
  | r::l=>pfT r::pfs l
noncomputable def ags:List Rem→List T
  | []=>[]
  | r::l=>agT r::ags l
end
theorem Gb:∀ l:List Rem,pfs l=l.map pfT
  | []=>by rw [pfs]; rfl
  | r::l=>by rw [pfs,Gb l]; rfl
theorem Ge:∀ l:List Rem,ags l=l.map agT
  | []=>by rw [ags]; rfl
  | r::l=>by rw [ags,Ge l]; rfl
noncomputable section
variable {sto:List SO}
theorem V5 {n:Int}:Bp U3 (n,[]):=⟨by simp [ks],fun b hb=>by simp [ks] at hb⟩
theorem Je {h:Str} (hl:h.length<100):nq [.str h] sto=some (.str ("@" ++ h),sto):=by
  have l1:("@" : Str).length=1:=by decide +kernel
  have:("@" : Str).length+h.length<lim:=by show _<1000000; omega
  simp [iw,jc,sIf,jw,sNew,jr,m7,sNx,g8,sGo,dw,m9,dz,fu,jf,gq,uc,u6,mOr,jm,mIf,mOp,mUn,bw,gb,ak,d9,aq,ji,dj,dh,hName,m5,gn,jy,ltT,leT,ql,lu,tu,m6,j6,qb,sy,jh,j5,d8,qx,nq,this]
theorem Mp {b:Str} {n:Int}:mz [.str b,.int n] sto=some (eqF b n,sto):=by simp [iw,jc,sIf,jw,sNew,jr,m7,sNx,g8,sGo,dw,m9,dz,fu,jf,gq,uc,u6,mOr,jm,mIf,mOp,mUn,bw,gb,ak,d9,aq,ji,dj,dh,hName,m5,gn,jy,ltT,leT,ql,lu,tu,m6,j6,qb,sy,jh,j5,d8,qx,mz,eqF]
theorem a5l {b:Str} {n:Int}:uo [.str b,.int n] sto=some (neF b n,sto):=by simp [iw,jc,sIf,jw,sNew,jr,m7,sNx,g8,sGo,dw,m9,dz,fu,jf,gq,uc,u6,mOr,jm,mIf,mOp,mUn,bw,gb,ak,d9,aq,ji,dj,dh,hName,m5,gn,jy,ltT,leT,ql,lu,tu,m6,j6,qb,sy,jh,j5,d8,qx,uo,neF]
theorem abj {a b:Sm} (ha:Bp U3 a) (hb:Bp U3 b):vo [smT a,smT b] sto=some (smT (ls a b),sto):=minus a5s nd3 ha hb
theorem a2f {a b:Sm} (ha:Bp U3 a) (hb:Bp U3 b):jk [smT a,smT b,.int (-1)] sto=some (smT (ls a b),sto):=Wd a5s ha hb b1
end
end K
end
noncomputable section
set_option linter.all false
set_option maxRecDepth 100000
set_option maxHeartbeats 1000000
set_option autoImplicit false
namespace K
open C PySem
noncomputable section
variable {sto:List SO}
theorem sm0 (n:Int):smT (n,[])=.tup [.int n,.tup []]:=rfl
theorem a8z {s:Sm} (hs:Bp U3 s) (k:Int):vo [smT s,.tup [.int k,.tup []]] sto=some (smT (ls s (k,[])),sto):=by
  have e:=abj (sto:=sto) hs (V5 (n:=k))
  generalize vo=F at *
  exact e
theorem abh {s:Sm} (hs:Bp U3 s):vo [.tup [.int 1,.tup []],smT s] sto=some (smT (ls (1,[]) s),sto):=by
  have e:=abj (sto:=sto) (V5 (n:=1)) hs
  generalize vo=F at *
  exact e
theorem a9x {s:Sm} (hs:Bp U3 s):jk [.tup [.int 1,.tup []],smT s,.int (-1)] sto=some (smT (ls (1,[]) s),sto):=by
  have e:=a2f (sto:=sto) (V5 (n:=1)) hs
  generalize jk=F at *
  exact e
theorem a4w {m:Int} (h:2≤m) (h2:m≤12) {s s1:Sta} {e:M T} (he:e s=some (.int m,s1)):Cj (aq (.int 1)) e s=some ((List.range (m - 1).toNat).map fun (k:Nat)=>.int (1+(k:Int)),s1):=by
  have h3:(1:Int).natAbs<lim∧m.natAbs<lim:=by
    refine ⟨by decide,?_⟩
    show _<1000000
    omega
  simp only [Cj,aq,he,if_pos h3,Gf]
theorem a1b {f:Fn} {s:Sm} {m:Int} (hf:∀ k:Int,f [smT s,.tup [.int k,.tup []]] sto=some (smT (ls s (k,[])),sto)) (h:2≤m) (h2:m≤12) {o:Slot} :
    p7 1 [0] (hName 0) (Cj (aq (.int 1)) (mOp bx (bw 0) (aq (.int 2)))) j5 (gb (fun l=>some (.tup l)) (ak (aq (.str "rest")) (ak (dj f (ak (mOp bx (bw 1) (aq (.int 1))) (ak (gb (fun l=>some (.tup l)) (ak (bw 0) (ak (gb (fun l=>some (.tup l)) d9) d9))) d9))) (ak (mOp bx (bw 1) (aq (.int 2))) d9)))) ⟨[some (.tup [.str "rest",smT s,.int m],false),o],sto⟩
      = some (.lst (rests s m),⟨[some (.tup [.str "rest",smT s,.int m],false),o],sto⟩):=by
  unfold rests
  refine uw (fun (k:Nat)=>.int (1+(k:Int))) (fun (k:Nat)=>.tup [.str "rest",smT (ls s (1+(k:Int),[])),.int m]) (List.range (m - 1).toNat) (s1:=⟨[some (.tup [.str "rest",smT s,.int m],false),o],sto⟩) _ [some (.tup [.str "rest",smT s,.int m],false)] (a4w h h2 (by simp [iw,jc,sIf,jw,sNew,jr,m7,sNx,g8,sGo,dw,m9,dz,fu,jf,gq,uc,u6,mOr,jm,mIf,mOp,mUn,bw,gb,ak,d9,aq,ji,dj,dh,hName,m5,gn,jy,ltT,leT,ql,lu,tu,m6,j6,qb,sy,jh,j5,d8,qx,Cg])) rfl rfl rfl (by rw [List.length_range]; show _≤1000000; omega) ?_
  intro k _ pre hpre
  match pre,hpre with
  | [a],_ =>
    refine ⟨[some (.int (1+(k:Int)),false)],rfl,rfl,rfl,?_⟩
    have e:=hf (1+(k:Int))
    simp [iw,jc,sIf,jw,sNew,jr,m7,sNx,g8,sGo,dw,m9,dz,fu,jf,gq,uc,u6,mOr,jm,mIf,mOp,mUn,bw,gb,ak,d9,aq,ji,dj,dh,hName,m5,gn,jy,ltT,leT,ql,lu,tu,m6,j6,qb,sy,jh,j5,d8,qx,wu,Cg,e]
theorem Q9 {s:Sm} {m:Int} (hs:Bp U3 s) (h:2≤m) (h2:m≤12) {o:Slot} :
    p7 1 [0] (hName 0) (Cj (aq (.int 1)) (mOp bx (bw 0) (aq (.int 2)))) j5 (gb (fun l=>some (.tup l)) (ak (aq (.str "rest")) (ak (dj jk (ak (mOp bx (bw 1) (aq (.int 1))) (ak (gb (fun l=>some (.tup l)) (ak (bw 0) (ak (gb (fun l=>some (.tup l)) d9) d9))) (ak (mUn qb (aq (.int 1))) d9)))) (ak (mOp bx (bw 1) (aq (.int 2))) d9)))) ⟨[some (.tup [.str "rest",smT s,.int m],false),o],sto⟩
      = some (.lst (rests s m),⟨[some (.tup [.str "rest",smT s,.int m],false),o],sto⟩):=by
  unfold rests
  refine uw (fun (k:Nat)=>.int (1+(k:Int))) (fun (k:Nat)=>.tup [.str "rest",smT (ls s (1+(k:Int),[])),.int m]) (List.range (m - 1).toNat) (s1:=⟨[some (.tup [.str "rest",smT s,.int m],false),o],sto⟩) _ [some (.tup [.str "rest",smT s,.int m],false)] (a4w h h2 (by simp [iw,jc,sIf,jw,sNew,jr,m7,sNx,g8,sGo,dw,m9,dz,fu,jf,gq,uc,u6,mOr,jm,mIf,mOp,mUn,bw,gb,ak,d9,aq,ji,dj,dh,hName,m5,gn,jy,ltT,leT,ql,lu,tu,m6,j6,qb,sy,jh,j5,d8,qx,Cg])) rfl rfl rfl (by rw [List.length_range]; show _≤1000000; omega) ?_
  intro k _ pre hpre
  match pre,hpre with
  | [a],_ =>
    refine ⟨[some (.int (1+(k:Int)),false)],rfl,rfl,rfl,?_⟩
    have e:=a2f (sto:=sto) hs (V5 (n:=1+(k:Int)))
    rw [sm0] at e
    simp [iw,jc,sIf,jw,sNew,jr,m7,sNx,g8,sGo,dw,m9,dz,fu,jf,gq,uc,u6,mOr,jm,mIf,mOp,mUn,bw,gb,ak,d9,aq,ji,dj,dh,hName,m5,gn,jy,ltT,leT,ql,lu,tu,m6,j6,qb,sy,jh,j5,d8,qx,wu,Cg,e]
theorem Bu {F:Fn} {w:Str} {l:List Rem} {g:Rem→T} {o:Slot} (hl:l.length≤6) (h:∀ r∈l,F [jz r] sto=some (g r,sto)) :
    p7 1 [] (hName 0) (jy (mOp bx (bw 0) (aq (.int 1)))) j5 (dj F (ak (bw 0) d9)) ⟨[some (.tup [.str w,.tup (l.map jz)],false),o],sto⟩
      = some (.lst (l.map g),⟨[some (.tup [.str w,.tup (l.map jz)],false),o],sto⟩):=by
  have lm:l.length<lim:=by show _<1000000; omega
  refine uw jz _ l (s1:=⟨[some (.tup [.str w,.tup (l.map jz)],false),o],sto⟩) _ [] (by simp [iw,jc,sIf,jw,sNew,jr,m7,sNx,g8,sGo,dw,m9,dz,fu,jf,gq,uc,u6,mOr,jm,mIf,mOp,mUn,bw,gb,ak,d9,aq,ji,dj,dh,hName,m5,gn,jy,ltT,leT,ql,lu,tu,m6,j6,qb,sy,jh,j5,d8,qx,wu,lm]) rfl rfl rfl (Nat.le_of_lt lm) ?_
  intro r hr pre hpre
  match pre,hpre with
  | [a],_ =>
    refine ⟨[some (jz r,false)],rfl,rfl,rfl,?_⟩
    simp [iw,jc,sIf,jw,sNew,jr,m7,sNx,g8,sGo,dw,m9,dz,fu,jf,gq,uc,u6,mOr,jm,mIf,mOp,mUn,bw,gb,ak,d9,aq,ji,dj,dh,hName,m5,gn,jy,ltT,leT,ql,lu,tu,m6,j6,qb,sy,jh,j5,d8,qx,h r hr]
theorem ad7:a4y [.bl true]=some (.int 1):=rfl
theorem aco:a4y [.bl false]=some (.int 0):=rfl
theorem forms {Q:Sm→Prop} {d:Nat} {r:Rem} (h:OkR Q d r):∀ k,d<k→j9 k [jz r] sto=some (pfT r,sto)∧iz k [jz r] sto=some (agT r,sto):=by
  induction h with
  | @most d s h _ =>
    intro k hk
    obtain ⟨k,rfl⟩:∃ j,k=j+1:=⟨k - 1,by omega⟩
    have e:=abh (sto:=sto) h
    constructor
    · unfold j9 jz pfT
      exact (zrun (n:=2) (zq (zs (zo rfl rfl rfl)) (zq (ze (zt (zo rfl rfl Qg)) rfl) (zq (ze (zt (zo rfl rfl M8)) rfl) (zq (ze (zt (zo rfl rfl a4h)) rfl) (zr rfl))))) rfl)
    · unfold iz jz agT
      exact (zrun (n:=2) (zq (zs (zo rfl rfl rfl)) (zqr (zk (zt (zo rfl rfl Dc)) (zr (zm (zc rfl (zc (zf (zc rfl (zc (zo rfl rfl rfl) rfl)) e) rfl)) rfl))))) rfl)
  | @rest d s m h _ a b =>
    intro k hk
    obtain ⟨k,rfl⟩:∃ j,k=j+1:=⟨k - 1,by omega⟩
    constructor
    · unfold j9 jz pfT
      exact (zrun (n:=2) (zq (zs (zo rfl rfl rfl)) (zq (ze (zt (zo rfl rfl Qh)) rfl) (zq (ze (zt (zo rfl rfl Mj)) rfl) (zq (ze (zt (zo rfl rfl a5h)) rfl) (zr rfl))))) rfl)
    · have c1:=a1b (sto:=sto) (f:=vo) (o:=some (.str "rest",false)) (a8z h) a b
      have c2:=c1
      unfold iz jz agT
      exact (zrun (n:=2) (zq (zs (zo rfl rfl rfl)) (zq (ze (zt (zo rfl rfl Dl)) rfl) (zqr (zk (zt (zo rfl rfl Di)) (zr (zm (zc rfl (zc (zm (zc c1 rfl) rfl) rfl)) rfl)))))) rfl)
  | @pl d h p ho hl =>
    intro k hk
    obtain ⟨k,rfl⟩:∃ j,k=j+1:=⟨k - 1,by omega⟩
    have l1:("@" : Str).length=1:=by decide +kernel
    have bl:("@" : Str).length+h.length<lim:=by show _<1000000; omega
    have pb:=Je (sto:=sto) hl
    constructor
    · unfold j9 jz pfT
      exact (zrun (n:=2) (zq (zs (zo rfl rfl rfl)) (zqr (zk (zt (zo rfl rfl Ef)) (zr (zf (zc (zf (zc (zo rfl rfl rfl) rfl) pb) (zc (zo rfl rfl rfl) rfl)) rfl))))) rfl)
    · unfold iz jz agT
      exact (zrun (n:=2) (zq (zs (zo rfl rfl rfl)) (zq (ze (zt (zo rfl rfl Cu)) rfl) (zq (ze (zt (zo rfl rfl Cw)) rfl) (zqr (zk (zt (zo rfl rfl Ef)) (zr (zf (zc (zf (zc (zo rfl rfl rfl) rfl) pb) (zc (zo rfl rfl rfl) rfl)) rfl))))))) rfl)
  | @all d l hl _ ih =>
    intro k hk
    obtain ⟨k,rfl⟩:∃ j,k=j+1:=⟨k - 1,by omega⟩
    have c1:=Bu (sto:=sto) (F:=j9 k) (w := "and") (g:=pfT) (o:=some (.str "and",false)) hl fun r hr=>(ih r hr k (by omega)).1
    have c2:=Bu (sto:=sto) (F:=iz k) (w := "and") (g:=agT) (o:=some (.str "and",false)) hl fun r hr=>(ih r hr k (by omega)).2
    constructor
    · unfold j9 jz pfT
      rw [wg,Gb]
      exact (zrun (n:=2) (zq (zs (zo rfl rfl rfl)) (zq (ze (zt (zo rfl rfl Dg)) rfl) (zq (ze (zt (zo rfl rfl Cy)) rfl) (zqr (zk (zt (zo rfl rfl a7w)) (zr (zm (zc rfl (zc (zm (zc c1 rfl) rfl) rfl)) rfl))))))) rfl)
    · unfold iz jz agT
      rw [wg,Ge]
      exact (zrun (n:=2) (zq (zs (zo rfl rfl rfl)) (zq (ze (zt (zo rfl rfl Ey)) rfl) (zq (ze (zt (zo rfl rfl Eu)) rfl) (zq (ze (zt (zo rfl rfl Dg)) rfl) (zq (ze (zt (zo rfl rfl Cy)) rfl) (zr (zm (zc (zun rfl rfl) (zc (zm (zc c2 rfl) rfl) rfl)) rfl))))))) rfl)
  | @any d l hl _ ih =>
    intro k hk
    obtain ⟨k,rfl⟩:∃ j,k=j+1:=⟨k - 1,by omega⟩
    have c1:=Bu (sto:=sto) (F:=j9 k) (w := "or") (g:=pfT) (o:=some (.str "or",false)) hl fun r hr=>(ih r hr k (by omega)).1
    have c2:=Bu (sto:=sto) (F:=iz k) (w := "or") (g:=agT) (o:=some (.str "or",false)) hl fun r hr=>(ih r hr k (by omega)).2
    constructor
    · unfold j9 jz pfT
      rw [wg,Gb]
      exact (zrun (n:=2) (zq (zs (zo rfl rfl rfl)) (zq (ze (zt (zo rfl rfl Gg)) rfl) (zq (ze (zt (zo rfl rfl Ew)) rfl) (zqr (zk (zt (zo rfl rfl ac1)) (zr (zm (zc rfl (zc (zm (zc c1 rfl) rfl) rfl)) rfl))))))) rfl)
    · unfold iz jz agT
      rw [wg,Ge]
      exact (zrun (n:=2) (zq (zs (zo rfl rfl rfl)) (zq (ze (zt (zo rfl rfl Hh)) rfl) (zq (ze (zt (zo rfl rfl Hr)) rfl) (zq (ze (zt (zo rfl rfl Gg)) rfl) (zq (ze (zt (zo rfl rfl Ew)) rfl) (zr (zm (zc (zun rfl rfl) (zc (zm (zc c2 rfl) rfl) rfl)) rfl))))))) rfl)
  | @no d r _ ih =>
    intro k hk
    obtain ⟨k,rfl⟩:∃ j,k=j+1:=⟨k - 1,by omega⟩
    obtain ⟨i1,i2⟩:=ih k (by omega)
    constructor
    · unfold j9 jz pfT
      exact (zrun (n:=2) (zq (zs (zo rfl rfl rfl)) (zq (ze (zt (zo rfl rfl Dk)) rfl) (zqr (zk (zt (zo rfl rfl Cr)) (zr (zf (zc (zo rfl rfl rfl) rfl) i2)))))) rfl)
    · unfold iz jz agT
      exact (zrun (n:=2) (zq (zs (zo rfl rfl rfl)) (zq (ze (zt (zo rfl rfl Ez)) rfl) (zq (ze (zt (zo rfl rfl Fd)) rfl) (zq (ze (zt (zo rfl rfl Dk)) rfl) (zqr (zk (zt (zo rfl rfl Cr)) (zr (zf (zc (zo rfl rfl rfl) rfl) i1)))))))) rfl)
theorem Bj {Q:Sm→Prop} {d:Nat} {r:Rem} (h:OkR Q d r):∀ k,d<k→ig k [jz r] sto=some (pfT r,sto)∧j4 k [jz r] sto=some (agT r,sto):=by
  induction h with
  | @most d s h _ =>
    intro k hk
    obtain ⟨k,rfl⟩:∃ j,k=j+1:=⟨k - 1,by omega⟩
    have e:=a9x (sto:=sto) h
    constructor
    · unfold ig jz pfT
      exact (zrun (n:=2) (zq (ze (zt (zo (zo rfl rfl rfl) rfl Qg)) rfl) (zq (ze (zt (zo (zo rfl rfl rfl) rfl M8)) rfl) (zq (ze (zt (zo (zo rfl rfl rfl) rfl a4h)) rfl) (zr rfl)))) rfl)
    · unfold j4 jz agT
      exact (zrun (n:=2) (zqr (zk (zt (zo (zo rfl rfl rfl) rfl Dc)) (zr (zm (zc rfl (zc (zf (zc rfl (zc (zo rfl rfl rfl) (zc (zun rfl rfl) rfl))) e) rfl)) rfl)))) rfl)
  | @rest d s m h _ a b =>
    intro k hk
    obtain ⟨k,rfl⟩:∃ j,k=j+1:=⟨k - 1,by omega⟩
    constructor
    · unfold ig jz pfT
      exact (zrun (n:=2) (zq (ze (zt (zo (zo rfl rfl rfl) rfl Qh)) rfl) (zq (ze (zt (zo (zo rfl rfl rfl) rfl Mj)) rfl) (zq (ze (zt (zo (zo rfl rfl rfl) rfl a5h)) rfl) (zr rfl)))) rfl)
    · have c1:=Q9 (sto:=sto) (o:=some (.str "rest",false)) h a b
      have c2:=Q9 (sto:=sto) (o:=none) h a b
      unfold j4 jz agT
      exact (zrun (n:=2) (zq (ze (zt (zo (zo rfl rfl rfl) rfl Dl)) rfl) (zqr (zk (zt (zo (zo rfl rfl rfl) rfl Di)) (zr (zm (zc rfl (zc (zm (zc c2 rfl) rfl) rfl)) rfl))))) rfl)
  | @pl d h p ho hl =>
    intro k hk
    obtain ⟨k,rfl⟩:∃ j,k=j+1:=⟨k - 1,by omega⟩
    have l1:("@" : Str).length=1:=by decide +kernel
    have bl:("@" : Str).length+h.length<lim:=by show _<1000000; omega
    have pb:=Je (sto:=sto) hl
    constructor
    · unfold ig jz pfT
      exact (zrun (n:=2) (zqr (zk (zt (zo (zo rfl rfl rfl) rfl Ef)) (zq (zs (zo rfl (zo rfl rfl rfl) (ad bl))) (zr (zm (zc rfl (zc (zm (zc (zm (zc rfl (zc (zm (zc (zun (zo rfl rfl rfl) rfl) rfl) rfl) rfl)) rfl) (zc (zm (zc rfl (zc (zm (zc (zo rfl rfl rfl) (zc (zm (zc (zm (zc rfl (zc (zun rfl rfl) rfl)) rfl) rfl) rfl) rfl)) rfl) rfl)) rfl) rfl)) rfl) rfl)) rfl))))) rfl)
    · unfold j4 jz agT
      exact (zrun (n:=2) (zq (ze (zt (zo (zo rfl rfl rfl) rfl Cu)) rfl) (zq (ze (zt (zo (zo rfl rfl rfl) rfl Cw)) rfl) (zqr (zk (zt (zo (zo rfl rfl rfl) rfl Ef)) (zq (zs (zo rfl (zo rfl rfl rfl) (ad bl))) (zr (zm (zc rfl (zc (zm (zc (zm (zc rfl (zc (zm (zc (zo rfl (zo rfl rfl rfl) rfl) rfl) rfl) rfl)) rfl) (zc (zm (zc rfl (zc (zm (zc (zo (zo rfl rfl rfl) rfl rfl) (zc (zm (zc (zm (zc rfl (zc (zun rfl rfl) rfl)) rfl) rfl) rfl) rfl)) rfl) rfl)) rfl) rfl)) rfl) rfl)) rfl))))))) rfl)
  | @all d l hl _ ih =>
    intro k hk
    obtain ⟨k,rfl⟩:∃ j,k=j+1:=⟨k - 1,by omega⟩
    have c1:=Bu (sto:=sto) (F:=ig k) (w := "and") (g:=pfT) (o:=none) hl fun r hr=>(ih r hr k (by omega)).1
    have c2:=Bu (sto:=sto) (F:=j4 k) (w := "and") (g:=agT) (o:=none) hl fun r hr=>(ih r hr k (by omega)).2
    constructor
    · unfold ig jz pfT
      rw [wg,Gb]
      exact (zrun (n:=2) (zq (ze (zt (zo (zo rfl rfl rfl) rfl Dg)) rfl) (zq (ze (zt (zo (zo rfl rfl rfl) rfl Cy)) rfl) (zqr (zk (zt (zo (zo rfl rfl rfl) rfl a7w)) (zr (zm (zc (zo rfl rfl rfl) (zc (zm (zc c1 rfl) rfl) rfl)) rfl)))))) rfl)
    · unfold j4 jz agT
      rw [wg,Ge]
      exact (zrun (n:=2) (zq (ze (zt (zo (zo rfl rfl rfl) rfl Ey)) rfl) (zq (ze (zt (zo (zo rfl rfl rfl) rfl Eu)) rfl) (zq (ze (zt (zo (zo rfl rfl rfl) rfl Dg)) rfl) (zq (ze (zt (zo (zo rfl rfl rfl) rfl Cy)) rfl) (zr (zm (zc (zo rfl (zm (zc (zo (zo rfl rfl rfl) rfl Yp) rfl) rfl) rfl) (zc (zm (zc c2 rfl) rfl) rfl)) rfl)))))) rfl)
  | @any d l hl _ ih =>
    intro k hk
    obtain ⟨k,rfl⟩:∃ j,k=j+1:=⟨k - 1,by omega⟩
    have c1:=Bu (sto:=sto) (F:=ig k) (w := "or") (g:=pfT) (o:=none) hl fun r hr=>(ih r hr k (by omega)).1
    have c2:=Bu (sto:=sto) (F:=j4 k) (w := "or") (g:=agT) (o:=none) hl fun r hr=>(ih r hr k (by omega)).2
    constructor
    · unfold ig jz pfT
      rw [wg,Gb]
      exact (zrun (n:=2) (zq (ze (zt (zo (zo rfl rfl rfl) rfl Gg)) rfl) (zq (ze (zt (zo (zo rfl rfl rfl) rfl Ew)) rfl) (zqr (zk (zt (zo (zo rfl rfl rfl) rfl ac1)) (zr (zm (zc (zo rfl rfl rfl) (zc (zm (zc c1 rfl) rfl) rfl)) rfl)))))) rfl)
    · unfold j4 jz agT
      rw [wg,Ge]
      exact (zrun (n:=2) (zq (ze (zt (zo (zo rfl rfl rfl) rfl Hh)) rfl) (zq (ze (zt (zo (zo rfl rfl rfl) rfl Hr)) rfl) (zq (ze (zt (zo (zo rfl rfl rfl) rfl Gg)) rfl) (zq (ze (zt (zo (zo rfl rfl rfl) rfl Ew)) rfl) (zr (zm (zc (zo rfl (zm (zc (zo (zo rfl rfl rfl) rfl a2n) rfl) rfl) rfl) (zc (zm (zc c2 rfl) rfl) rfl)) rfl)))))) rfl)
  | @no d r _ ih =>
    intro k hk
    obtain ⟨k,rfl⟩:∃ j,k=j+1:=⟨k - 1,by omega⟩
    obtain ⟨i1,i2⟩:=ih k (by omega)
    constructor
    · unfold ig jz pfT
      exact (zrun (n:=2) (zq (ze (zt (zo (zo rfl rfl rfl) rfl Dk)) rfl) (zqr (zk (zt (zo (zo rfl rfl rfl) rfl Cr)) (zr (zf (zc (zo rfl rfl rfl) rfl) i2))))) rfl)
    · unfold j4 jz agT
      exact (zrun (n:=2) (zq (ze (zt (zo (zo rfl rfl rfl) rfl Ez)) rfl) (zq (ze (zt (zo (zo rfl rfl rfl) rfl Fd)) rfl) (zq (ze (zt (zo (zo rfl rfl rfl) rfl Dk)) rfl) (zqr (zk (zt (zo (zo rfl rfl rfl) rfl Cr)) (zr (zf (zc (zo rfl rfl rfl) rfl) i1))))))) rfl)
end
end K
end
noncomputable section
set_option linter.all false
set_option maxRecDepth 100000
set_option maxHeartbeats 1000000
set_option autoImplicit false
namespace K
open C PySem
noncomputable def Bd (s:Sm):Prop:=∀ p∈s.2,Dw p.2=true
noncomputable def pu (D:List (Str × Sm)) (s:Sm):Sm:=(s.1+pN D s.2,canon U3 (pF D s.2))
theorem a9b {D:List (Str × Sm)} {s:Sm}:Bp U3 (pu D s):=Fi nd3
mutual
noncomputable def bh (D:List (Str × Sm)) (h:Str) (to:Int):Rem→Rem
  | .most s=>.most (pu D s)
  | .rest s m=>.rest (pu D s) m
  | .pl k p=>if k=h then (if p=to then .all [] else .any []) else .pl k p
  | .all l=>.all (bhs D h to l)
  | .any l=>.any (bhs D h to l)
  | .no r=>.no (bh D h to r)
noncomputable def bhs (D:List (Str × Sm)) (h:Str) (to:Int):List Rem→List Rem
  | []=>[]
  | r::l=>bh D h to r::bhs D h to l
end
theorem Jt {D:List (Str × Sm)} {h:Str} {to:Int}:∀ l:List Rem,bhs D h to l=l.map (bh D h to)
  | []=>by rw [bhs]; rfl
  | r::l=>by rw [bhs,Jt l]; rfl
noncomputable def Tr (_:Sm):Prop:=True
theorem a67 {D:List (Str × Sm)} {h:Str} {to:Int} {d:Nat} {r:Rem} (o:OkR Bd d r):OkR Tr (d+1) (bh D h to r):=by
  induction o with
  | most a b=>unfold bh; exact .most a9b trivial
  | rest a b c e=>unfold bh; exact .rest a9b trivial c e
  | pl a b =>
    unfold bh
    split
    · split
      · exact .all (by simp) (fun r hr=>by cases hr)
      · exact .any (by simp) (fun r hr=>by cases hr)
    · exact .pl a b
  | all a _ ih =>
    unfold bh
    rw [Jt]
    refine .all (by rw [List.length_map]; exact a) fun r hr=>?_
    obtain ⟨x,hx,rfl⟩:=List.mem_map.mp hr
    exact ih x hx
  | any a _ ih =>
    unfold bh
    rw [Jt]
    refine .any (by rw [List.length_map]; exact a) fun r hr=>?_
    obtain ⟨x,hx,rfl⟩:=List.mem_map.mp hr
    exact ih x hx
  | no _ ih=>unfold bh; exact .no ih
theorem aaq {l:List Rem}:jz (.all l)=.tup [.str "and",.tup (l.map jz)]:=by unfold jz; rw [wg]
theorem aaw {l:List Rem}:jz (.any l)=.tup [.str "or",.tup (l.map jz)]:=by unfold jz; rw [wg]
theorem ac0 {D:List (Str × Sm)} {h:Str} {to:Int} {l:List Rem}:jz (bh D h to (.all l))=.tup [.str "and",.tup ((l.map (bh D h to)).map jz)]:=by
  have:bh D h to (.all l)=.all (l.map (bh D h to)):=by unfold bh; rw [Jt]
  rw [this,aaq]
theorem ac7 {D:List (Str × Sm)} {h:Str} {to:Int} {l:List Rem}:jz (bh D h to (.any l))=.tup [.str "or",.tup ((l.map (bh D h to)).map jz)]:=by
  have:bh D h to (.any l)=.any (l.map (bh D h to)):=by unfold bh; rw [Jt]
  rw [this,aaw]
noncomputable section
variable {sto:List SO} {D:List (Str × Sm)} {h:Str} {to:Int}
theorem Ti {k:Str} {p:Int} (ok:okS k) (oh:okS h):qz [.tup [.str "at",.str k,.int p],.str h,.int to] sto=some (jz (bh D h to (.pl k p)),sto):=by
  have e:=Zr ok oh
  unfold bh
  by_cases c:k=h
  · have c':(k==h)=true:=by rw [c]; exact beq_self_eq_true _
    rw [if_pos c]
    rw [c'] at e
    by_cases q:p=to
    · have q':(p==to)=true:=by rw [q]; exact beq_self_eq_true _
      rw [if_pos q]
      simp [iw,jc,sIf,jw,sNew,jr,m7,sNx,g8,sGo,dw,m9,dz,fu,jf,gq,uc,u6,mOr,jm,mIf,mOp,mUn,bw,gb,ak,d9,aq,ji,dj,dh,hName,m5,gn,jy,ltT,leT,ql,lu,tu,m6,j6,qb,sy,jh,j5,d8,qx,qz,wu,Cg,e,Ej,q',jz,Lx]
    · have q':(p==to)=false:=beq_eq_false_iff_ne.mpr q
      rw [if_neg q]
      simp [iw,jc,sIf,jw,sNew,jr,m7,sNx,g8,sGo,dw,m9,dz,fu,jf,gq,uc,u6,mOr,jm,mIf,mOp,mUn,bw,gb,ak,d9,aq,ji,dj,dh,hName,m5,gn,jy,ltT,leT,ql,lu,tu,m6,j6,qb,sy,jh,j5,d8,qx,qz,wu,Cg,e,Ej,q',jz,Lx]
  · have c':(k==h)=false:=beq_eq_false_iff_ne.mpr c
    rw [if_neg c]
    rw [c'] at e
    simp [iw,jc,sIf,jw,sNew,jr,m7,sNx,g8,sGo,dw,m9,dz,fu,jf,gq,uc,u6,mOr,jm,mIf,mOp,mUn,bw,gb,ak,d9,aq,ji,dj,dh,hName,m5,gn,jy,ltT,leT,ql,lu,tu,m6,j6,qb,sy,jh,j5,d8,qx,qz,wu,Cg,e,jz]
theorem Mr {k:Nat} {w:Str} {l:List Rem} (hl:l.length≤6) (ih:∀ r∈l,jl k [jz r,.str h,.dic (dS D),.int to] sto=some (jz (bh D h to r),sto)) :
    p7 1 [1,2,3] (hName 0) (jy (mOp bx (bw 0) (aq (.int 1)))) j5 (dj (jl k) (ak (bw 0) (ak (bw 1) (ak (bw 2) (ak (bw 3) d9))))) ⟨[some (.tup [.str w,.tup (l.map jz)],false),some (.str h,false),some (.dic (dS D),false),some (.int to,false),some (.str w,false)],sto⟩
      = some (.lst ((l.map (bh D h to)).map jz),⟨[some (.tup [.str w,.tup (l.map jz)],false),some (.str h,false),some (.dic (dS D),false),some (.int to,false),some (.str w,false)],sto⟩):=by
  have lm:l.length<lim:=by show _<1000000; omega
  rw [List.map_map]
  refine uw jz _ l (s1:=⟨[some (.tup [.str w,.tup (l.map jz)],false),some (.str h,false),some (.dic (dS D),false),some (.int to,false),some (.str w,false)],sto⟩) _ [some (.str h,false),some (.dic (dS D),false),some (.int to,false)] (by simp [iw,jc,sIf,jw,sNew,jr,m7,sNx,g8,sGo,dw,m9,dz,fu,jf,gq,uc,u6,mOr,jm,mIf,mOp,mUn,bw,gb,ak,d9,aq,ji,dj,dh,hName,m5,gn,jy,ltT,leT,ql,lu,tu,m6,j6,qb,sy,jh,j5,d8,qx,wu,lm]) rfl rfl rfl (Nat.le_of_lt lm) ?_
  intro r hr pre hpre
  match pre,hpre with
  | [a],_ =>
    refine ⟨[some (jz r,false)],rfl,rfl,rfl,?_⟩
    dsimp only [Function.comp]
    simp [iw,jc,sIf,jw,sNew,jr,m7,sNx,g8,sGo,dw,m9,dz,fu,jf,gq,uc,u6,mOr,jm,mIf,mOp,mUn,bw,gb,ak,d9,aq,ji,dj,dh,hName,m5,gn,jy,ltT,leT,ql,lu,tu,m6,j6,qb,sy,jh,j5,d8,qx,ih r hr]
theorem Tt (oh:okS h) (hD:∀ p∈D,Bp U3 p.2) {d:Nat} {r:Rem} (o:OkR Bd d r):∀ k,d<k→jl k [jz r,.str h,.dic (dS D),.int to] sto=some (jz (bh D h to r),sto):=by
  induction o with
  | @most d s a b =>
    intro k hk
    obtain ⟨k,rfl⟩:∃ j,k=j+1:=⟨k - 1,by omega⟩
    have e:=put (sto:=sto) a5s nd3 a hD b
    unfold jl jz bh
    exact (zrun (n:=5) (zq (zs (zo rfl rfl rfl)) (zqr (zk (zt (zo rfl rfl Dc)) (zr (zm (zc rfl (zc (zf (zc (zo rfl rfl rfl) rfl) e) rfl)) rfl))))) rfl)
  | @rest d s m a b c f =>
    intro k hk
    obtain ⟨k,rfl⟩:∃ j,k=j+1:=⟨k - 1,by omega⟩
    have e:=put (sto:=sto) a5s nd3 a hD b
    unfold jl jz bh
    exact (zrun (n:=5) (zq (zs (zo rfl rfl rfl)) (zq (ze (zt (zo rfl rfl Dl)) rfl) (zqr (zk (zt (zo rfl rfl Di)) (zr (zm (zc rfl (zc (zf (zc (zo rfl rfl rfl) rfl) e) (zc (zo rfl rfl rfl) rfl))) rfl)))))) rfl)
  | @pl d k p a b =>
    intro n hk
    obtain ⟨n,rfl⟩:∃ j,n=j+1:=⟨n - 1,by omega⟩
    have e:=Ti (sto:=sto) (D:=D) (h:=h) (to:=to) (p:=p) a oh
    generalize jz (bh D h to (.pl k p))=z at *
    unfold jl jz
    exact (zrun (n:=5) (zq (zs (zo rfl rfl rfl)) (zq (ze (zt (zo rfl rfl Cu)) rfl) (zq (ze (zt (zo rfl rfl Cw)) rfl) (zqr (zk (zt (zo rfl rfl Ef)) (zr (zf rfl e))))))) rfl)
  | @all d l hl _ ih =>
    intro k hk
    obtain ⟨k,rfl⟩:∃ j,k=j+1:=⟨k - 1,by omega⟩
    have e:=Mr (sto:=sto) (w := "and") hl fun r hr=>ih r hr k (by omega)
    rw [aaq,ac0]
    unfold jl
    exact (zrun (n:=5) (zq (zs (zo rfl rfl rfl)) (zq (ze (zt (zo rfl rfl Ey)) rfl) (zq (ze (zt (zo rfl rfl Eu)) rfl) (zq (ze (zt (zo rfl rfl Dg)) rfl) (zq (ze (zt (zo rfl rfl Cy)) rfl) (zr (zm (zc rfl (zc (zm (zc e rfl) rfl) rfl)) rfl))))))) rfl)
  | @any d l hl _ ih =>
    intro k hk
    obtain ⟨k,rfl⟩:∃ j,k=j+1:=⟨k - 1,by omega⟩
    have e:=Mr (sto:=sto) (w := "or") hl fun r hr=>ih r hr k (by omega)
    rw [aaw,ac7]
    unfold jl
    exact (zrun (n:=5) (zq (zs (zo rfl rfl rfl)) (zq (ze (zt (zo rfl rfl Hh)) rfl) (zq (ze (zt (zo rfl rfl Hr)) rfl) (zq (ze (zt (zo rfl rfl Gg)) rfl) (zq (ze (zt (zo rfl rfl Ew)) rfl) (zr (zm (zc rfl (zc (zm (zc e rfl) rfl) rfl)) rfl))))))) rfl)
  | @no d r _ ih =>
    intro k hk
    obtain ⟨k,rfl⟩:∃ j,k=j+1:=⟨k - 1,by omega⟩
    have e:=ih k (by omega)
    unfold jl jz bh
    exact (zrun (n:=5) (zq (zs (zo rfl rfl rfl)) (zq (ze (zt (zo rfl rfl Ez)) rfl) (zq (ze (zt (zo rfl rfl Fd)) rfl) (zq (ze (zt (zo rfl rfl Dk)) rfl) (zqr (zk (zt (zo rfl rfl Cr)) (zr (zm (zc rfl (zc (zf (zc (zo rfl rfl rfl) rfl) e) rfl)) rfl)))))))) rfl)
end
end K
end
noncomputable section
set_option linter.all false
set_option maxRecDepth 100000
set_option maxHeartbeats 1000000
set_option autoImplicit false
namespace K
open C PySem
noncomputable section
variable {sto:List SO} {D:List (Str × Sm)} {h:Str} {to here:Int} {g:T}
theorem a5p {a b c d e:T} {r:List T}:bx (.tup (a::b::c::d::e::r)) (.int 4)=some e:=Kh (k:=4) rfl
noncomputable def stT (h:Str) (here:Int) (g:T) (D:List (Str × Sm)) (to:Int):T:=.tup [.str h,.int here,g,.tup (D.map seT),.int to]
theorem st0:bx (stT h here g D to) (.int 0)=some (.str h):=yc
theorem st1:bx (stT h here g D to) (.int 1)=some (.int here):=wu
theorem st2:bx (stT h here g D to) (.int 2)=some g:=Cg
theorem st3:bx (stT h here g D to) (.int 3)=some (.tup (D.map seT)):=Vp
theorem st4:bx (stT h here g D to) (.int 4)=some (.int to):=a5p
theorem oa1:bx (.lst [.str "or",.str "and"]) (.int 1)=some (.str "and"):=rfl
theorem oa0:bx (.lst [.str "or",.str "and"]) (.int 0)=some (.str "or"):=rfl
theorem Jj {k:Nat} {w:Str} {l:List Rem} (hl:l.length≤6) (ih:∀ r∈l,jg k [jz r,stT h here g D to] sto=some (jz (bh D h to r),sto)) :
    p7 1 [1] (hName 0) (jy (mOp bx (bw 0) (aq (.int 1)))) j5 (dj (jg k) (ak (bw 0) (ak (bw 1) d9))) ⟨[some (.tup [.str w,.tup (l.map jz)],false),some (stT h here g D to,false)],sto⟩
      = some (.lst ((l.map (bh D h to)).map jz),⟨[some (.tup [.str w,.tup (l.map jz)],false),some (stT h here g D to,false)],sto⟩):=by
  have lm:l.length<lim:=by show _<1000000; omega
  rw [List.map_map]
  refine uw jz _ l (s1:=⟨[some (.tup [.str w,.tup (l.map jz)],false),some (stT h here g D to,false)],sto⟩) _ [some (stT h here g D to,false)] (by simp [iw,jc,sIf,jw,sNew,jr,m7,sNx,g8,sGo,dw,m9,dz,fu,jf,gq,uc,u6,mOr,jm,mIf,mOp,mUn,bw,gb,ak,d9,aq,ji,dj,dh,hName,m5,gn,jy,ltT,leT,ql,lu,tu,m6,j6,qb,sy,jh,j5,d8,qx,wu,lm]) rfl rfl rfl (Nat.le_of_lt lm) ?_
  intro r hr pre hpre
  match pre,hpre with
  | [a],_ =>
    refine ⟨[some (jz r,false)],rfl,rfl,rfl,?_⟩
    dsimp only [Function.comp]
    simp [iw,jc,sIf,jw,sNew,jr,m7,sNx,g8,sGo,dw,m9,dz,fu,jf,gq,uc,u6,mOr,jm,mIf,mOp,mUn,bw,gb,ak,d9,aq,ji,dj,dh,hName,m5,gn,jy,ltT,leT,ql,lu,tu,m6,j6,qb,sy,jh,j5,d8,qx,ih r hr]
theorem X7 (oh:okS h) (hl':D.length<1000) (hn:(D.map (·.1)).Nodup) (hD:∀ p∈D,Bp U3 p.2) {d:Nat} {r:Rem} (o:OkR Bd d r):∀ k,d<k→jg k [jz r,stT h here g D to] sto=some (jz (bh D h to r),sto):=by
  induction o with
  | @most d s a b =>
    intro k hk
    obtain ⟨k,rfl⟩:∃ j,k=j+1:=⟨k - 1,by omega⟩
    have e:=a1i (sto:=sto) a5s nd3 a hl' hn hD b
    unfold jg jz bh
    exact (zrun (n:=2) (zqr (zk (zt (zo (zo rfl rfl rfl) rfl Dc)) (zr (zm (zc rfl (zc (zf (zc (zo rfl rfl rfl) (zc (zo rfl rfl rfl) rfl)) e) rfl)) rfl)))) rfl)
  | @rest d s m a b c f =>
    intro k hk
    obtain ⟨k,rfl⟩:∃ j,k=j+1:=⟨k - 1,by omega⟩
    have e:=a1i (sto:=sto) a5s nd3 a hl' hn hD b
    unfold jg jz bh
    exact (zrun (n:=2) (zq (ze (zt (zo (zo rfl rfl rfl) rfl Dl)) rfl) (zqr (zk (zt (zo (zo rfl rfl rfl) rfl Di)) (zr (zm (zc rfl (zc (zf (zc (zo rfl rfl rfl) (zc (zo rfl rfl rfl) rfl)) e) (zc (zo rfl rfl rfl) rfl))) rfl))))) rfl)
  | @pl d k p a b =>
    intro n hk
    obtain ⟨n,rfl⟩:∃ j,n=j+1:=⟨n - 1,by omega⟩
    have e:=T5 a oh
    unfold bh
    by_cases c:k=h
    · have c':(k==h)=true:=by rw [c]; exact beq_self_eq_true _
      rw [if_pos c]
      rw [c'] at e
      by_cases q:p=to
      · have q':(p==to)=true:=by rw [q]; exact beq_self_eq_true _
        rw [if_pos q]
        unfold jg jz
        simp [iw,jc,sIf,jw,sNew,jr,m7,sNx,g8,sGo,dw,m9,dz,fu,jf,gq,uc,u6,mOr,jm,mIf,mOp,mUn,bw,gb,ak,d9,aq,ji,dj,dh,hName,m5,gn,jy,ltT,leT,ql,lu,tu,m6,j6,qb,sy,jh,j5,d8,qx,yc,wu,Cg,Cu,Cw,Ef,Pj,Nu,V2,st0,st4,e,Ej,q',ad7,oa1,Lx]
      · have q':(p==to)=false:=beq_eq_false_iff_ne.mpr q
        rw [if_neg q]
        unfold jg jz
        simp [iw,jc,sIf,jw,sNew,jr,m7,sNx,g8,sGo,dw,m9,dz,fu,jf,gq,uc,u6,mOr,jm,mIf,mOp,mUn,bw,gb,ak,d9,aq,ji,dj,dh,hName,m5,gn,jy,ltT,leT,ql,lu,tu,m6,j6,qb,sy,jh,j5,d8,qx,yc,wu,Cg,Cu,Cw,Ef,Pj,Nu,V2,st0,st4,e,Ej,q',aco,oa0,Lx]
    · have c':(k==h)=false:=beq_eq_false_iff_ne.mpr c
      rw [if_neg c]
      rw [c'] at e
      unfold jg jz
      simp [iw,jc,sIf,jw,sNew,jr,m7,sNx,g8,sGo,dw,m9,dz,fu,jf,gq,uc,u6,mOr,jm,mIf,mOp,mUn,bw,gb,ak,d9,aq,ji,dj,dh,hName,m5,gn,jy,ltT,leT,ql,lu,tu,m6,j6,qb,sy,jh,j5,d8,qx,yc,wu,Cu,Cw,Ef,Pj,Nu,V2,st0,e]
  | @all d l hl _ ih =>
    intro k hk
    obtain ⟨k,rfl⟩:∃ j,k=j+1:=⟨k - 1,by omega⟩
    have e:=Jj (sto:=sto) (w := "and") hl fun r hr=>ih r hr k (by omega)
    rw [aaq,ac0]
    unfold jg
    exact (zrun (n:=2) (zq (ze (zt (zo (zo rfl rfl rfl) rfl Ey)) rfl) (zq (ze (zt (zo (zo rfl rfl rfl) rfl Eu)) rfl) (zq (ze (zan (zt (zo (zo rfl rfl rfl) rfl Dg))) rfl) (zq (ze (zt (zo (zo rfl rfl rfl) rfl Dg)) rfl) (zq (ze (zt (zo (zo rfl rfl rfl) rfl Cy)) rfl) (zr (zm (zc (zo rfl rfl rfl) (zc (zm (zc e rfl) rfl) rfl)) rfl))))))) rfl)
  | @any d l hl _ ih =>
    intro k hk
    obtain ⟨k,rfl⟩:∃ j,k=j+1:=⟨k - 1,by omega⟩
    have e:=Jj (sto:=sto) (w := "or") hl fun r hr=>ih r hr k (by omega)
    rw [aaw,ac7]
    unfold jg
    exact (zrun (n:=2) (zq (ze (zt (zo (zo rfl rfl rfl) rfl Hh)) rfl) (zq (ze (zt (zo (zo rfl rfl rfl) rfl Hr)) rfl) (zq (ze (zan (zt (zo (zo rfl rfl rfl) rfl Gg))) rfl) (zq (ze (zt (zo (zo rfl rfl rfl) rfl Gg)) rfl) (zq (ze (zt (zo (zo rfl rfl rfl) rfl Ew)) rfl) (zr (zm (zc (zo rfl rfl rfl) (zc (zm (zc e rfl) rfl) rfl)) rfl))))))) rfl)
  | @no d r _ ih =>
    intro k hk
    obtain ⟨k,rfl⟩:∃ j,k=j+1:=⟨k - 1,by omega⟩
    have e:=ih k (by omega)
    unfold jg jz bh
    exact (zrun (n:=2) (zq (ze (zt (zo (zo rfl rfl rfl) rfl Ez)) rfl) (zq (ze (zt (zo (zo rfl rfl rfl) rfl Fd)) rfl) (zq (ze (zan (zt (zo (zo rfl rfl rfl) rfl Dk))) rfl) (zq (ze (zt (zo (zo rfl rfl rfl) rfl Dk)) rfl) (zqr (zk (zt (zo (zo rfl rfl rfl) rfl Cr)) (zr (zm (zc rfl (zc (zf (zc (zo rfl rfl rfl) rfl) e) rfl)) rfl)))))))) rfl)
theorem behind (oh:okS h) (hl':D.length<1000) (hn:(D.map (·.1)).Nodup) (hD:∀ p∈D,Bp U3 p.2) {d:Nat} {r:Rem} (o:OkR Bd d r) (hd:d<40):Ad [jz r,.str h,.tup (D.map seT),.int to] sto=some (jz (bh D h to r),sto):=by
  have e:=Tt (sto:=sto) (to:=to) oh hD o 40 hd
  have di:=Zm hl' hn
  simp [iw,jc,sIf,jw,sNew,jr,m7,sNx,g8,sGo,dw,m9,dz,fu,jf,gq,uc,u6,mOr,jm,mIf,mOp,mUn,bw,gb,ak,d9,aq,ji,dj,dh,hName,m5,gn,jy,ltT,leT,ql,lu,tu,m6,j6,qb,sy,jh,j5,d8,qx,Ad,di,e]
end
end K
end
noncomputable section
set_option linter.all false
set_option maxRecDepth 100000
set_option maxHeartbeats 1000000
set_option autoImplicit false
namespace K
open C PySem
structure Bx where
  nm:Str
  ow:Str
  lo:Int
  hi:Int
  st:Int
noncomputable def bxT (b:Bx):T:=.tup [.str b.nm,.str b.ow,.int b.lo,.int b.hi,.int b.st]
noncomputable def wiT (lo hi:Int) (s:Sm):T:=.tup [.str "and",.tup [.tup [.str "most",smT (ls (lo,[]) s)],.tup [.str "most",smT (ls s (hi,[]))]]]
noncomputable def bAt:List Bx→Str→Int × Int
  | [],_=>(0,0)
  | b::r,x=>if b.nm=x then (b.lo,b.hi) else bAt r x
noncomputable def a9k (p:Int × Int):T:=.tup [.tup [.int p.1,.tup []],.tup [.int p.2,.tup []]]
noncomputable def dE (bs:List Bx):List (C.Key × T):=bs.map fun b=>(.inr b.nm,a9k (b.lo,b.hi))
noncomputable section
variable {sto:List SO} {D:List (Str × Sm)} {bs:List Bx}
theorem T7 {s:Sm} {lo hi:Int} (hs:Bp U3 s):uz [smT s,.tup [.int lo,.tup []],.tup [.int hi,.tup []]] sto=some (wiT lo hi s,sto):=by
  have e1:=abj (sto:=sto) (V5 (n:=lo)) hs
  rw [sm0] at e1
  have e2:=a8z (sto:=sto) hs hi
  generalize hm:vo=F at *
  unfold uz
  rw [hm]
  simp [iw,jc,sIf,jw,sNew,jr,m7,sNx,g8,sGo,dw,m9,dz,fu,jf,gq,uc,u6,mOr,jm,mIf,mOp,mUn,bw,gb,ak,d9,aq,ji,dj,dh,hName,m5,gn,jy,ltT,leT,ql,lu,tu,m6,j6,qb,sy,jh,j5,d8,qx,e1,e2,wiT]
theorem a4l {x:Str}:∀ {bs:List Bx},x∈bs.map (·.nm)→Lf (.inr x) (dE bs)=some (a9k (bAt bs x))
  | [],h=>by simp at h
  | b::r,h=>by
    show (if (Sum.inr b.nm:C.Key)=.inr x then some _ else Lf (.inr x) (dE r))=_
    unfold bAt
    by_cases e:b.nm=x
    · rw [if_pos (by rw [e]),if_pos e]
    · rw [if_neg (fun z=>e (Sum.inr.inj z)),if_neg e]
      refine a4l ?_
      rw [List.map_cons] at h
      rcases List.mem_cons.mp h with z | z
      · exact absurd z.symm e
      · exact z
theorem a7z {d:List Bx} {b:Bx} (h:∀ x∈d,¬ x.nm=b.nm):Lh (.inr b.nm) (a9k (b.lo,b.hi)) (dE d)=dE (d++[b]):=by
  unfold Lh
  rw [if_neg]
  · simp [dE]
  · simp only [dE,List.any_map,Bool.not_eq_true]
    rw [List.any_eq_false]
    intro x hx
    simp only [Function.comp,decide_eq_true_eq]
    exact fun z=>h x hx (Sum.inr.inj z)
theorem aae {i j k l m:Nat} {a b c d e:T} {s:Sta}:m5 [i,j,k,l,m] (.tup [a,b,c,d,e]) s=some (dh m e false (dh l d false (dh k c false (dh j b false (dh i a false s))))):=by simp [m5]
noncomputable abbrev sfB:S:=(Aq 2 (bw 3) (gb (fun l=>some (.tup l)) (ak (gb (fun l=>some (.tup l)) (ak (bw 5) (ak (gb (fun l=>some (.tup l)) d9) d9))) (ak (gb (fun l=>some (.tup l)) (ak (bw 6) (ak (gb (fun l=>some (.tup l)) d9) d9))) d9))))
noncomputable abbrev W5s:=Slot × Slot × Slot × Slot × Slot
noncomputable abbrev qs (A Z:T) (d:List Bx) (w:W5s) (sto:List SO):Sta:=⟨[some (A,false),some (Z,false),some (.dic (dE d),true),w.1,w.2.1,w.2.2.1,w.2.2.2.1,w.2.2.2.2],sto⟩
theorem a0u {A Z:T}:∀ (l d:List Bx) (w:W5s),((d++l).map (·.nm)).Nodup→d.length+l.length≤3→∃ w':W5s,forL (m5 [3,4,5,6,7]) sfB (l.map bxT) (qs A Z d w sto)=some (.next,qs A Z (d++l) w' sto)
  | [],d,w,_,_=>⟨w,by simp [forL]⟩
  | b::l,d,w,nd,hl=>by
    rw [List.length_cons] at hl
    have hne:∀ x∈d,¬ x.nm=b.nm:=by
      intro x hx z
      rw [List.map_append,List.nodup_append] at nd
      exact nd.2.2 x.nm (List.mem_map.mpr ⟨x,hx,rfl⟩) b.nm (by simp) z
    have hp:=a7z hne
    have hlt:(dE d).length<lim:=by unfold dE; rw [List.length_map]; show _<1000000; omega
    obtain ⟨w',ih⟩:=a0u (A:=A) (Z:=Z) l (d++[b]) (some (.str b.nm,false),some (.str b.ow,false),some (.int b.lo,false),some (.int b.hi,false),some (.int b.st,false)) (by rw [List.append_assoc]; exact nd) (by rw [List.length_append,List.length_singleton]; omega)
    rw [List.append_assoc] at ih
    exact ⟨w',(Z1 (t:=bxT b) (s1:=qs A Z d (some (.str b.nm,false),some (.str b.ow,false),some (.int b.lo,false),some (.int b.hi,false),some (.int b.st,false)) sto) aae (zw rfl rfl rfl rfl rfl hlt (by unfold a9k at hp; rw [hp]; rfl))).trans ih⟩
theorem Ys {P Q R:T} (nb:(bs.map (·.nm)).Nodup) (lb:bs.length≤3) (lD:D.length≤3) (hD:∀ p∈D,Bp U3 p.2∧p.1∈bs.map (·.nm)) :
    vm [.tup [.lst (bs.map bxT),P,Q,R],.tup (D.map seT)] sto=some (.lst (D.map fun p=>wiT (bAt bs p.1).1 (bAt bs p.1).2 p.2),sto):=by
  have l1:bs.length<lim:=by show _<1000000; omega
  have l2:D.length<lim:=by show _<1000000; omega
  generalize hA:T.tup [.lst (bs.map bxT),P,Q,R]=A
  have iA:bx A (.int 0)=some (.lst (bs.map bxT)):=by rw [← hA]; exact yc
  obtain ⟨w,L⟩:=a0u (sto:=sto) (A:=A) (Z:=.tup (D.map seT)) bs [] (none,none,none,none,none) nb (by rw [List.length_nil]; omega)
  have C1:p7 2 [2] (m5 [0,1]) (jy (bw 1)) j5 (dj uz (ak (bw 1) (ak (mOp bx (mOp bx (bw 2) (bw 0)) (aq (.int 0))) (ak (mOp bx (mOp bx (bw 2) (bw 0)) (aq (.int 1))) d9)))) (qs A (.tup (D.map seT)) bs w sto)=some (.lst (D.map fun p=>wiT (bAt bs p.1).1 (bAt bs p.1).2 p.2),⟨[some (A,false),some (.tup (D.map seT),false),some (.dic (dE bs),false),w.1,w.2.1,w.2.2.1,w.2.2.2.1,w.2.2.2.2],sto⟩):=by
    refine uw seT _ D (s1:=qs A (.tup (D.map seT)) bs w sto) _ [some (.dic (dE bs),false)] (by unfold jy; rw [show bw 1 (qs A (.tup (D.map seT)) bs w sto)=some (.tup (D.map seT),qs A (.tup (D.map seT)) bs w sto) from rfl]; dsimp only; rw [List.length_map,if_pos l2]) rfl rfl rfl (Nat.le_of_lt l2) ?_
    intro p hp pre hpre
    obtain ⟨ok,hm⟩:=hD p hp
    have g:bx (.dic (dE bs)) (.str p.1)=some (a9k (bAt bs p.1)):=a4l hm
    match pre,hpre with
    | [a,b],_=>exact ⟨[some (.str p.1,false),some (smT p.2,false)],rfl,Hf (x:=.str p.1) (y:=smT p.2),rfl,zf0 (zc rfl (zc (zo (zo rfl rfl g) rfl yc) (zc (zo (zo rfl rfl g) rfl wu) rfl))) (T7 ok)⟩
  exact zrun (n:=8) (zq (zn rfl) (zq (a9d (zis (zo rfl rfl iA) l1) L) (zr C1))) rfl
end
end K
end
noncomputable section
set_option linter.all false
set_option maxRecDepth 100000
set_option maxHeartbeats 1000000
set_option autoImplicit false
namespace K
open C PySem
noncomputable abbrev Hd:=Str × Int
noncomputable def hdT (h:Hd):T:=.tup [.str h.1,.int h.2]
noncomputable def prT (bs:List Bx) (hs:List Hd) (ss:List T):T:=.tup [.lst (bs.map bxT),.lst (hs.map hdT),.lst ss,.tup []]
noncomputable def startT (bs:List Bx) (hs:List Hd) (r:Rem):List T:=(bs.map fun b=>eqF b.nm b.st)++(hs.map fun h=>eqF ("@" ++ h.1) 0)++[agT r]
noncomputable section
variable {sto:List SO} {bs:List Bx} {hs:List Hd} {ss:List T} {n:Nat} {kvs:List (List C.Key × T)} {hand:Str} {Q:Sm→Prop} {d:Nat} {r:Rem}
theorem pr0:bx (prT bs hs ss) (.int 0)=some (.lst (bs.map bxT)):=yc
theorem pr1:bx (prT bs hs ss) (.int 1)=some (.lst (hs.map hdT)):=wu
theorem pr2:bx (prT bs hs ss) (.int 2)=some (.lst ss):=Cg
theorem bx0 {b:Bx}:bx (bxT b) (.int 0)=some (.str b.nm):=yc
theorem bx4 {b:Bx}:bx (bxT b) (.int 4)=some (.int b.st):=a5p
theorem J2 {b:Str} {n:Int}:p8 [.str b,.int n] sto=some (eqF b n,sto):=by simp [iw,jc,sIf,jw,sNew,jr,m7,sNx,g8,sGo,dw,m9,dz,fu,jf,gq,uc,u6,mOr,jm,mIf,mOp,mUn,bw,gb,ak,d9,aq,ji,dj,dh,hName,m5,gn,jy,ltT,leT,ql,lu,tu,m6,j6,qb,sy,jh,j5,d8,qx,p8,eqF]
theorem a1j {f:Fn} {rest:List Slot} (lb:bs.length≤3) (hf:∀ (x:Str) (i:Int),f [.str x,.int i] sto=some (eqF x i,sto)) :
    p7 1 [] (hName 0) (jy (mOp bx (bw 0) (aq (.int 0)))) j5 (dj f (ak (mOp bx (bw 0) (aq (.int 0))) (ak (mOp bx (bw 0) (aq (.int 4))) d9))) ⟨some (prT bs hs ss,false)::rest,sto⟩
      = some (.lst (bs.map fun b=>eqF b.nm b.st),⟨some (prT bs hs ss,false)::rest,sto⟩):=by
  have l1:bs.length<lim:=by show _<1000000; omega
  refine uw bxT _ bs (s1:=⟨some (prT bs hs ss,false)::rest,sto⟩) _ [] (by simp [iw,jc,sIf,jw,sNew,jr,m7,sNx,g8,sGo,dw,m9,dz,fu,jf,gq,uc,u6,mOr,jm,mIf,mOp,mUn,bw,gb,ak,d9,aq,ji,dj,dh,hName,m5,gn,jy,ltT,leT,ql,lu,tu,m6,j6,qb,sy,jh,j5,d8,qx,pr0,l1]) rfl rfl rfl (Nat.le_of_lt l1) ?_
  intro b hb pre hpre
  match pre,hpre with
  | [a],_ =>
    refine ⟨[some (bxT b,false)],rfl,rfl,rfl,?_⟩
    simp [iw,jc,sIf,jw,sNew,jr,m7,sNx,g8,sGo,dw,m9,dz,fu,jf,gq,uc,u6,mOr,jm,mIf,mOp,mUn,bw,gb,ak,d9,aq,ji,dj,dh,hName,m5,gn,jy,ltT,leT,ql,lu,tu,m6,j6,qb,sy,jh,j5,d8,qx,bx0,bx4,hf]
theorem Zt {f:Fn} {g:M T} {rest:List Slot} (lh:hs.length≤4) (hg:∀ (x:Str) (y:Slot),x.length<100→g ⟨[some (.str x,false),y],sto⟩=some (.str ("@" ++ x),⟨[some (.str x,false),y],sto⟩)) (hn:∀ h∈hs,h.1.length<100) (hf:∀ (x:Str) (i:Int),f [.str x,.int i] sto=some (eqF x i,sto)) :
    p7 2 [] (m5 [0,1]) (jy (mOp bx (bw 0) (aq (.int 1)))) j5 (dj f (ak g (ak (aq (.int 0)) d9))) ⟨some (prT bs hs ss,false)::rest,sto⟩
      = some (.lst (hs.map fun h=>eqF ("@" ++ h.1) 0),⟨some (prT bs hs ss,false)::rest,sto⟩):=by
  have l1:hs.length<lim:=by show _<1000000; omega
  refine uw hdT _ hs (s1:=⟨some (prT bs hs ss,false)::rest,sto⟩) _ [] (by simp [iw,jc,sIf,jw,sNew,jr,m7,sNx,g8,sGo,dw,m9,dz,fu,jf,gq,uc,u6,mOr,jm,mIf,mOp,mUn,bw,gb,ak,d9,aq,ji,dj,dh,hName,m5,gn,jy,ltT,leT,ql,lu,tu,m6,j6,qb,sy,jh,j5,d8,qx,pr1,l1]) rfl rfl rfl (Nat.le_of_lt l1) ?_
  intro h hh pre hpre
  match pre,hpre with
  | [a,b],_ =>
    refine ⟨[some (.str h.1,false),some (.int h.2,false)],rfl,Hf (x:=.str h.1) (y:=.int h.2),rfl,?_⟩
    have e:=hg h.1 (some (.int h.2,false)) (hn h hh)
    simp only [List.append_nil,dj,ak,d9,aq,e,hf]
theorem Cm {o k:M T} {s s1 s2:Sta} {ts:List T} {q:List C.Key} {t:T} (ho:o s=some (.obj n,s1)) (hk:k s1=some (.tup ts,s2)) (hs:s2.sto[n]? = some (.dit kvs)) (hq:keysOf ts=some q) (hx:Dv q kvs=some t):kh o k s=some (t,s2):=by
  unfold kh
  rw [ho]; dsimp only; rw [hk]; dsimp only; rw [hs,hq]; dsimp only; rw [hx]
theorem ks2 {x:Str} {i:Int}:keysOf [.str x,.int i]=some [.inr x,.inl i]:=rfl
end
end K
end
noncomputable section
set_option linter.all false
set_option maxRecDepth 100000
set_option maxHeartbeats 1000000
set_option autoImplicit false
namespace K
open C PySem
noncomputable abbrev qC (bs:List Bx) (hs:List Hd) (ss:List T) (n:Nat) (hand:Str) (a:Slot) (sto:List SO):Sta:=⟨[some (prT bs hs ss,false),some (.obj n,false),some (.str hand,false),a],sto⟩
noncomputable section
variable {sto:List SO} {bs:List Bx} {hs:List Hd} {ss:List T} {n:Nat} {kvs:List (List C.Key × T)} {hand:Str} {Q:Sm→Prop} {d:Nat} {r:Rem}
theorem zp {u v:S} {s s':Sta} (h:u s=some (.next,s')):jc (sNx u) v s=v s':=by
  unfold jc sNx; rw [h]
theorem a0v {i:Nat} {e:M T} {s s1:Sta} {t:T} {xs ys:List T} (hl:jf i s=true) (h:e s=some (t,s1)) (hq:jh t=some ys) (hi:s1.env[i]? = some (some (.lst xs,true))) (hz:xs.length+ys.length<1000000):fu i e s=some (.next,dh i (.lst (xs++ys)) true s1):=by
  unfold fu; rw [if_pos hl,h]; dsimp only; rw [hq,hi]; dsimp only; rw [if_pos hz]
theorem a1n {i:Nat} {e:M T} {s s1:Sta} {t:T} {xs:List T} (h:e s=some (t,s1)) (hi:s1.env[i]? = some (some (.lst xs,true))) (hz:xs.length<1000000) (hl:jf i s=true):dz i e s=some (.next,dh i (.lst (xs++[t])) true s1):=by
  unfold dz
  first
    | (rw [if_pos hl,h]; dsimp only; rw [hi]; dsimp only; rw [if_pos hz])
    | (rw [h]; dsimp only; rw [hi]; dsimp only; rw [if_pos hz])
theorem Qm {f:Fn} {a:M T} {s s1:Sta} {t u:T} {st:List SO} (h:a s=some (t,s1)) (hf:f [t] s1.sto=some (u,st)):dj f (ak a d9) s=some (u,⟨s1.env,st⟩):=by
  unfold dj ak d9; rw [h]; dsimp only; rw [hf]
theorem Ub (lb:bs.length≤3) (lh:hs.length≤4) (hn:∀ h∈hs,h.1.length<100) (hs':sto[n]? = some (.dit kvs)) (hx:Dv [.inr hand,.inl 0] kvs=some (jz r)) (o:OkR Q d r) (hd:d<40) :
    vd [prT bs hs ss,.obj n,.str hand] sto=some (.lst (startT bs hs r),sto):=by
  have A:sNew 3 (p7 1 [] (hName 0) (jy (mOp bx (bw 0) (aq (.int 0)))) j5 (dj mz (ak (mOp bx (bw 0) (aq (.int 0))) (ak (mOp bx (bw 0) (aq (.int 4))) d9)))) (qC bs hs ss n hand none sto)=some (.next,qC bs hs ss n hand (some (.lst (bs.map fun b=>eqF b.nm b.st),true)) sto):=by
    unfold sNew; rw [a1j lb fun x i=>Mp]; rfl
  have B:fu 3 (p7 2 [] (m5 [0,1]) (jy (mOp bx (bw 0) (aq (.int 1)))) j5 (dj mz (ak (dj nq (ak (bw 0) d9)) (ak (aq (.int 0)) d9)))) (qC bs hs ss n hand (some (.lst (bs.map fun b=>eqF b.nm b.st),true)) sto)=some (.next,qC bs hs ss n hand (some (.lst ((bs.map fun b=>eqF b.nm b.st)++(hs.map fun h=>eqF ("@" ++ h.1) 0)),true)) sto) :=
    a0v rfl (Zt lh (fun x y hx=>Qm (s1:=⟨[some (.str x,false),y],sto⟩) rfl (Je hx)) hn fun x i=>Mp) rfl rfl (by simp only [List.length_map]; omega)
  have C':dz 3 (dj (iz 40) (ak (kh (bw 1) (gb (fun l=>some (.tup l)) (ak (bw 2) (ak (aq (.int 0)) d9)))) d9)) (qC bs hs ss n hand (some (.lst ((bs.map fun b=>eqF b.nm b.st)++(hs.map fun h=>eqF ("@" ++ h.1) 0)),true)) sto)=some (.next,qC bs hs ss n hand (some (.lst (startT bs hs r),true)) sto) :=
    a1n (Qm (s1:=qC bs hs ss n hand (some (.lst ((bs.map fun b=>eqF b.nm b.st)++(hs.map fun h=>eqF ("@" ++ h.1) 0)),true)) sto) (Cm (n:=n) (s1:=qC bs hs ss n hand (some (.lst ((bs.map fun b=>eqF b.nm b.st)++(hs.map fun h=>eqF ("@" ++ h.1) 0)),true)) sto) rfl rfl hs' ks2 hx) (forms o 40 hd).2) rfl (by simp only [List.length_append,List.length_map]; omega) rfl
  unfold vd iw
  show (match jc _ _ (qC bs hs ss n hand none sto) with | some (.ret t,s)=>some (t,s.sto) | some (.next,s)=>some (.non,s.sto) | _=>none)=_
  rw [zp A,zp B,zp C']
  rfl
end
end K
end
noncomputable section
set_option linter.all false
set_option maxRecDepth 100000
set_option maxHeartbeats 1000000
set_option autoImplicit false
namespace K
open C PySem
noncomputable section
variable {sto:List SO} {bs:List Bx} {hs:List Hd} {ss:List T} {n:Nat} {kvs:List (List C.Key × T)} {hand:Str} {Q:Sm→Prop} {d:Nat} {r:Rem}
theorem Ko {i:Nat} {e:M T} {s s1:Sta} {t:T} (h:e s=some (t,s1)):jw i e s=some (.next,dh i t false s1):=by unfold jw; rw [h]
theorem a3x {f:T→T→Option T} {a b:M T} {s s1 s2:Sta} {t u w:T} (h1:a s=some (t,s1)) (h2:b s1=some (u,s2)) (h3:f t u=some w):mOp f a b s=some (w,s2):=by
  unfold mOp; rw [h1]; dsimp only; rw [h2]; dsimp only; rw [h3]
theorem a1e {f:List T→Option T} {a:M T} {s s1:Sta} {t u:T} (h:a s=some (t,s1)) (hf:f [t]=some u):gb f (ak a d9) s=some (u,s1):=by
  unfold gb ak d9; rw [h]; simp [hf]
theorem add_l {x y:List T} (h:x.length+y.length<1000000):lu (.lst x) (.lst y)=some (.lst (x++y)):=if_pos h
theorem a9a {e:M T} {s s1:Sta} {t:T} (h:e s=some (t,s1)):jr e s=some (.ret t,s1):=by unfold jr; rw [h]
theorem Zg (lb:bs.length≤3) (lh:hs.length≤4) (hn:∀ h∈hs,h.1.length<100) (hs':sto[n]? = some (.dit kvs)) (hx:Dv [.inr hand,.inl 0] kvs=some (jz r)) (o:OkR Q d r) (hd:d<40) :
    vg [prT bs hs ss,.obj n,.str hand] sto=some (.lst (startT bs hs r),sto):=by
  have l1:("@" : Str).length=1:=by decide +kernel
  have A:jw 3 (p7 1 [] (hName 0) (jy (mOp bx (bw 0) (aq (.int 0)))) j5 (dj p8 (ak (mOp bx (bw 0) (aq (.int 0))) (ak (mOp bx (bw 0) (aq (.int 4))) d9)))) (qC bs hs ss n hand none sto)=some (.next,qC bs hs ss n hand (some (.lst (bs.map fun b=>eqF b.nm b.st),false)) sto) :=
    Ko (a1j lb fun x i=>J2)
  have B:jw 3 (mOp lu (bw 3) (p7 2 [] (m5 [0,1]) (jy (mOp bx (bw 0) (aq (.int 1)))) j5 (dj p8 (ak (mOp lu (aq (.str "@")) (bw 0)) (ak (aq (.int 0)) d9))))) (qC bs hs ss n hand (some (.lst (bs.map fun b=>eqF b.nm b.st),false)) sto)=some (.next,qC bs hs ss n hand (some (.lst ((bs.map fun b=>eqF b.nm b.st)++(hs.map fun h=>eqF ("@" ++ h.1) 0)),false)) sto) :=
    Ko (a3x (s1:=qC bs hs ss n hand (some (.lst (bs.map fun b=>eqF b.nm b.st),false)) sto) rfl (Zt lh (fun x y hx=>by
      have bl:("@" : Str).length+x.length<lim:=by show _<1000000; omega
      simp [iw,jc,sIf,jw,sNew,jr,m7,sNx,g8,sGo,dw,m9,dz,fu,jf,gq,uc,u6,mOr,jm,mIf,mOp,mUn,bw,gb,ak,d9,aq,ji,dj,dh,hName,m5,gn,jy,ltT,leT,ql,lu,tu,m6,j6,qb,sy,jh,j5,d8,qx,bl]) hn fun x i=>J2) (add_l (by simp only [List.length_map]; omega)))
  have C':jr (mOp lu (bw 3) (gb (fun l=>some (.lst l)) (ak (dj (j4 40) (ak (kh (bw 1) (gb (fun l=>some (.tup l)) (ak (bw 2) (ak (aq (.int 0)) d9)))) d9)) d9))) (qC bs hs ss n hand (some (.lst ((bs.map fun b=>eqF b.nm b.st)++(hs.map fun h=>eqF ("@" ++ h.1) 0)),false)) sto)=some (.ret (.lst (startT bs hs r)),qC bs hs ss n hand (some (.lst ((bs.map fun b=>eqF b.nm b.st)++(hs.map fun h=>eqF ("@" ++ h.1) 0)),false)) sto) :=
    a9a (a3x (s1:=qC bs hs ss n hand (some (.lst ((bs.map fun b=>eqF b.nm b.st)++(hs.map fun h=>eqF ("@" ++ h.1) 0)),false)) sto) rfl (a1e (Qm (s1:=qC bs hs ss n hand (some (.lst ((bs.map fun b=>eqF b.nm b.st)++(hs.map fun h=>eqF ("@" ++ h.1) 0)),false)) sto) (Cm (n:=n) (s1:=qC bs hs ss n hand (some (.lst ((bs.map fun b=>eqF b.nm b.st)++(hs.map fun h=>eqF ("@" ++ h.1) 0)),false)) sto) rfl rfl hs' ks2 hx) (Bj o 40 hd).2) rfl) (add_l (by simp only [List.length_append,List.length_map,List.length_singleton]; omega)))
  unfold vg iw
  show (match jc _ _ (qC bs hs ss n hand none sto) with | some (.ret t,s)=>some (t,s.sto) | some (.next,s)=>some (.non,s.sto) | _=>none)=_
  rw [jq A,jq B,C']
noncomputable def Uv (bs:List Bx) (D:List (Str × Sm)) (g:Rem) (l:List ((Str × Int) × Rem)):List T:=(l.map fun p=>eqF ("@" ++ p.1.1) p.1.2)++(l.map fun p=>pfT p.2)++[pfT g]++D.map fun p=>wiT (bAt bs p.1).1 (bAt bs p.1).2 p.2
noncomputable def kT (p:(Str × Int) × Rem):T:=.tup [.str p.1.1,.int p.1.2]
structure Okk (kvs:List (List C.Key × T)) (Q:Sm→Prop) (p:(Str × Int) × Rem):Prop where
  s:okS p.1.1
  l:p.1.1.length<100
  x:Dv [.inr p.1.1,.inl p.1.2] kvs=some (jz p.2)
  r:OkR Q 10 p.2
theorem plain_at {k:Str} {i:Int} (ok:okS k) (hl:k.length<100):j9 40 [.tup [.str "at",.str k,.int i]] sto=some (eqF ("@" ++ k) i,sto):=by
  have e:=(forms (sto:=sto) (Q:=Tr) (OkR.pl (d:=0) (p:=i) ok hl) 40 (by decide)).1
  unfold jz pfT at e
  exact e
theorem K5 {k:Str} {i:Int} (ok:okS k) (hl:k.length<100):ig 40 [.tup [.str "at",.str k,.int i]] sto=some (eqF ("@" ++ k) i,sto):=by
  have e:=(Bj (sto:=sto) (Q:=Tr) (OkR.pl (d:=0) (p:=i) ok hl) 40 (by decide)).1
  unfold jz pfT at e
  exact e
end
end K
end
noncomputable section
set_option linter.all false
set_option maxRecDepth 100000
set_option maxHeartbeats 1000000
set_option autoImplicit false
namespace K
open C PySem
noncomputable section
variable {sto:List SO} {bs:List Bx} {hs:List Hd} {ss:List T} {n:Nat} {kvs:List (List C.Key × T)} {hand:Str} {Q:Sm→Prop} {D:List (Str × Sm)} {here to:Int} {g:Rem}
noncomputable abbrev P0 (bs:List Bx) (hs:List Hd) (ss:List T) (n:Nat) (st:T) (ot:T) (a b:Slot) (sto:List SO):Sta:=⟨[some (prT bs hs ss,false),some (.obj n,false),some (st,false),some (ot,false),a,b],sto⟩
theorem a3u {l:List ((Str × Int) × Rem)} {st ot:T} {b:Slot} (hl:l.length≤2) (ok:∀ p∈l,Okk kvs Q p) :
    p7 2 [] (m5 [0,1]) (jy (bw 4)) j5 (dj (j9 40) (ak (gb (fun l=>some (.tup l)) (ak (aq (.str "at")) (ak (bw 0) (ak (bw 1) d9)))) d9)) (P0 bs hs ss n st ot (some (.lst (l.map kT),false)) b sto)
      = some (.lst (l.map fun p=>eqF ("@" ++ p.1.1) p.1.2),P0 bs hs ss n st ot (some (.lst (l.map kT),false)) b sto):=by
  have l1:l.length<lim:=by show _<1000000; omega
  refine uw kT _ l (s1:=P0 bs hs ss n st ot (some (.lst (l.map kT),false)) b sto) _ [] (by simp [iw,jc,sIf,jw,sNew,jr,m7,sNx,g8,sGo,dw,m9,dz,fu,jf,gq,uc,u6,mOr,jm,mIf,mOp,mUn,bw,gb,ak,d9,aq,ji,dj,dh,hName,m5,gn,jy,ltT,leT,ql,lu,tu,m6,j6,qb,sy,jh,j5,d8,qx,l1]) rfl rfl rfl (Nat.le_of_lt l1) ?_
  intro p hp pre hpre
  match pre,hpre with
  | [x,y],_ =>
    have o:=ok p hp
    refine ⟨[some (.str p.1.1,false),some (.int p.1.2,false)],rfl,Hf (x:=.str p.1.1) (y:=.int p.1.2),rfl,?_⟩
    have e:=plain_at (sto:=sto) (i:=p.1.2) o.s o.l
    simp [iw,jc,sIf,jw,sNew,jr,m7,sNx,g8,sGo,dw,m9,dz,fu,jf,gq,uc,u6,mOr,jm,mIf,mOp,mUn,bw,gb,ak,d9,aq,ji,dj,dh,hName,m5,gn,jy,ltT,leT,ql,lu,tu,m6,j6,qb,sy,jh,j5,d8,qx,e]
theorem Yv {l:List ((Str × Int) × Rem)} {st ot:T} {b:Slot} (hl:l.length≤2) (hs':sto[n]? = some (.dit kvs)) (ok:∀ p∈l,Okk kvs Q p) :
    p7 1 [1] (hName 0) (jy (bw 4)) j5 (dj (j9 40) (ak (kh (bw 1) (bw 0)) d9)) (P0 bs hs ss n st ot (some (.lst (l.map kT),false)) b sto)
      = some (.lst (l.map fun p=>pfT p.2),P0 bs hs ss n st ot (some (.lst (l.map kT),false)) b sto):=by
  have l1:l.length<lim:=by show _<1000000; omega
  refine uw kT _ l (s1:=P0 bs hs ss n st ot (some (.lst (l.map kT),false)) b sto) _ [some (.obj n,false)] (by simp [iw,jc,sIf,jw,sNew,jr,m7,sNx,g8,sGo,dw,m9,dz,fu,jf,gq,uc,u6,mOr,jm,mIf,mOp,mUn,bw,gb,ak,d9,aq,ji,dj,dh,hName,m5,gn,jy,ltT,leT,ql,lu,tu,m6,j6,qb,sy,jh,j5,d8,qx,l1]) rfl rfl rfl (Nat.le_of_lt l1) ?_
  intro p hp pre hpre
  match pre,hpre with
  | [x],_ =>
    have o:=ok p hp
    refine ⟨[some (kT p,false)],rfl,rfl,rfl,?_⟩
    exact Qm (s1:=⟨[some (kT p,false),some (.obj n,false)],sto⟩) (Cm (n:=n) (s1:=⟨[some (kT p,false),some (.obj n,false)],sto⟩) (ts:=[.str p.1.1,.int p.1.2]) rfl rfl hs' ks2 o.x) (forms o.r 40 (by decide)).1
theorem Uy {ot:List ((Str × Int) × Rem)} {r0:Rem} (hl:ot.length≤1) (hs':sto[n]? = some (.dit kvs)) (ok:∀ p∈(((hand,here),r0)::ot),Okk kvs Q p) (og:OkR Q 10 g)
    (nb:(bs.map (·.nm)).Nodup) (lb:bs.length≤3) (lD:D.length≤3) (hD:∀ p∈D,Bp U3 p.2∧p.1∈bs.map (·.nm)) :
    um [prT bs hs ss,.obj n,stT hand here (jz g) D to,.lst (ot.map kT)] sto=some (.lst (Uv bs D g (((hand,here),r0)::ot)),sto):=by
  generalize hL:(((hand,here),r0)::ot)=L at *
  have lL:L.length≤2:=by rw [← hL,List.length_cons]; omega
  have A:jw 4 (mOp lu (gb (fun l=>some (.lst l)) (ak (gb (fun l=>some (.tup l)) (ak (mOp bx (bw 2) (aq (.int 0))) (ak (mOp bx (bw 2) (aq (.int 1))) d9))) d9)) (bw 3)) (P0 bs hs ss n (stT hand here (jz g) D to) (.lst (ot.map kT)) none none sto)=some (.next,P0 bs hs ss n (stT hand here (jz g) D to) (.lst (ot.map kT)) (some (.lst (L.map kT),false)) none sto):=by
    have bl:ot.length+1<lim:=by show _<1000000; omega
    rw [← hL]
    simp [iw,jc,sIf,jw,sNew,jr,m7,sNx,g8,sGo,dw,m9,dz,fu,jf,gq,uc,u6,mOr,jm,mIf,mOp,mUn,bw,gb,ak,d9,aq,ji,dj,dh,hName,m5,gn,jy,ltT,leT,ql,lu,tu,m6,j6,qb,sy,jh,j5,d8,qx,st0,st1,kT,Nat.add_comm]
    rw [if_pos bl]
    rfl
  have B:sNew 5 (p7 2 [] (m5 [0,1]) (jy (bw 4)) j5 (dj (j9 40) (ak (gb (fun l=>some (.tup l)) (ak (aq (.str "at")) (ak (bw 0) (ak (bw 1) d9)))) d9))) (P0 bs hs ss n (stT hand here (jz g) D to) (.lst (ot.map kT)) (some (.lst (L.map kT),false)) none sto)=some (.next,P0 bs hs ss n (stT hand here (jz g) D to) (.lst (ot.map kT)) (some (.lst (L.map kT),false)) (some (.lst (L.map fun p=>eqF ("@" ++ p.1.1) p.1.2),true)) sto):=by
    unfold sNew; rw [a3u lL ok]; rfl
  have C':fu 5 (p7 1 [1] (hName 0) (jy (bw 4)) j5 (dj (j9 40) (ak (kh (bw 1) (bw 0)) d9))) (P0 bs hs ss n (stT hand here (jz g) D to) (.lst (ot.map kT)) (some (.lst (L.map kT),false)) (some (.lst (L.map fun p=>eqF ("@" ++ p.1.1) p.1.2),true)) sto)=some (.next,P0 bs hs ss n (stT hand here (jz g) D to) (.lst (ot.map kT)) (some (.lst (L.map kT),false)) (some (.lst ((L.map fun p=>eqF ("@" ++ p.1.1) p.1.2)++(L.map fun p=>pfT p.2)),true)) sto) :=
    a0v rfl (Yv lL hs' ok) rfl rfl (by simp only [List.length_map]; omega)
  have D':dz 5 (dj (j9 40) (ak (mOp bx (bw 2) (aq (.int 2))) d9)) (P0 bs hs ss n (stT hand here (jz g) D to) (.lst (ot.map kT)) (some (.lst (L.map kT),false)) (some (.lst ((L.map fun p=>eqF ("@" ++ p.1.1) p.1.2)++(L.map fun p=>pfT p.2)),true)) sto)=some (.next,P0 bs hs ss n (stT hand here (jz g) D to) (.lst (ot.map kT)) (some (.lst (L.map kT),false)) (some (.lst ((L.map fun p=>eqF ("@" ++ p.1.1) p.1.2)++(L.map fun p=>pfT p.2)++[pfT g]),true)) sto) :=
    a1n (Qm (s1:=P0 bs hs ss n (stT hand here (jz g) D to) (.lst (ot.map kT)) (some (.lst (L.map kT),false)) (some (.lst ((L.map fun p=>eqF ("@" ++ p.1.1) p.1.2)++(L.map fun p=>pfT p.2)),true)) sto) (a3x rfl rfl st2) (forms og 40 (by decide)).1) rfl (by simp only [List.length_append,List.length_map]; omega) rfl
  have E':fu 5 (dj vm (ak (bw 0) (ak (mOp bx (bw 2) (aq (.int 3))) d9))) (P0 bs hs ss n (stT hand here (jz g) D to) (.lst (ot.map kT)) (some (.lst (L.map kT),false)) (some (.lst ((L.map fun p=>eqF ("@" ++ p.1.1) p.1.2)++(L.map fun p=>pfT p.2)++[pfT g]),true)) sto)=some (.next,P0 bs hs ss n (stT hand here (jz g) D to) (.lst (ot.map kT)) (some (.lst (L.map kT),false)) (some (.lst (Uv bs D g L),true)) sto):=by
    have e:=Ys (sto:=sto) (P:=.lst (hs.map hdT)) (Q:=.lst ss) (R:=.tup []) nb lb lD hD
    have al:((L.map fun p=>eqF ("@" ++ p.1.1) p.1.2)++(L.map fun p=>pfT p.2)++[pfT g]).length+(D.map fun p=>wiT (bAt bs p.1).1 (bAt bs p.1).2 p.2).length<1000000:=by simp only [List.length_append,List.length_map,List.length_singleton]; omega
    have hc:dj vm (ak (bw 0) (ak (mOp bx (bw 2) (aq (.int 3))) d9)) (P0 bs hs ss n (stT hand here (jz g) D to) (.lst (ot.map kT)) (some (.lst (L.map kT),false)) (some (.lst ((L.map fun p=>eqF ("@" ++ p.1.1) p.1.2)++(L.map fun p=>pfT p.2)++[pfT g]),true)) sto)=some (.lst (D.map fun p=>wiT (bAt bs p.1).1 (bAt bs p.1).2 p.2),P0 bs hs ss n (stT hand here (jz g) D to) (.lst (ot.map kT)) (some (.lst (L.map kT),false)) (some (.lst ((L.map fun p=>eqF ("@" ++ p.1.1) p.1.2)++(L.map fun p=>pfT p.2)++[pfT g]),true)) sto):=by
      have e':vm [prT bs hs ss,.tup (D.map seT)] sto=_:=e
      generalize vm=F at *
      simp [iw,jc,sIf,jw,sNew,jr,m7,sNx,g8,sGo,dw,m9,dz,fu,jf,gq,uc,u6,mOr,jm,mIf,mOp,mUn,bw,gb,ak,d9,aq,ji,dj,dh,hName,m5,gn,jy,ltT,leT,ql,lu,tu,m6,j6,qb,sy,jh,j5,d8,qx,st3,e']
    exact a0v (i:=5) rfl hc rfl rfl al
  unfold um iw
  show (match jc _ _ (P0 bs hs ss n (stT hand here (jz g) D to) (.lst (ot.map kT)) none none sto) with | some (.ret t,s)=>some (t,s.sto) | some (.next,s)=>some (.non,s.sto) | _=>none)=_
  rw [zp A,zp B,zp C',zp D',zp E']
  rfl
end
end K
end
noncomputable section
set_option linter.all false
set_option maxRecDepth 100000
set_option maxHeartbeats 1000000
set_option autoImplicit false
namespace K
open C PySem
noncomputable abbrev qF (bs:List Bx) (hs:List Hd) (ss:List T) (n:Nat) (hand:Str) (here:Int) (g:Rem) (D:List (Str × Sm)) (to:Int) (ot:List ((Str × Int) × Rem)) (a:Rem) (b:Slot) (sto:List SO):Sta:=⟨[some (prT bs hs ss,false),some (.obj n,false),some (stT hand here (jz g) D to,false),some (.lst (ot.map kT),false),some (jz a,false),b],sto⟩
structure Ctx (kvs:List (List C.Key × T)) (bs:List Bx) (D:List (Str × Sm)) (hand:Str) (g:Rem):Prop where
  og:OkR Bd 10 g
  oh:okS hand
  nb:(bs.map (·.nm)).Nodup
  lb:bs.length≤3
  lD:D.length≤3
  nD:(D.map (·.1)).Nodup
  hD:∀ p∈D,Bp U3 p.2∧p.1∈bs.map (·.nm)
noncomputable section
variable {sto:List SO} {bs:List Bx} {hs:List Hd} {ss:List T} {n:Nat} {kvs:List (List C.Key × T)} {hand:Str} {D:List (Str × Sm)} {here to:Int} {g:Rem}
theorem Mq {ot:List ((Str × Int) × Rem)} {r0 a:Rem} (c:Ctx kvs bs D hand g) (hl:ot.length≤1) (hs':sto[n]? = some (.dit kvs)) (ok:∀ p∈(((hand,here),r0)::ot),Okk kvs Bd p) (oa:OkR Bd 10 a) :
    qg [prT bs hs ss,.obj n,stT hand here (jz g) D to,.lst (ot.map kT),jz a] sto=some (.lst (Uv bs D g (((hand,here),r0)::ot)++[agT (bh D hand to a)]),sto):=by
  have G:=Uy (hs:=hs) (ss:=ss) (to:=to) hl hs' ok c.og c.nb c.lb c.lD c.hD
  have Bh:=behind (sto:=sto) (to:=to) c.oh (by have:=c.lD; omega) c.nD (fun p hp=>(c.hD p hp).1) oa (by decide)
  have F':=(forms (sto:=sto) (a67 (D:=D) (h:=hand) (to:=to) oa) 40 (by decide)).2
  have gl:(Uv bs D g (((hand,here),r0)::ot)).length<1000000:=by
    have:=c.lD
    simp only [Uv,List.length_append,List.length_map,List.length_cons,List.length_nil]
    omega
  generalize hGv:Uv bs D g (((hand,here),r0)::ot)=GV at *
  have A:sNew 5 (dj um (ak (bw 0) (ak (bw 1) (ak (bw 2) (ak (bw 3) d9))))) (qF bs hs ss n hand here g D to ot a none sto)=some (.next,qF bs hs ss n hand here g D to ot a (some (.lst GV,true)) sto):=by
    generalize um=F at *
    exact (yn (zf rfl G) rfl)
  have B1:dj Ad (ak (bw 4) (ak (mOp bx (bw 2) (aq (.int 0))) (ak (mOp bx (bw 2) (aq (.int 3))) (ak (mOp bx (bw 2) (aq (.int 4))) d9)))) (qF bs hs ss n hand here g D to ot a (some (.lst GV,true)) sto)=some (jz (bh D hand to a),qF bs hs ss n hand here g D to ot a (some (.lst GV,true)) sto):=by
    generalize Ad=F at *
    simp [iw,jc,sIf,jw,sNew,jr,m7,sNx,g8,sGo,dw,m9,dz,fu,jf,gq,uc,u6,mOr,jm,mIf,mOp,mUn,bw,gb,ak,d9,aq,ji,dj,dh,hName,m5,gn,jy,ltT,leT,ql,lu,tu,m6,j6,qb,sy,jh,j5,d8,qx,st0,st3,st4,Bh]
  have B:dz 5 (dj (iz 40) (ak (dj Ad (ak (bw 4) (ak (mOp bx (bw 2) (aq (.int 0))) (ak (mOp bx (bw 2) (aq (.int 3))) (ak (mOp bx (bw 2) (aq (.int 4))) d9))))) d9)) (qF bs hs ss n hand here g D to ot a (some (.lst GV,true)) sto)=some (.next,qF bs hs ss n hand here g D to ot a (some (.lst (GV++[agT (bh D hand to a)]),true)) sto) :=
    a1n (Qm B1 F') rfl gl rfl
  unfold qg iw
  show (match jc _ _ (qF bs hs ss n hand here g D to ot a none sto) with | some (.ret t,s)=>some (t,s.sto) | some (.next,s)=>some (.non,s.sto) | _=>none)=_
  rw [zp A,zp B]
  rfl
noncomputable abbrev a95:S:=jc (sGo (m5 [10,11]) (mOp bx (p7 1 [8] (hName 0) (jy (mOp bx (bw 0) (aq (.int 0)))) (gq (mOp eqO (mOp bx (bw 0) (aq (.int 0))) (bw 1))) (gb (fun l=>some (.tup l)) (ak (mOp bx (bw 0) (aq (.int 2))) (ak (mOp bx (bw 0) (aq (.int 3))) d9)))) (aq (.int 0))))
  (dz 7 (gb (fun l=>some (.tup l)) (ak (aq (.str "and")) (ak (gb (fun l=>some (.tup l)) (ak (gb (fun l=>some (.tup l)) (ak (aq (.str "most")) (ak (dj jk (ak (gb (fun l=>some (.tup l)) (ak (bw 10) (ak (gb (fun l=>some (.tup l)) d9) d9))) (ak (bw 9) (ak (mUn qb (aq (.int 1))) d9)))) d9))) (ak (gb (fun l=>some (.tup l)) (ak (aq (.str "most")) (ak (dj jk (ak (bw 9) (ak (gb (fun l=>some (.tup l)) (ak (bw 11) (ak (gb (fun l=>some (.tup l)) d9) d9))) (ak (mUn qb (aq (.int 1))) d9)))) d9))) d9))) d9))))
theorem a0e {x:Str}:∀ {bs:List Bx},x∈bs.map (·.nm)→∃ l,(bs.filter fun b=>b.nm==x).map (fun b=>T.tup [.int b.lo,.int b.hi])=.tup [.int (bAt bs x).1,.int (bAt bs x).2]::l
  | [],h=>by simp at h
  | b::r,h=>by
    unfold bAt
    by_cases e:b.nm=x
    · rw [if_pos e,List.filter_cons,if_pos (by rw [e]; exact beq_self_eq_true _)]
      exact ⟨_,rfl⟩
    · rw [if_neg e,List.filter_cons,if_neg (by simpa using e)]
      refine a0e ?_
      rw [List.map_cons] at h
      rcases List.mem_cons.mp h with z | z
      · exact absurd z.symm e
      · exact z
end
end K
end
noncomputable section
set_option linter.all false
set_option maxRecDepth 100000
set_option maxHeartbeats 1000000
set_option autoImplicit false
namespace K
open C PySem
noncomputable abbrev qG (bs:List Bx) (hs:List Hd) (ss:List T) (o1 du st a4 a5 a6:Slot) (F:List T) (c d e f:Slot) (sto:List SO):Sta:=⟨[some (prT bs hs ss,false),o1,du,st,a4,a5,a6,some (.lst F,true),c,d,e,f],sto⟩
noncomputable section
variable {sto:List SO} {bs:List Bx} {hs:List Hd} {ss:List T} {D:List (Str × Sm)}
theorem bx2 {b:Bx}:bx (bxT b) (.int 2)=some (.int b.lo):=Cg
theorem bx3 {b:Bx}:bx (bxT b) (.int 3)=some (.int b.hi):=Vp
theorem a9s {s:Sm} (hs:Bp U3 s) (k:Int):jk [smT s,.tup [.int k,.tup []],.int (-1)] sto=some (smT (ls s (k,[])),sto):=by
  have e:=a2f (sto:=sto) hs (V5 (n:=k))
  generalize jk=F at *
  exact e
theorem a8j {s:Sm} (hs:Bp U3 s) (k:Int):jk [.tup [.int k,.tup []],smT s,.int (-1)] sto=some (smT (ls (k,[]) s),sto):=by
  have e:=a2f (sto:=sto) (V5 (n:=k)) hs
  generalize jk=F at *
  exact e
theorem a2e {du st a4 a5 a6 o10 o11 o1:Slot} {F:List T} {p:Str × Sm} (hb:∀ b∈bs,okS b.nm) (lb:bs.length≤3) (op:okS p.1) (ok:Bp U3 p.2) (hm:p.1∈bs.map (·.nm)) (lF:F.length<1000) :
    a95 (qG bs hs ss o1 du st a4 a5 a6 F (some (.str p.1,false)) (some (smT p.2,false)) o10 o11 sto)
      = some (.next,qG bs hs ss o1 du st a4 a5 a6 (F++[wiT (bAt bs p.1).1 (bAt bs p.1).2 p.2]) (some (.str p.1,false)) (some (smT p.2,false)) (some (.int (bAt bs p.1).1,false)) (some (.int (bAt bs p.1).2,false)) sto):=by
  have l1:bs.length<lim:=by show _<1000000; omega
  obtain ⟨l,hl⟩:=a0e hm
  have co:p7 1 [8] (hName 0) (jy (mOp bx (bw 0) (aq (.int 0)))) (gq (mOp eqO (mOp bx (bw 0) (aq (.int 0))) (bw 1))) (gb (fun l=>some (.tup l)) (ak (mOp bx (bw 0) (aq (.int 2))) (ak (mOp bx (bw 0) (aq (.int 3))) d9))) (qG bs hs ss o1 du st a4 a5 a6 F (some (.str p.1,false)) (some (smT p.2,false)) o10 o11 sto)
      = some (.lst (.tup [.int (bAt bs p.1).1,.int (bAt bs p.1).2]::l),qG bs hs ss o1 du st a4 a5 a6 F (some (.str p.1,false)) (some (smT p.2,false)) o10 o11 sto):=by
    rw [← hl]
    generalize hF:p7 _ _ _ _ _ _ _=r
    exact Jv hF bxT (fun b=>T.tup [.int b.lo,.int b.hi]) (fun b=>b.nm==p.1) bs (qG bs hs ss o1 du st a4 a5 a6 F (some (.str p.1,false)) (some (smT p.2,false)) o10 o11 sto) [some (prT bs hs ss,false),o1,du,st,a4,a5,a6,some (.lst F,true),some (.str p.1,false),some (smT p.2,false),o10,o11] [some (.str p.1,false)] (by simp [iw,jc,sIf,jw,sNew,jr,m7,sNx,g8,sGo,dw,m9,dz,fu,jf,gq,uc,u6,mOr,jm,mIf,mOp,mUn,bw,gb,ak,d9,aq,ji,dj,dh,hName,m5,gn,jy,ltT,leT,ql,lu,tu,m6,j6,qb,sy,jh,j5,d8,qx,pr0,l1]) rfl rfl rfl (Nat.le_of_lt l1) (by
      intro b hb' pre hpre
      match pre,hpre with
      | [x],_ =>
        have e:=T5 (hb b hb') op
        exact ⟨[some (bxT b,false)],rfl,rfl,by simp [iw,jc,sIf,jw,sNew,jr,m7,sNx,g8,sGo,dw,m9,dz,fu,jf,gq,uc,u6,mOr,jm,mIf,mOp,mUn,bw,gb,ak,d9,aq,ji,dj,dh,hName,m5,gn,jy,ltT,leT,ql,lu,tu,m6,j6,qb,sy,jh,j5,d8,qx,bx0,e],fun _=>by simp [iw,jc,sIf,jw,sNew,jr,m7,sNx,g8,sGo,dw,m9,dz,fu,jf,gq,uc,u6,mOr,jm,mIf,mOp,mUn,bw,gb,ak,d9,aq,ji,dj,dh,hName,m5,gn,jy,ltT,leT,ql,lu,tu,m6,j6,qb,sy,jh,j5,d8,qx,bx2,bx3]⟩)
  have i0:bx (.lst (.tup [.int (bAt bs p.1).1,.int (bAt bs p.1).2]::l)) (.int 0)=some (.tup [.int (bAt bs p.1).1,.int (bAt bs p.1).2]):=a6m (k:=0) rfl
  have A:sGo (m5 [10,11]) (mOp bx (p7 1 [8] (hName 0) (jy (mOp bx (bw 0) (aq (.int 0)))) (gq (mOp eqO (mOp bx (bw 0) (aq (.int 0))) (bw 1))) (gb (fun l=>some (.tup l)) (ak (mOp bx (bw 0) (aq (.int 2))) (ak (mOp bx (bw 0) (aq (.int 3))) d9)))) (aq (.int 0))) (qG bs hs ss o1 du st a4 a5 a6 F (some (.str p.1,false)) (some (smT p.2,false)) o10 o11 sto)
      = some (.next,qG bs hs ss o1 du st a4 a5 a6 F (some (.str p.1,false)) (some (smT p.2,false)) (some (.int (bAt bs p.1).1,false)) (some (.int (bAt bs p.1).2,false)) sto):=by
    unfold sGo
    rw [a3x co rfl i0]
    dsimp only
    rw [Hf]
    rfl
  have e1:=a8j (sto:=sto) ok (bAt bs p.1).1
  have e2:=a9s (sto:=sto) ok (bAt bs p.1).2
  have lF':F.length<lim:=by show _<1000000; omega
  unfold a95
  rw [jq A]
  generalize jk=G at *
  simp [iw,jc,sIf,jw,sNew,jr,m7,sNx,g8,sGo,dw,m9,dz,fu,jf,gq,uc,u6,mOr,jm,mIf,mOp,mUn,bw,gb,ak,d9,aq,ji,dj,dh,hName,m5,gn,jy,ltT,leT,ql,lu,tu,m6,j6,qb,sy,jh,j5,d8,qx,e1,e2,lF',wiT]
theorem Vn {du st a4 a5 a6 o1:Slot} (hb:∀ b∈bs,okS b.nm) (lb:bs.length≤3):∀ (l:List (Str × Sm)) (F:List T) (o8 o9 o10 o11:Slot),(∀ p∈l,okS p.1∧Bp U3 p.2∧p.1∈bs.map (·.nm))→F.length+l.length<1000 →
    ∃ o8' o9' o10' o11',forL (m5 [8,9]) a95 (l.map seT) (qG bs hs ss o1 du st a4 a5 a6 F o8 o9 o10 o11 sto)
      = some (.next,qG bs hs ss o1 du st a4 a5 a6 (F++l.map fun p=>wiT (bAt bs p.1).1 (bAt bs p.1).2 p.2) o8' o9' o10' o11' sto)
  | [],F,o8,o9,o10,o11,_,_=>⟨o8,o9,o10,o11,by simp [forL]⟩
  | p::l,F,o8,o9,o10,o11,h,hl=>by
    rw [List.length_cons] at hl
    obtain ⟨x1,x2,x3⟩:=h p List.mem_cons_self
    have e:=a2e (sto:=sto) (hs:=hs) (ss:=ss) (du:=du) (st:=st) (a4:=a4) (a5:=a5) (a6:=a6) (o1:=o1) (o10:=o10) (o11:=o11) (F:=F) hb lb x1 x2 x3 (by omega)
    obtain ⟨a,b,c,d,ih⟩:=Vn hb lb l (F++[wiT (bAt bs p.1).1 (bAt bs p.1).2 p.2]) (some (.str p.1,false)) (some (smT p.2,false)) (some (.int (bAt bs p.1).1,false)) (some (.int (bAt bs p.1).2,false)) (fun q hq=>h q (List.mem_cons_of_mem _ hq)) (by rw [List.length_append,List.length_singleton]; omega)
    refine ⟨a,b,c,d,?_⟩
    rw [List.map_cons,List.map_cons,forL]
    dsimp only
    rw [show m5 [8,9] (seT p) (qG bs hs ss o1 du st a4 a5 a6 F o8 o9 o10 o11 sto)=some (qG bs hs ss o1 du st a4 a5 a6 F (some (.str p.1,false)) (some (smT p.2,false)) o10 o11 sto) from Hf (x:=.str p.1) (y:=smT p.2)]
    dsimp only
    rw [e]
    dsimp only
    rw [ih,List.append_assoc]
    rfl
end
end K
end
noncomputable section
set_option linter.all false
set_option maxRecDepth 100000
set_option maxHeartbeats 1000000
set_option autoImplicit false
namespace K
open C PySem
noncomputable abbrev qH (bs:List Bx) (hs:List Hd) (ss:List T) (n:Nat) (du:Slot) (hand:Str) (here:Int) (g:Rem) (D:List (Str × Sm)) (to:Int) (A R:List T) (f:Bool) (a:Rem) (b c d e i:Slot) (sto:List SO):Sta:=⟨[some (prT bs hs ss,false),some (.obj n,false),du,some (stT hand here (jz g) D to,false),some (.lst A,true),some (.lst R,f),some (jz a,false),b,c,d,e,i],sto⟩
noncomputable section
variable {sto:List SO} {bs:List Bx} {hs:List Hd} {ss:List T} {n:Nat} {kvs:List (List C.Key × T)} {hand:Str} {D:List (Str × Sm)} {here to:Int} {g:Rem}
noncomputable abbrev aa9:S:=jc (sNew 7 (mOp X6 (Bc 4 (bw 5)) (gb (fun l=>some (.lst l)) (ak (dj (ig 40) (ak (mOp bx (bw 3) (aq (.int 2))) d9)) d9))))
  (jc (m9 (m5 [8,9]) (jy (mOp bx (bw 3) (aq (.int 3)))) a95)
  (jr (Bc 7 (gb (fun l=>some (.lst l)) (ak (dj (j4 40) (ak (dj (jg 40) (ak (bw 6) (ak (bw 3) d9))) d9)) d9)))))
theorem Vq {du:Slot} {A R:List T} {a:Rem} (c:Ctx kvs bs D hand g) (hb:∀ b∈bs,okS b.nm) (hbD:∀ p∈D,okS p.1) (lA:A.length≤2) (lR:R.length≤2) (oa:OkR Bd 10 a) :
    ∃ s',aa9 (qH bs hs ss n du hand here g D to A R true a none none none none none sto)
      = some (.ret (.lst (A++R++[pfT g]++(D.map fun p=>wiT (bAt bs p.1).1 (bAt bs p.1).2 p.2)++[agT (bh D hand to a)])),s')∧s'.sto=sto:=by
  have lD:=c.lD
  have pg:=(Bj (sto:=sto) c.og 40 (by decide)).1
  have lb:=X7 (sto:=sto) (here:=here) (g:=jz g) (to:=to) c.oh (by omega) c.nD (fun p hp=>(c.hD p hp).1) oa 40 (by decide)
  have ag:=(Bj (sto:=sto) (a67 (D:=D) (h:=hand) (to:=to) oa) 40 (by decide)).2
  have al1:A.length+R.length<lim:=by show _<1000000; omega
  have al2:A.length+R.length+1<lim:=by show _<1000000; omega
  have al2':A.length+(R.length+1)<lim:=by show _<1000000; omega
  have N7:sNew 7 (mOp X6 (Bc 4 (bw 5)) (gb (fun l=>some (.lst l)) (ak (dj (ig 40) (ak (mOp bx (bw 3) (aq (.int 2))) d9)) d9))) (qH bs hs ss n du hand here g D to A R true a none none none none none sto)
      = some (.next,qH bs hs ss n du hand here g D to A R false a (some (.lst (A++R++[pfT g]),true)) none none none none sto):=by
    generalize ig 40=F at *
    simp [iw,jc,sIf,jw,sNew,jr,m7,sNx,g8,sGo,dw,m9,dz,fu,jf,gq,uc,u6,mOr,jm,mIf,mOp,mUn,bw,gb,ak,d9,aq,ji,dj,dh,hName,m5,gn,jy,ltT,leT,ql,lu,tu,m6,j6,qb,sy,jh,j5,d8,qx,Bc,X6,st2,pg,al1,al2,al2']
  obtain ⟨o8,o9,o10,o11,dl⟩:=Vn (sto:=sto) (hs:=hs) (ss:=ss) (du:=du) (st:=some (stT hand here (jz g) D to,false)) (a4:=some (.lst A,true)) (a5:=some (.lst R,false)) (a6:=some (jz a,false)) (o1:=some (.obj n,false)) hb c.lb D (A++R++[pfT g]) none none none none (fun p hp=>⟨hbD p hp,c.hD p hp⟩) (by simp only [List.length_append,List.length_singleton]; omega)
  have lD':D.length<lim:=by show _<1000000; omega
  have I:jy (mOp bx (bw 3) (aq (.int 3))) (qH bs hs ss n du hand here g D to A R false a (some (.lst (A++R++[pfT g]),true)) none none none none sto)=some (D.map seT,qH bs hs ss n du hand here g D to A R false a (some (.lst (A++R++[pfT g]),true)) none none none none sto):=by simp [iw,jc,sIf,jw,sNew,jr,m7,sNx,g8,sGo,dw,m9,dz,fu,jf,gq,uc,u6,mOr,jm,mIf,mOp,mUn,bw,gb,ak,d9,aq,ji,dj,dh,hName,m5,gn,jy,ltT,leT,ql,lu,tu,m6,j6,qb,sy,jh,j5,d8,qx,st3,lD']
  have Fo:m9 (m5 [8,9]) (jy (mOp bx (bw 3) (aq (.int 3)))) a95 (qH bs hs ss n du hand here g D to A R false a (some (.lst (A++R++[pfT g]),true)) none none none none sto)=some (.next,qH bs hs ss n du hand here g D to A R false a (some (.lst (A++R++[pfT g]++D.map fun p=>wiT (bAt bs p.1).1 (bAt bs p.1).2 p.2),true)) o8 o9 o10 o11 sto):=by
    unfold m9; rw [I]; exact dl
  have lG:(A++R++[pfT g]++D.map fun p=>wiT (bAt bs p.1).1 (bAt bs p.1).2 p.2).length+1<lim:=by
    simp only [List.length_append,List.length_map,List.length_singleton]
    show _<1000000; omega
  generalize hG:(A++R++[pfT g]++D.map fun p=>wiT (bAt bs p.1).1 (bAt bs p.1).2 p.2)=GV at *
  refine ⟨(qH bs hs ss n du hand here g D to A R false a (some (.lst GV,true)) o8 o9 o10 o11 sto),?_,rfl⟩
  have Re:jr (Bc 7 (gb (fun l=>some (.lst l)) (ak (dj (j4 40) (ak (dj (jg 40) (ak (bw 6) (ak (bw 3) d9))) d9)) d9))) (qH bs hs ss n du hand here g D to A R false a (some (.lst GV,true)) o8 o9 o10 o11 sto)
      = some (.ret (.lst (GV++[agT (bh D hand to a)])),qH bs hs ss n du hand here g D to A R false a (some (.lst GV,true)) o8 o9 o10 o11 sto):=by
    generalize jg 40=F1 at *
    generalize j4 40=F2 at *
    simp [iw,jc,sIf,jw,sNew,jr,m7,sNx,g8,sGo,dw,m9,dz,fu,jf,gq,uc,u6,mOr,jm,mIf,mOp,mUn,bw,gb,ak,d9,aq,ji,dj,dh,hName,m5,gn,jy,ltT,leT,ql,lu,tu,m6,j6,qb,sy,jh,j5,d8,qx,Bc,lb,ag,lG]
  unfold aa9
  rw [jq N7,jq Fo,Re]
end
end K
end
noncomputable section
set_option linter.all false
set_option maxRecDepth 100000
set_option maxHeartbeats 1000000
set_option autoImplicit false
namespace K
open C PySem
noncomputable abbrev qI (bs:List Bx) (hs:List Hd) (ss:List T) (n:Nat) (o:T) (a b c d:Slot) (sto:List SO):Sta:=⟨[some (prT bs hs ss,false),some (.obj n,false),some (o,false),a,b,c,d,none,none,none,none,none],sto⟩
noncomputable abbrev qJ (bs:List Bx) (hs:List Hd) (ss:List T) (n:Nat) (o:T) (hand:Str) (here:Int) (g:Rem) (D:List (Str × Sm)) (to:Int) (b c d:Slot) (sto:List SO):Sta:=qI bs hs ss n o (some (stT hand here (jz g) D to,false)) b c d sto
theorem ac9:eqO (.str "own") (.str "start")=some (.bl false):=eqC (by decide +kernel)
theorem ac2:eqO (.str "other") (.str "start")=some (.bl false):=eqC (by decide +kernel)
theorem ac5:eqO (.str "start") (.str "start")=some (.bl true):=eqC (by decide +kernel)
theorem acr:eqO (.str "own") (.str "other")=some (.bl false):=eqC (by decide +kernel)
theorem ad2:eqO (.str "other") (.str "other")=some (.bl true):=eqC (by decide +kernel)
theorem adg:eqO (.str "own") (.str "own")=some (.bl true):=eqC (by decide +kernel)
theorem acz:eqO (.str "other") (.str "own")=some (.bl false):=eqC (by decide +kernel)
noncomputable def Cv (i:Int):T:=.tup [.str "own",.int i]
noncomputable def Af (i:Int) (h:Str) (p:Int):T:=.tup [.str "other",.int i,.str h,.int p]
noncomputable section
variable {sto:List SO} {bs:List Bx} {hs:List Hd} {ss:List T} {n:Nat} {kvs:List (List C.Key × T)} {hand h2:Str} {D:List (Str × Sm)} {here to i p2:Int} {g r0 a r2:Rem}
theorem a70 {c:M Bool} {x:S} {s s1:Sta} (h:c s=some (false,s1)):sIf c x m7 s=some (.next,s1):=by unfold sIf; rw [h]; rfl
theorem a5b {i:Nat} {e:M T} {s s1:Sta} {t:T} (h:e s=some (t,s1)):sNew i e s=some (.next,dh i t true s1):=by unfold sNew; rw [h]
theorem Ue (c:Ctx kvs bs D hand g) (hb:∀ b∈bs,okS b.nm) (hbD:∀ p∈D,okS p.1) (hs':sto[n]? = some (.dit kvs)) (hi:bx (.lst ss) (.int i)=some (stT hand here (jz g) D to)) (k0:Okk kvs Bd ((hand,here),r0)) (ka:Okk kvs Bd ((hand,to),a)) :
    uf [prT bs hs ss,.obj n,Cv i] sto=some (.lst (Uv bs D g [((hand,here),r0)]++[agT (bh D hand to a)]),sto):=by
  have pa:=K5 (sto:=sto) (i:=here) k0.s k0.l
  have pr:=(Bj (sto:=sto) k0.r 40 (by decide)).1
  obtain ⟨s',T',Ts⟩:=Vq (sto:=sto) (hs:=hs) (ss:=ss) (n:=n) (here:=here) (to:=to) (du:=some (Cv i,false)) (A:=[eqF ("@" ++ hand) here]) (R:=[pfT r0]) c hb hbD (by simp) (by simp) ka.r
  have o0:bx (Cv i) (.int 0)=some (.str "own"):=yc
  have o1:bx (Cv i) (.int 1)=some (.int i):=wu
  have S1:sIf (gq (mOp eqO (mOp bx (bw 2) (aq (.int 0))) (aq (.str "start")))) (jr (dj vg (ak (bw 0) (ak (bw 1) (ak (mOp bx (bw 2) (aq (.int 1))) d9))))) m7 (qI bs hs ss n (Cv i) none none none none sto)=some (.next,qI bs hs ss n (Cv i) none none none none sto):=a70 (by simp [iw,jc,sIf,jw,sNew,jr,m7,sNx,g8,sGo,dw,m9,dz,fu,jf,gq,uc,u6,mOr,jm,mIf,mOp,mUn,bw,gb,ak,d9,aq,ji,dj,dh,hName,m5,gn,jy,ltT,leT,ql,lu,tu,m6,j6,qb,sy,jh,j5,d8,qx,o0,ac9])
  have S2:jw 3 (mOp bx (mOp bx (bw 0) (aq (.int 2))) (mOp bx (bw 2) (aq (.int 1)))) (qI bs hs ss n (Cv i) none none none none sto)=some (.next,qJ bs hs ss n (Cv i) hand here g D to none none none sto):=(ys (zo (zo rfl rfl rfl) (zo rfl rfl rfl) hi) rfl)
  have S3:sNew 4 (gb (fun l=>some (.lst l)) (ak (dj (ig 40) (ak (gb (fun l=>some (.tup l)) (ak (aq (.str "at")) (ak (mOp bx (bw 3) (aq (.int 0))) (ak (mOp bx (bw 3) (aq (.int 1))) d9)))) d9)) d9)) (qJ bs hs ss n (Cv i) hand here g D to none none none sto)=some (.next,qJ bs hs ss n (Cv i) hand here g D to (some (.lst [eqF ("@" ++ hand) here],true)) none none sto):=by
    generalize ig 40=F at *
    exact (yn (zm (zc (zf (zc (zm (zc rfl (zc (zo rfl rfl rfl) (zc (zo rfl rfl rfl) rfl))) rfl) rfl) pa) rfl) rfl) rfl)
  have G4:kh (bw 1) (gb (fun l=>some (.tup l)) (ak (mOp bx (bw 3) (aq (.int 0))) (ak (mOp bx (bw 3) (aq (.int 1))) d9))) (qJ bs hs ss n (Cv i) hand here g D to (some (.lst [eqF ("@" ++ hand) here],true)) none none sto)=some (jz r0,qJ bs hs ss n (Cv i) hand here g D to (some (.lst [eqF ("@" ++ hand) here],true)) none none sto) :=
    Cm (n:=n) rfl (by simp [iw,jc,sIf,jw,sNew,jr,m7,sNx,g8,sGo,dw,m9,dz,fu,jf,gq,uc,u6,mOr,jm,mIf,mOp,mUn,bw,gb,ak,d9,aq,ji,dj,dh,hName,m5,gn,jy,ltT,leT,ql,lu,tu,m6,j6,qb,sy,jh,j5,d8,qx,st0,st1]) hs' ks2 k0.x
  have S4:sNew 5 (gb (fun l=>some (.lst l)) (ak (dj (ig 40) (ak (kh (bw 1) (gb (fun l=>some (.tup l)) (ak (mOp bx (bw 3) (aq (.int 0))) (ak (mOp bx (bw 3) (aq (.int 1))) d9)))) d9)) d9)) (qJ bs hs ss n (Cv i) hand here g D to (some (.lst [eqF ("@" ++ hand) here],true)) none none sto)=some (.next,qJ bs hs ss n (Cv i) hand here g D to (some (.lst [eqF ("@" ++ hand) here],true)) (some (.lst [pfT r0],true)) none sto) :=
    a5b (a1e (Qm G4 pr) rfl)
  have G5:kh (bw 1) (gb (fun l=>some (.tup l)) (ak (mOp bx (bw 3) (aq (.int 0))) (ak (mOp bx (bw 3) (aq (.int 4))) d9))) (qJ bs hs ss n (Cv i) hand here g D to (some (.lst [eqF ("@" ++ hand) here],true)) (some (.lst [pfT r0],true)) none sto)=some (jz a,qJ bs hs ss n (Cv i) hand here g D to (some (.lst [eqF ("@" ++ hand) here],true)) (some (.lst [pfT r0],true)) none sto) :=
    Cm (n:=n) rfl (by simp [iw,jc,sIf,jw,sNew,jr,m7,sNx,g8,sGo,dw,m9,dz,fu,jf,gq,uc,u6,mOr,jm,mIf,mOp,mUn,bw,gb,ak,d9,aq,ji,dj,dh,hName,m5,gn,jy,ltT,leT,ql,lu,tu,m6,j6,qb,sy,jh,j5,d8,qx,st0,st4]) hs' ks2 ka.x
  have S5:jw 6 (kh (bw 1) (gb (fun l=>some (.tup l)) (ak (mOp bx (bw 3) (aq (.int 0))) (ak (mOp bx (bw 3) (aq (.int 4))) d9)))) (qJ bs hs ss n (Cv i) hand here g D to (some (.lst [eqF ("@" ++ hand) here],true)) (some (.lst [pfT r0],true)) none sto)=some (.next,qJ bs hs ss n (Cv i) hand here g D to (some (.lst [eqF ("@" ++ hand) here],true)) (some (.lst [pfT r0],true)) (some (jz a,false)) sto):=Ko G5
  have S6:∀ x:S,sIf (gq (mOp eqO (mOp bx (bw 2) (aq (.int 0))) (aq (.str "other")))) x m7 (qJ bs hs ss n (Cv i) hand here g D to (some (.lst [eqF ("@" ++ hand) here],true)) (some (.lst [pfT r0],true)) (some (jz a,false)) sto)=some (.next,qJ bs hs ss n (Cv i) hand here g D to (some (.lst [eqF ("@" ++ hand) here],true)) (some (.lst [pfT r0],true)) (some (jz a,false)) sto):=fun x=>a70 (by simp [iw,jc,sIf,jw,sNew,jr,m7,sNx,g8,sGo,dw,m9,dz,fu,jf,gq,uc,u6,mOr,jm,mIf,mOp,mUn,bw,gb,ak,d9,aq,ji,dj,dh,hName,m5,gn,jy,ltT,leT,ql,lu,tu,m6,j6,qb,sy,jh,j5,d8,qx,o0,acr])
  unfold uf iw
  show (match jc _ _ (qI bs hs ss n (Cv i) none none none none sto) with | some (.ret t,s)=>some (t,s.sto) | some (.next,s)=>some (.non,s.sto) | _=>none)=_
  rw [jq S1,jq S2,jq S3,jq S4,jq S5,jq (S6 _)]
  unfold aa9 at T'
  rw [T']
  dsimp only
  rw [Ts]
  rfl
end
end K
end
noncomputable section
set_option linter.all false
set_option maxRecDepth 100000
set_option maxHeartbeats 1000000
set_option autoImplicit false
namespace K
open C PySem
noncomputable section
variable {sto:List SO} {bs:List Bx} {hs:List Hd} {ss:List T} {n:Nat} {kvs:List (List C.Key × T)} {hand h2:Str} {D:List (Str × Sm)} {here to i p2:Int} {g r0 a r2:Rem}
theorem Pu (c:Ctx kvs bs D hand g) (hb:∀ b∈bs,okS b.nm) (hbD:∀ p∈D,okS p.1) (hs':sto[n]? = some (.dit kvs)) (hi:bx (.lst ss) (.int i)=some (stT hand here (jz g) D to)) (k0:Okk kvs Bd ((hand,here),r0)) (ka:Okk kvs Bd ((hand,to),a)) (k2:Okk kvs Bd ((h2,p2),r2)) :
    uf [prT bs hs ss,.obj n,Af i h2 p2] sto=some (.lst (Uv bs D g [((hand,here),r0),((h2,p2),r2)]++[agT (bh D hand to r2)]),sto):=by
  have pa:=K5 (sto:=sto) (i:=here) k0.s k0.l
  have pr:=(Bj (sto:=sto) k0.r 40 (by decide)).1
  obtain ⟨s',T',Ts⟩:=Vq (sto:=sto) (hs:=hs) (ss:=ss) (n:=n) (here:=here) (to:=to) (du:=some (Af i h2 p2,false)) (A:=[eqF ("@" ++ hand) here,eqF ("@" ++ h2) p2]) (R:=[pfT r0,pfT r2]) (a:=r2) c hb hbD (by simp) (by simp) k2.r
  have o0:bx (Af i h2 p2) (.int 0)=some (.str "other"):=yc
  have o1:bx (Af i h2 p2) (.int 1)=some (.int i):=wu
  have S1:sIf (gq (mOp eqO (mOp bx (bw 2) (aq (.int 0))) (aq (.str "start")))) (jr (dj vg (ak (bw 0) (ak (bw 1) (ak (mOp bx (bw 2) (aq (.int 1))) d9))))) m7 (qI bs hs ss n (Af i h2 p2) none none none none sto)=some (.next,qI bs hs ss n (Af i h2 p2) none none none none sto):=a70 (by simp [iw,jc,sIf,jw,sNew,jr,m7,sNx,g8,sGo,dw,m9,dz,fu,jf,gq,uc,u6,mOr,jm,mIf,mOp,mUn,bw,gb,ak,d9,aq,ji,dj,dh,hName,m5,gn,jy,ltT,leT,ql,lu,tu,m6,j6,qb,sy,jh,j5,d8,qx,o0,ac2])
  have S2:jw 3 (mOp bx (mOp bx (bw 0) (aq (.int 2))) (mOp bx (bw 2) (aq (.int 1)))) (qI bs hs ss n (Af i h2 p2) none none none none sto)=some (.next,qJ bs hs ss n (Af i h2 p2) hand here g D to none none none sto):=(ys (zo (zo rfl rfl rfl) (zo rfl rfl rfl) hi) rfl)
  have S3:sNew 4 (gb (fun l=>some (.lst l)) (ak (dj (ig 40) (ak (gb (fun l=>some (.tup l)) (ak (aq (.str "at")) (ak (mOp bx (bw 3) (aq (.int 0))) (ak (mOp bx (bw 3) (aq (.int 1))) d9)))) d9)) d9)) (qJ bs hs ss n (Af i h2 p2) hand here g D to none none none sto)=some (.next,qJ bs hs ss n (Af i h2 p2) hand here g D to (some (.lst [eqF ("@" ++ hand) here],true)) none none sto):=by
    generalize ig 40=F at *
    exact (yn (zm (zc (zf (zc (zm (zc rfl (zc (zo rfl rfl rfl) (zc (zo rfl rfl rfl) rfl))) rfl) rfl) pa) rfl) rfl) rfl)
  have G4:kh (bw 1) (gb (fun l=>some (.tup l)) (ak (mOp bx (bw 3) (aq (.int 0))) (ak (mOp bx (bw 3) (aq (.int 1))) d9))) (qJ bs hs ss n (Af i h2 p2) hand here g D to (some (.lst [eqF ("@" ++ hand) here],true)) none none sto)=some (jz r0,qJ bs hs ss n (Af i h2 p2) hand here g D to (some (.lst [eqF ("@" ++ hand) here],true)) none none sto) :=
    Cm (n:=n) rfl (by simp [iw,jc,sIf,jw,sNew,jr,m7,sNx,g8,sGo,dw,m9,dz,fu,jf,gq,uc,u6,mOr,jm,mIf,mOp,mUn,bw,gb,ak,d9,aq,ji,dj,dh,hName,m5,gn,jy,ltT,leT,ql,lu,tu,m6,j6,qb,sy,jh,j5,d8,qx,st0,st1]) hs' ks2 k0.x
  have S4:sNew 5 (gb (fun l=>some (.lst l)) (ak (dj (ig 40) (ak (kh (bw 1) (gb (fun l=>some (.tup l)) (ak (mOp bx (bw 3) (aq (.int 0))) (ak (mOp bx (bw 3) (aq (.int 1))) d9)))) d9)) d9)) (qJ bs hs ss n (Af i h2 p2) hand here g D to (some (.lst [eqF ("@" ++ hand) here],true)) none none sto)=some (.next,qJ bs hs ss n (Af i h2 p2) hand here g D to (some (.lst [eqF ("@" ++ hand) here],true)) (some (.lst [pfT r0],true)) none sto) :=
    a5b (a1e (Qm G4 pr) rfl)
  have G5:kh (bw 1) (gb (fun l=>some (.tup l)) (ak (mOp bx (bw 3) (aq (.int 0))) (ak (mOp bx (bw 3) (aq (.int 4))) d9))) (qJ bs hs ss n (Af i h2 p2) hand here g D to (some (.lst [eqF ("@" ++ hand) here],true)) (some (.lst [pfT r0],true)) none sto)=some (jz a,qJ bs hs ss n (Af i h2 p2) hand here g D to (some (.lst [eqF ("@" ++ hand) here],true)) (some (.lst [pfT r0],true)) none sto) :=
    Cm (n:=n) rfl (by simp [iw,jc,sIf,jw,sNew,jr,m7,sNx,g8,sGo,dw,m9,dz,fu,jf,gq,uc,u6,mOr,jm,mIf,mOp,mUn,bw,gb,ak,d9,aq,ji,dj,dh,hName,m5,gn,jy,ltT,leT,ql,lu,tu,m6,j6,qb,sy,jh,j5,d8,qx,st0,st4]) hs' ks2 ka.x
  have S5:jw 6 (kh (bw 1) (gb (fun l=>some (.tup l)) (ak (mOp bx (bw 3) (aq (.int 0))) (ak (mOp bx (bw 3) (aq (.int 4))) d9)))) (qJ bs hs ss n (Af i h2 p2) hand here g D to (some (.lst [eqF ("@" ++ hand) here],true)) (some (.lst [pfT r0],true)) none sto)=some (.next,qJ bs hs ss n (Af i h2 p2) hand here g D to (some (.lst [eqF ("@" ++ hand) here],true)) (some (.lst [pfT r0],true)) (some (jz a,false)) sto):=Ko G5
  have o2:bx (Af i h2 p2) (.int 2)=some (.str h2):=Cg
  have o3:bx (Af i h2 p2) (.int 3)=some (.int p2):=Vp
  have pa2:=K5 (sto:=sto) (i:=p2) k2.s k2.l
  have pr2':=(Bj (sto:=sto) k2.r 40 (by decide)).1
  have G6:kh (bw 1) (gb (fun l=>some (.tup l)) (ak (mOp bx (bw 2) (aq (.int 2))) (ak (mOp bx (bw 2) (aq (.int 3))) d9))) (qJ bs hs ss n (Af i h2 p2) hand here g D to (some (.lst [eqF ("@" ++ hand) here],true)) (some (.lst [pfT r0],true)) (some (jz a,false)) sto)=some (jz r2,qJ bs hs ss n (Af i h2 p2) hand here g D to (some (.lst [eqF ("@" ++ hand) here],true)) (some (.lst [pfT r0],true)) (some (jz a,false)) sto):=Cm (n:=n) rfl (by simp [iw,jc,sIf,jw,sNew,jr,m7,sNx,g8,sGo,dw,m9,dz,fu,jf,gq,uc,u6,mOr,jm,mIf,mOp,mUn,bw,gb,ak,d9,aq,ji,dj,dh,hName,m5,gn,jy,ltT,leT,ql,lu,tu,m6,j6,qb,sy,jh,j5,d8,qx,o2,o3]) hs' ks2 k2.x
  have S61:jw 6 (kh (bw 1) (gb (fun l=>some (.tup l)) (ak (mOp bx (bw 2) (aq (.int 2))) (ak (mOp bx (bw 2) (aq (.int 3))) d9)))) (qJ bs hs ss n (Af i h2 p2) hand here g D to (some (.lst [eqF ("@" ++ hand) here],true)) (some (.lst [pfT r0],true)) (some (jz a,false)) sto)=some (.next,qJ bs hs ss n (Af i h2 p2) hand here g D to (some (.lst [eqF ("@" ++ hand) here],true)) (some (.lst [pfT r0],true)) (some (jz r2,false)) sto):=Ko G6
  have S62:dz 4 (dj (ig 40) (ak (gb (fun l=>some (.tup l)) (ak (aq (.str "at")) (ak (mOp bx (bw 2) (aq (.int 2))) (ak (mOp bx (bw 2) (aq (.int 3))) d9)))) d9)) (qJ bs hs ss n (Af i h2 p2) hand here g D to (some (.lst [eqF ("@" ++ hand) here],true)) (some (.lst [pfT r0],true)) (some (jz r2,false)) sto)=some (.next,qJ bs hs ss n (Af i h2 p2) hand here g D to (some (.lst [eqF ("@" ++ hand) here,eqF ("@" ++ h2) p2],true)) (some (.lst [pfT r0],true)) (some (jz r2,false)) sto):=by
    have l1:(1:Nat)<lim:=by decide
    generalize ig 40=F at *
    simp [iw,jc,sIf,jw,sNew,jr,m7,sNx,g8,sGo,dw,m9,dz,fu,jf,gq,uc,u6,mOr,jm,mIf,mOp,mUn,bw,gb,ak,d9,aq,ji,dj,dh,hName,m5,gn,jy,ltT,leT,ql,lu,tu,m6,j6,qb,sy,jh,j5,d8,qx,o2,o3,pa2,l1]
  have S63:dz 5 (dj (ig 40) (ak (bw 6) d9)) (qJ bs hs ss n (Af i h2 p2) hand here g D to (some (.lst [eqF ("@" ++ hand) here,eqF ("@" ++ h2) p2],true)) (some (.lst [pfT r0],true)) (some (jz r2,false)) sto)=some (.next,qJ bs hs ss n (Af i h2 p2) hand here g D to (some (.lst [eqF ("@" ++ hand) here,eqF ("@" ++ h2) p2],true)) (some (.lst [pfT r0,pfT r2],true)) (some (jz r2,false)) sto):=by
    have l1:(1:Nat)<lim:=by decide
    generalize ig 40=F at *
    simp [iw,jc,sIf,jw,sNew,jr,m7,sNx,g8,sGo,dw,m9,dz,fu,jf,gq,uc,u6,mOr,jm,mIf,mOp,mUn,bw,gb,ak,d9,aq,ji,dj,dh,hName,m5,gn,jy,ltT,leT,ql,lu,tu,m6,j6,qb,sy,jh,j5,d8,qx,pr2',l1]
  have S6:sIf (gq (mOp eqO (mOp bx (bw 2) (aq (.int 0))) (aq (.str "other")))) (jc (jw 6 (kh (bw 1) (gb (fun l=>some (.tup l)) (ak (mOp bx (bw 2) (aq (.int 2))) (ak (mOp bx (bw 2) (aq (.int 3))) d9))))) (jc (dz 4 (dj (ig 40) (ak (gb (fun l=>some (.tup l)) (ak (aq (.str "at")) (ak (mOp bx (bw 2) (aq (.int 2))) (ak (mOp bx (bw 2) (aq (.int 3))) d9)))) d9))) (dz 5 (dj (ig 40) (ak (bw 6) d9))))) m7 (qJ bs hs ss n (Af i h2 p2) hand here g D to (some (.lst [eqF ("@" ++ hand) here],true)) (some (.lst [pfT r0],true)) (some (jz a,false)) sto)=some (.next,qJ bs hs ss n (Af i h2 p2) hand here g D to (some (.lst [eqF ("@" ++ hand) here,eqF ("@" ++ h2) p2],true)) (some (.lst [pfT r0,pfT r2],true)) (some (jz r2,false)) sto):=by
    have ct:gq (mOp eqO (mOp bx (bw 2) (aq (.int 0))) (aq (.str "other"))) (qJ bs hs ss n (Af i h2 p2) hand here g D to (some (.lst [eqF ("@" ++ hand) here],true)) (some (.lst [pfT r0],true)) (some (jz a,false)) sto)=some (true,qJ bs hs ss n (Af i h2 p2) hand here g D to (some (.lst [eqF ("@" ++ hand) here],true)) (some (.lst [pfT r0],true)) (some (jz a,false)) sto):=(zt (zo (zo rfl rfl rfl) rfl ad2))
    unfold sIf
    rw [ct]
    dsimp only
    rw [jq S61,jq S62]
    exact S63
  unfold uf iw
  show (match jc _ _ (qI bs hs ss n (Af i h2 p2) none none none none sto) with | some (.ret t,s)=>some (t,s.sto) | some (.next,s)=>some (.non,s.sto) | _=>none)=_
  rw [jq S1,jq S2,jq S3,jq S4,jq S5,jq S6]
  unfold aa9 at T'
  rw [T']
  dsimp only
  rw [Ts]
  rfl
end
end K
end
noncomputable section
set_option linter.all false
set_option maxRecDepth 100000
set_option maxHeartbeats 1000000
set_option autoImplicit false
namespace K
open C PySem
noncomputable abbrev qK (bs:List Bx) (hs:List Hd) (ss:List T) (n:Nat) (o:T) (a b c:Slot) (sto:List SO):Sta:=⟨[some (prT bs hs ss,false),some (.obj n,false),some (o,false),a,b,c],sto⟩
noncomputable abbrev qL (bs:List Bx) (hs:List Hd) (ss:List T) (n:Nat) (o:T) (hand:Str) (here:Int) (g:Rem) (D:List (Str × Sm)) (to:Int) (b c:Slot) (sto:List SO):Sta:=qK bs hs ss n o (some (stT hand here (jz g) D to,false)) b c sto
noncomputable def Xi (h:Str):T:=.tup [.str "start",.str h]
noncomputable section
variable {sto:List SO} {bs:List Bx} {hs:List Hd} {ss:List T} {n:Nat} {kvs:List (List C.Key × T)} {hand h2:Str} {D:List (Str × Sm)} {here to i p2:Int} {g r0 a r2 r:Rem} {Q:Sm→Prop} {d:Nat}
theorem acy {c:M Bool} {x y:S} {s s1:Sta} (h:c s=some (true,s1)):sIf c x y s=x s1:=by unfold sIf; rw [h]
theorem ab6 {c:M Bool} {x y:S} {s s1:Sta} (h:c s=some (false,s1)):sIf c x y s=y s1:=by unfold sIf; rw [h]
theorem Nq (lb:bs.length≤3) (lh:hs.length≤4) (hn:∀ h∈hs,h.1.length<100) (hs':sto[n]? = some (.dit kvs)) (hx:Dv [.inr hand,.inl 0] kvs=some (jz r)) (o:OkR Q d r) (hd:d<40) :
    uf [prT bs hs ss,.obj n,Xi hand] sto=some (.lst (startT bs hs r),sto):=by
  have e:=Zg (ss:=ss) lb lh hn hs' hx o hd
  have o0:bx (Xi hand) (.int 0)=some (.str "start"):=yc
  have o1:bx (Xi hand) (.int 1)=some (.str hand):=wu
  unfold uf
  generalize vg=F at *
  simp [iw,jc,sIf,jw,sNew,jr,m7,sNx,g8,sGo,dw,m9,dz,fu,jf,gq,uc,u6,mOr,jm,mIf,mOp,mUn,bw,gb,ak,d9,aq,ji,dj,dh,hName,m5,gn,jy,ltT,leT,ql,lu,tu,m6,j6,qb,sy,jh,j5,d8,qx,o0,o1,ac5,e]
theorem Wr (lb:bs.length≤3) (lh:hs.length≤4) (hn:∀ h∈hs,h.1.length<100) (hs':sto[n]? = some (.dit kvs)) (hx:Dv [.inr hand,.inl 0] kvs=some (jz r)) (o:OkR Q d r) (hd:d<40) :
    lg [prT bs hs ss,.obj n,Xi hand] sto=some (.lst (startT bs hs r),sto):=by
  have e:=Ub (ss:=ss) lb lh hn hs' hx o hd
  have o0:bx (Xi hand) (.int 0)=some (.str "start"):=yc
  have o1:bx (Xi hand) (.int 1)=some (.str hand):=wu
  unfold lg
  generalize vd=F at *
  simp [iw,jc,sIf,jw,sNew,jr,m7,sNx,g8,sGo,dw,m9,dz,fu,jf,gq,uc,u6,mOr,jm,mIf,mOp,mUn,bw,gb,ak,d9,aq,ji,dj,dh,hName,m5,gn,jy,ltT,leT,ql,lu,tu,m6,j6,qb,sy,jh,j5,d8,qx,o0,o1,ac5,e]
theorem a3g (c:Ctx kvs bs D hand g) (hs':sto[n]? = some (.dit kvs)) (hi:bx (.lst ss) (.int i)=some (stT hand here (jz g) D to)) (k0:Okk kvs Bd ((hand,here),r0)) (ka:Okk kvs Bd ((hand,to),a)) :
    lg [prT bs hs ss,.obj n,Cv i] sto=some (.lst (Uv bs D g [((hand,here),r0)]++[agT (bh D hand to a)]),sto):=by
  have e:=Mq (sto:=sto) (hs:=hs) (ss:=ss) (n:=n) (here:=here) (to:=to) (ot:=[]) (r0:=r0) (a:=a) c (by simp) hs' (fun p hp=>by rw [List.mem_singleton] at hp; subst hp; exact k0) ka.r
  rw [List.map_nil] at e
  have o0:bx (Cv i) (.int 0)=some (.str "own"):=yc
  have o1:bx (Cv i) (.int 1)=some (.int i):=wu
  have C1:gq (mOp eqO (mOp bx (bw 2) (aq (.int 0))) (aq (.str "start"))) (qK bs hs ss n (Cv i) none none none sto)=some (false,qK bs hs ss n (Cv i) none none none sto):=(zt (zo (zo rfl rfl rfl) rfl ac9))
  have S3:jw 3 (mOp bx (mOp bx (bw 0) (aq (.int 2))) (mOp bx (bw 2) (aq (.int 1)))) (qK bs hs ss n (Cv i) none none none sto)=some (.next,qL bs hs ss n (Cv i) hand here g D to none none sto):=(ys (zo (zo rfl rfl rfl) (zo rfl rfl rfl) hi) rfl)
  have C2:gq (mOp eqO (mOp bx (bw 2) (aq (.int 0))) (aq (.str "own"))) (qL bs hs ss n (Cv i) hand here g D to none none sto)=some (true,qL bs hs ss n (Cv i) hand here g D to none none sto):=(zt (zo (zo rfl rfl rfl) rfl adg))
  have G:kh (bw 1) (gb (fun l=>some (.tup l)) (ak (mOp bx (bw 3) (aq (.int 0))) (ak (mOp bx (bw 3) (aq (.int 4))) d9))) (qL bs hs ss n (Cv i) hand here g D to none none sto)=some (jz a,qL bs hs ss n (Cv i) hand here g D to none none sto):=Cm (n:=n) rfl (by simp [iw,jc,sIf,jw,sNew,jr,m7,sNx,g8,sGo,dw,m9,dz,fu,jf,gq,uc,u6,mOr,jm,mIf,mOp,mUn,bw,gb,ak,d9,aq,ji,dj,dh,hName,m5,gn,jy,ltT,leT,ql,lu,tu,m6,j6,qb,sy,jh,j5,d8,qx,st0,st4]) hs' ks2 ka.x
  have S4:jw 4 (kh (bw 1) (gb (fun l=>some (.tup l)) (ak (mOp bx (bw 3) (aq (.int 0))) (ak (mOp bx (bw 3) (aq (.int 4))) d9)))) (qL bs hs ss n (Cv i) hand here g D to none none sto)=some (.next,qL bs hs ss n (Cv i) hand here g D to (some (jz a,false)) none sto):=Ko G
  have S5:jr (dj qg (ak (bw 0) (ak (bw 1) (ak (bw 3) (ak (gb (fun l=>some (.lst l)) d9) (ak (bw 4) d9)))))) (qL bs hs ss n (Cv i) hand here g D to (some (jz a,false)) none sto)=some (.ret (.lst (Uv bs D g [((hand,here),r0)]++[agT (bh D hand to a)])),qL bs hs ss n (Cv i) hand here g D to (some (jz a,false)) none sto):=by
    generalize qg=F at *
    simp [iw,jc,sIf,jw,sNew,jr,m7,sNx,g8,sGo,dw,m9,dz,fu,jf,gq,uc,u6,mOr,jm,mIf,mOp,mUn,bw,gb,ak,d9,aq,ji,dj,dh,hName,m5,gn,jy,ltT,leT,ql,lu,tu,m6,j6,qb,sy,jh,j5,d8,qx,e]
  unfold lg iw
  show (match sIf _ _ _ (qK bs hs ss n (Cv i) none none none sto) with | some (.ret t,s)=>some (t,s.sto) | some (.next,s)=>some (.non,s.sto) | _=>none)=_
  rw [ab6 C1,zp S3,acy C2,zp S4,S5]
theorem Wm (c:Ctx kvs bs D hand g) (hs':sto[n]? = some (.dit kvs)) (hi:bx (.lst ss) (.int i)=some (stT hand here (jz g) D to)) (k0:Okk kvs Bd ((hand,here),r0)) (k2:Okk kvs Bd ((h2,p2),r2)) :
    lg [prT bs hs ss,.obj n,Af i h2 p2] sto=some (.lst (Uv bs D g [((hand,here),r0),((h2,p2),r2)]++[agT (bh D hand to r2)]),sto):=by
  have e:=Mq (sto:=sto) (hs:=hs) (ss:=ss) (n:=n) (here:=here) (to:=to) (ot:=[((h2,p2),r2)]) (r0:=r0) (a:=r2) c (by simp) hs' (fun p hp=>by
    rcases List.mem_cons.mp hp with z | z
    · subst z; exact k0
    · rw [List.mem_singleton] at z; subst z; exact k2) k2.r
  rw [List.map_cons,List.map_nil] at e
  have o0:bx (Af i h2 p2) (.int 0)=some (.str "other"):=yc
  have o1:bx (Af i h2 p2) (.int 1)=some (.int i):=wu
  have o2:bx (Af i h2 p2) (.int 2)=some (.str h2):=Cg
  have o3:bx (Af i h2 p2) (.int 3)=some (.int p2):=Vp
  have C1:gq (mOp eqO (mOp bx (bw 2) (aq (.int 0))) (aq (.str "start"))) (qK bs hs ss n (Af i h2 p2) none none none sto)=some (false,qK bs hs ss n (Af i h2 p2) none none none sto):=(zt (zo (zo rfl rfl rfl) rfl ac2))
  have S3:jw 3 (mOp bx (mOp bx (bw 0) (aq (.int 2))) (mOp bx (bw 2) (aq (.int 1)))) (qK bs hs ss n (Af i h2 p2) none none none sto)=some (.next,qL bs hs ss n (Af i h2 p2) hand here g D to none none sto):=(ys (zo (zo rfl rfl rfl) (zo rfl rfl rfl) hi) rfl)
  have C2:gq (mOp eqO (mOp bx (bw 2) (aq (.int 0))) (aq (.str "own"))) (qL bs hs ss n (Af i h2 p2) hand here g D to none none sto)=some (false,qL bs hs ss n (Af i h2 p2) hand here g D to none none sto):=(zt (zo (zo rfl rfl rfl) rfl acz))
  have S4:jw 5 (gb (fun l=>some (.tup l)) (ak (mOp bx (bw 2) (aq (.int 2))) (ak (mOp bx (bw 2) (aq (.int 3))) d9))) (qL bs hs ss n (Af i h2 p2) hand here g D to none none sto)=some (.next,qL bs hs ss n (Af i h2 p2) hand here g D to none (some (kT ((h2,p2),r2),false)) sto):=(ys (zm (zc (zo rfl rfl rfl) (zc (zo rfl rfl rfl) rfl)) rfl) rfl)
  have G:kh (bw 1) (bw 5) (qL bs hs ss n (Af i h2 p2) hand here g D to none (some (kT ((h2,p2),r2),false)) sto)=some (jz r2,qL bs hs ss n (Af i h2 p2) hand here g D to none (some (kT ((h2,p2),r2),false)) sto):=Cm (n:=n) (ts:=[.str h2,.int p2]) rfl rfl hs' ks2 k2.x
  have S5:jr (dj qg (ak (bw 0) (ak (bw 1) (ak (bw 3) (ak (gb (fun l=>some (.lst l)) (ak (bw 5) d9)) (ak (kh (bw 1) (bw 5)) d9)))))) (qL bs hs ss n (Af i h2 p2) hand here g D to none (some (kT ((h2,p2),r2),false)) sto)=some (.ret (.lst (Uv bs D g [((hand,here),r0),((h2,p2),r2)]++[agT (bh D hand to r2)])),qL bs hs ss n (Af i h2 p2) hand here g D to none (some (kT ((h2,p2),r2),false)) sto):=by
    generalize qg=F at *
    simp [iw,jc,sIf,jw,sNew,jr,m7,sNx,g8,sGo,dw,m9,dz,fu,jf,gq,uc,u6,mOr,jm,mIf,mOp,mUn,bw,gb,ak,d9,aq,ji,dj,dh,hName,m5,gn,jy,ltT,leT,ql,lu,tu,m6,j6,qb,sy,jh,j5,d8,qx,G,e]
  unfold lg iw
  show (match sIf _ _ _ (qK bs hs ss n (Af i h2 p2) none none none sto) with | some (.ret t,s)=>some (t,s.sto) | some (.next,s)=>some (.non,s.sto) | _=>none)=_
  rw [ab6 C1,zp S3,ab6 C2,zp S4,S5]
end
end K
end
noncomputable section
set_option linter.all false
set_option maxRecDepth 100000
set_option maxHeartbeats 1000000
set_option autoImplicit false
namespace K
open C PySem
theorem Hi (s:String):okS (Str.ofString s):=by
  unfold okS PyData.canLay0 PyData.strOk
  rw [Str.ofString_eq_toList]
  simp only [List.all_toArray,List.all_map,List.all_eq_true,Function.comp,decide_eq_true_eq]
  intro c _
  have:=c.valid
  simp only [UInt32.isValidChar,Nat.isValidChar] at this
  show c.val.toNat<_
  omega
theorem Pb {a b:Str} (ha:okS a) (hb:okS b):okS (a++b):=by
  unfold okS PyData.canLay0 PyData.strOk at *
  rw [show (a++b).cps=a.cps++b.cps from rfl,Array.all_append,ha,hb]; rfl
theorem _root_.C.Pl.up {n m:Nat} {t:T} (h:Pl n t) (hm:n≤m):Pl m t:=by
  obtain ⟨d,a,b⟩:=h
  exact ⟨d,a,Nat.le_trans b hm⟩
theorem pl2 {n:Nat} {a b:T} (ha:Pl n a) (hb:Pl n b):Pl (n+1) (.tup [a,b]):=Gv fun t ht=>by
  simp only [List.mem_cons,List.not_mem_nil,or_false] at ht
  rcases ht with rfl | rfl
  · exact ha
  · exact hb
theorem pl3 {n:Nat} {a b c:T} (ha:Pl n a) (hb:Pl n b) (hc:Pl n c):Pl (n+1) (.tup [a,b,c]):=Gv fun t ht=>by
  simp only [List.mem_cons,List.not_mem_nil,or_false] at ht
  rcases ht with rfl | rfl | rfl
  · exact ha
  · exact hb
  · exact hc
theorem pl1 {n:Nat} {a:T} (ha:Pl n a):Pl (n+1) (.tup [a]):=Gv fun t ht=>by
  rw [List.mem_singleton] at ht; subst ht; exact ha
theorem a5x {s:Sm} (hs:Bp U3 s):Pl 3 (smT s):=by
  unfold smT
  refine pl2 (Nh _ _) (Gv fun t ht=>?_)
  obtain ⟨p,hp,rfl⟩:=List.mem_map.mp ht
  exact pl2 (a1a _ (a5s.ok _ (hs.sub _ (List.mem_map.mpr ⟨p,hp,rfl⟩)))) (Nh _ _)
theorem ab2 {a b:Sm}:Bp U3 (ls a b):=Fi nd3
theorem a2z {a b:Sm}:Pl 3 (smT (ls a b)):=a5x ab2
theorem U9 (n:Nat) (w:String):Pl n (.str (Str.ofString w)):=a1a n (Hi w)
theorem a2w {n:Int} {k:Int} {b:Str} (hb:okS b):Pl 4 (.tup [.str "most",.tup [.int n,.tup [.tup [.str b,.int k]]]]) :=
  pl2 (U9 _ _) (pl2 (Nh _ _) (pl1 (pl2 (n:=0) (a1a _ hb) (Nh _ _))))
theorem Vr {b:Str} {n:Int} (hb:okS b):Pl 6 (eqF b n):=pl2 (U9 _ _) (pl2 (a2w hb) (a2w hb))
theorem a99 {b:Str} {n:Int} (hb:okS b):Pl 6 (neF b n):=pl2 (U9 _ _) (pl2 (a2w hb) (a2w hb))
theorem abw {lo hi:Int} {s:Sm}:Pl 6 (wiT lo hi s):=pl2 (U9 _ _) (pl2 (pl2 (U9 _ _) a2z) (pl2 (U9 _ _) a2z))
theorem a3v {s:Sm} {m:Int}:Pl 5 (.tup (rests s m)):=by
  refine Gv (n:=4) fun t ht=>?_
  obtain ⟨k,_,rfl⟩:=List.mem_map.mp ht
  exact pl3 (U9 _ _) a2z (Nh _ _)
theorem Jc {Q:Sm→Prop} {d:Nat} {r:Rem} (h:OkR Q d r):Pl (6+2 * d) (pfT r)∧Pl (6+2 * d) (agT r):=by
  induction h with
  | @most d s a _=>exact ⟨by unfold pfT; exact (pl2 (n:=3) (U9 _ _) (a5x a)).up (by omega),by unfold agT; exact (pl2 (n:=3) (U9 _ _) a2z).up (by omega)⟩
  | @rest d s m a _ b c=>exact ⟨by unfold pfT; exact (pl3 (n:=3) (U9 _ _) (a5x a) (Nh _ _)).up (by omega),by unfold agT; exact (pl2 (n:=5) (U9 _ _) a3v).up (by omega)⟩
  | @pl d h p a b=>exact ⟨by unfold pfT; exact (Vr (Pb (Hi _) a)).up (by omega),by unfold agT; exact (a99 (Pb (Hi _) a)).up (by omega)⟩
  | @all d l hl _ ih =>
    constructor
    · unfold pfT; rw [Gb]
      refine (pl2 (n:=6+2 * d+1) (U9 _ _) (Gv fun t ht=>?_)).up (by omega)
      obtain ⟨x,hx,rfl⟩:=List.mem_map.mp ht
      exact (ih x hx).1
    · unfold agT; rw [Ge]
      refine (pl2 (n:=6+2 * d+1) (U9 _ _) (Gv fun t ht=>?_)).up (by omega)
      obtain ⟨x,hx,rfl⟩:=List.mem_map.mp ht
      exact (ih x hx).2
  | @any d l hl _ ih =>
    constructor
    · unfold pfT; rw [Gb]
      refine (pl2 (n:=6+2 * d+1) (U9 _ _) (Gv fun t ht=>?_)).up (by omega)
      obtain ⟨x,hx,rfl⟩:=List.mem_map.mp ht
      exact (ih x hx).1
    · unfold agT; rw [Ge]
      refine (pl2 (n:=6+2 * d+1) (U9 _ _) (Gv fun t ht=>?_)).up (by omega)
      obtain ⟨x,hx,rfl⟩:=List.mem_map.mp ht
      exact (ih x hx).2
  | @no d r _ ih=>exact ⟨by unfold pfT; exact ih.2.up (by omega),by unfold agT; exact ih.1.up (by omega)⟩
theorem a4d {bs:List Bx} {hs:List Hd} {Q:Sm→Prop} {d:Nat} {r:Rem} (hb:∀ b∈bs,okS b.nm) (hh:∀ h∈hs,okS h.1) (o:OkR Q d r) (hd:d≤11):neO (.lst (startT bs hs r)) (.lst (startT bs hs r))=some (.bl false):=by
  refine Wg (n:=6+2 * d+1) (a4v fun t ht=>?_) (by omega)
  unfold startT at ht
  rcases List.mem_append.mp ht with z | z
  · rcases List.mem_append.mp z with z | z
    · obtain ⟨b,h1,rfl⟩:=List.mem_map.mp z
      exact (Vr (hb b h1)).up (by omega)
    · obtain ⟨b,h1,rfl⟩:=List.mem_map.mp z
      exact (Vr (Pb (Hi _) (hh b h1))).up (by omega)
  · rw [List.mem_singleton] at z; subst z
    exact (Jc o).2
theorem a1d {kvs:List (List C.Key × T)} {bs:List Bx} {D:List (Str × Sm)} {hand:Str} {to:Int} {g a:Rem} {L:List ((Str × Int) × Rem)} (c:Ctx kvs bs D hand g) (ok:∀ p∈L,Okk kvs Bd p) (oa:OkR Bd 10 a):neO (.lst (Uv bs D g L++[agT (bh D hand to a)])) (.lst (Uv bs D g L++[agT (bh D hand to a)]))=some (.bl false):=by
  refine Wg (n:=29) (a4v (n:=28) fun t ht=>?_) (by decide)
  rcases List.mem_append.mp ht with z | z
  · unfold Uv at z
    rcases List.mem_append.mp z with z | z
    · rcases List.mem_append.mp z with z | z
      · rcases List.mem_append.mp z with z | z
        · obtain ⟨b,h1,rfl⟩:=List.mem_map.mp z
          exact (Vr (Pb (Hi _) (ok b h1).s)).up (by decide)
        · obtain ⟨b,h1,rfl⟩:=List.mem_map.mp z
          exact (Jc (ok b h1).r).1.up (by decide)
      · rw [List.mem_singleton] at z; subst z
        exact (Jc c.og).1.up (by decide)
    · obtain ⟨b,h1,rfl⟩:=List.mem_map.mp z
      exact abw.up (by decide)
  · rw [List.mem_singleton] at z; subst z
    exact (Jc (a67 (D:=D) (h:=hand) (to:=to) oa)).2
end K
end
noncomputable section
set_option linter.all false
set_option maxRecDepth 100000
set_option maxHeartbeats 1000000
set_option autoImplicit false
namespace K
open C PySem
structure Sp where
  hand:Str
  here:Int
  guard:Rem
  sets:List (Str × Sm)
  to:Int
noncomputable def spT (s:Sp):T:=stT s.hand s.here (jz s.guard) s.sets s.to
inductive Xw (hs:List Hd) (sp:List Sp):T→Prop where
  | sta {h:Hd}:h∈hs→Xw hs sp (Xi h.1)
  | own {i:Nat}:i<sp.length→Xw hs sp (Cv (i:Int))
  | oth {i p:Nat} {h:Hd}:i<sp.length→h∈hs→(p:Int)<h.2→Xw hs sp (Af (i:Int) h.1 (p:Int))
noncomputable section
variable {sto:List SO} {bs:List Bx} {hs:List Hd} {sp:List Sp}
theorem step_at {i:Nat} (hi:i<sp.length):bx (.lst (sp.map spT)) (.int (i:Int))=some (spT sp[i]):=O1 spT sp hi
noncomputable abbrev otB:S:=(sIf (gq (mOp neO (bw 3) (mOp bx (mOp bx (mOp bx (bw 0) (aq (.int 2))) (bw 1)) (aq (.int 0)))))
  (fu 2 (p7 1 [1,3] (hName 0) (gn (bw 4)) j5 (gb (fun l=>some (.tup l)) (ak (aq (.str "other")) (ak (bw 1) (ak (bw 2) (ak (bw 0) d9)))))))
  m7)
noncomputable abbrev qo (P:T) (i:Nat) (acc:List T) (a b:Slot) (sto:List SO):Sta:=⟨[some (P,false),some (.int (i:Int),false),some (.lst acc,true),a,b],sto⟩
theorem a0w {i:Nat} (hi:i<sp.length) (os:∀ s∈sp,okS s.hand) (oh:∀ h∈hs,okS h.1∧h.2≤3∧0≤h.2):∀ (l:List Hd) (acc:List T) (a b:Slot),(∀ h∈l,h∈hs)→(∀ t∈acc,Xw hs sp t)→acc.length+3 * l.length≤12 →
    ∃ (acc':List T) (a' b':Slot),forL (m5 [3,4]) otB (l.map hdT) (qo (prT bs hs (sp.map spT)) i acc a b sto)=some (.next,qo (prT bs hs (sp.map spT)) i acc' a' b' sto)∧(∀ t∈acc',Xw hs sp t)∧acc'.length≤12
  | [],acc,a,b,_,h1,h2=>⟨acc,a,b,by simp [forL],h1,by simpa using h2⟩
  | h::l,acc,a,b,hl,h1,h2=>by
    have hh:=hl h List.mem_cons_self
    obtain ⟨x1,x2,x3⟩:=oh h hh
    rw [List.length_cons] at h2
    obtain ⟨m,hm⟩:∃ m:Nat,h.2=(m:Int):=⟨h.2.toNat,by omega⟩
    have ne:=Zr x1 (os sp[i] (List.getElem_mem hi))
    have C1:gq (mOp neO (bw 3) (mOp bx (mOp bx (mOp bx (bw 0) (aq (.int 2))) (bw 1)) (aq (.int 0)))) (qo (prT bs hs (sp.map spT)) i acc (some (.str h.1,false)) (some (.int h.2,false)) sto)=some (!(h.1==sp[i].hand),qo (prT bs hs (sp.map spT)) i acc (some (.str h.1,false)) (some (.int h.2,false)) sto):=zt (zo rfl (zo (zo (zo rfl rfl pr2) rfl (step_at hi)) rfl yc) ne)
    have key:∃ acc1:List T,otB (qo (prT bs hs (sp.map spT)) i acc (some (.str h.1,false)) (some (.int h.2,false)) sto)=some (.next,qo (prT bs hs (sp.map spT)) i acc1 (some (.str h.1,false)) (some (.int h.2,false)) sto)∧(∀ t∈acc1,Xw hs sp t)∧acc1.length≤acc.length+3:=by
      cases hq:(h.1==sp[i].hand) with
      | true =>
        rw [hq] at C1
        exact ⟨acc,ze C1 rfl,h1,by omega⟩
      | false =>
        rw [hq] at C1
        have lm:m<lim:=by show _<1000000; omega
        have co:p7 1 [1,3] (hName 0) (gn (bw 4)) j5 (gb (fun l=>some (.tup l)) (ak (aq (.str "other")) (ak (bw 1) (ak (bw 2) (ak (bw 0) d9))))) (qo (prT bs hs (sp.map spT)) i acc (some (.str h.1,false)) (some (.int h.2,false)) sto)=some (.lst ((List.range m).map fun (k:Nat)=>Af (i:Int) h.1 (k:Int)),qo (prT bs hs (sp.map spT)) i acc (some (.str h.1,false)) (some (.int h.2,false)) sto):=by
          refine uw (fun (k:Nat)=>T.int (k:Int)) _ (List.range m) (s1:=qo (prT bs hs (sp.map spT)) i acc (some (.str h.1,false)) (some (.int h.2,false)) sto) _ [some (.int (i:Int),false),some (.str h.1,false)] (by rw [hm]; simp [iw,jc,sIf,jw,sNew,jr,m7,sNx,g8,sGo,dw,m9,dz,fu,jf,gq,uc,u6,mOr,jm,mIf,mOp,mUn,bw,gb,ak,d9,aq,ji,dj,dh,hName,m5,gn,jy,ltT,leT,ql,lu,tu,m6,j6,qb,sy,jh,j5,d8,qx,lm,rangeT]) rfl rfl rfl (by rw [List.length_range]; exact Nat.le_of_lt lm) ?_
          intro k hk pre hpre
          match pre,hpre with
          | [x],_=>exact ⟨[some (.int (k:Int),false)],rfl,rfl,rfl,rfl⟩
        refine ⟨acc++(List.range m).map fun (k:Nat)=>Af (i:Int) h.1 (k:Int),zk C1 (zex co rfl rfl (by rw [List.length_map,List.length_range]; show _<1000000; omega) rfl rfl),fun t ht=>?_,by rw [List.length_append,List.length_map,List.length_range]; omega⟩
        rcases List.mem_append.mp ht with z | z
        · exact h1 t z
        · obtain ⟨k,hk,rfl⟩:=List.mem_map.mp z
          exact .oth hi hh (by have:=List.mem_range.mp hk; omega)
    obtain ⟨acc1,st,k1,k2⟩:=key
    obtain ⟨acc',a',b',ih,e1,e2⟩:=a0w hi os oh l acc1 (some (.str h.1,false)) (some (.int h.2,false)) (fun y hy=>hl y (List.mem_cons_of_mem _ hy)) k1 (by omega)
    exact ⟨acc',a',b',(Z1 (t:=hdT h) (Hf (x:=.str h.1) (y:=.int h.2)) st).trans ih,e1,e2⟩
theorem Zi {i:Nat} (hi:i<sp.length) (os:∀ s∈sp,okS s.hand) (oh:∀ h∈hs,okS h.1∧h.2≤3∧0≤h.2) (lh:hs.length≤4) :
    ∃ l:List T,yu [prT bs hs (sp.map spT),.int (i:Int)] sto=some (.lst l,sto)∧(∀ t∈l,Xw hs sp t)∧l.length≤12:=by
  have l1:hs.length<lim:=by show _<1000000; omega
  obtain ⟨acc,a,b,L,e1,e2⟩:=a0w (sto:=sto) (bs:=bs) hi os oh hs [] none none (fun h hh=>hh) (fun t ht=>by cases ht) (by rw [List.length_nil]; omega)
  exact ⟨acc,zrun (n:=5) (zq (zn rfl) (zq (a9d (zis (zo rfl rfl pr1) l1) L) (zr rfl))) rfl,e1,e2⟩
end
end K
end
noncomputable section
set_option linter.all false
set_option maxRecDepth 100000
set_option maxHeartbeats 1000000
set_option autoImplicit false
namespace K
open C PySem
noncomputable section
variable {sto:List SO} {bs:List Bx} {hs:List Hd} {sp:List Sp}
noncomputable abbrev qd (P:T) (n:Nat) (acc:List T) (a:Slot) (sto:List SO):Sta:=⟨[some (P,false),some (.lst (rangeT n),false),some (.lst acc,true),a],sto⟩
noncomputable abbrev duB:S:=(fu 2 (dj yu (ak (bw 0) (ak (bw 3) d9))))
theorem a0d (os:∀ s∈sp,okS s.hand) (oh:∀ h∈hs,okS h.1∧h.2≤3∧0≤h.2) (lh:hs.length≤4):∀ (l:List Nat) (acc:List T) (a:Slot),(∀ k∈l,k<sp.length)→(∀ t∈acc,Xw hs sp t)→acc.length+12 * l.length≤100 →
    ∃ (m:List T) (a':Slot),forL (hName 3) duB (l.map fun (k:Nat)=>T.int (k:Int)) (qd (prT bs hs (sp.map spT)) sp.length acc a sto)=some (.next,qd (prT bs hs (sp.map spT)) sp.length (acc++m) a' sto)∧(∀ t∈acc++m,Xw hs sp t)∧(acc++m).length≤100
  | [],acc,a,_,h1,h2=>⟨[],a,by simp [forL],by simpa using h1,by simpa using h2⟩
  | k::l,acc,a,hl,h1,h2=>by
    rw [List.length_cons] at h2
    obtain ⟨m,m1,m2,m3⟩:=Zi (sto:=sto) (bs:=bs) (hl k List.mem_cons_self) os oh lh
    obtain ⟨m',a',ih,e1,e2⟩:=a0d os oh lh l (acc++m) (some (.int (k:Int),false)) (fun y hy=>hl y (List.mem_cons_of_mem _ hy)) (fun t ht=>by
      rcases List.mem_append.mp ht with z | z
      · exact h1 t z
      · exact m2 t z) (by rw [List.length_append]; omega)
    rw [List.append_assoc] at ih e1 e2
    have st:duB (qd (prT bs hs (sp.map spT)) sp.length acc (some (.int (k:Int),false)) sto)=some (.next,qd (prT bs hs (sp.map spT)) sp.length (acc++m) (some (.int (k:Int),false)) sto):=zex (zf rfl m1) rfl rfl (show acc.length+m.length<1000000 by omega) rfl rfl
    exact ⟨m++m',a',(Z1 (t:=.int (k:Int)) rfl st).trans ih,e1,e2⟩
theorem a1q (ls:sp.length≤5) (os:∀ s∈sp,okS s.hand) (oh:∀ h∈hs,okS h.1∧h.2≤3∧0≤h.2) (lh:hs.length≤4) :
    ∃ l:List T,xr [prT bs hs (sp.map spT)] sto=some (.lst l,sto)∧(∀ t∈l,Xw hs sp t)∧l.length≤100:=by
  have l1:hs.length<lim:=by show _<1000000; omega
  have l2:sp.length<lim:=by show _<1000000; omega
  obtain ⟨acc,hacc⟩:∃ acc:List T,acc=(hs.map fun h=>Xi h.1)++(List.range sp.length).map fun (k:Nat)=>Cv (k:Int):=⟨_,rfl⟩
  obtain ⟨m,a,L,e1,e2⟩:=a0d (sto:=sto) (bs:=bs) os oh lh (List.range sp.length) acc none (fun k hk=>List.mem_range.mp hk) (fun t ht=>by
    rw [hacc] at ht
    rcases List.mem_append.mp ht with z | z
    · obtain ⟨h,hh,rfl⟩:=List.mem_map.mp z
      exact .sta hh
    · obtain ⟨k,hk,rfl⟩:=List.mem_map.mp z
      exact .own (List.mem_range.mp hk)) (by rw [hacc,List.length_append,List.length_map,List.length_map,List.length_range]; omega)
  have B1:p7 2 [] (m5 [0,1]) (jy (mOp bx (bw 0) (aq (.int 1)))) j5 (gb (fun l=>some (.tup l)) (ak (aq (.str "start")) (ak (bw 0) d9))) ⟨[some (prT bs hs (sp.map spT),false),some (.lst (rangeT sp.length),false),none,none],sto⟩=some (.lst (hs.map fun h=>Xi h.1),⟨[some (prT bs hs (sp.map spT),false),some (.lst (rangeT sp.length),false),none,none],sto⟩):=by
    refine uw hdT _ hs (s1:=⟨[some (prT bs hs (sp.map spT),false),some (.lst (rangeT sp.length),false),none,none],sto⟩) _ [] (zis (zo rfl rfl pr1) l1) rfl rfl rfl (Nat.le_of_lt l1) ?_
    intro h hh pre hpre
    match pre,hpre with
    | [a,b],_=>exact ⟨[some (.str h.1,false),some (.int h.2,false)],rfl,Hf (x:=.str h.1) (y:=.int h.2),rfl,rfl⟩
  have C1:p7 1 [] (hName 0) (jy (bw 1)) j5 (gb (fun l=>some (.tup l)) (ak (aq (.str "own")) (ak (bw 0) d9))) (qd (prT bs hs (sp.map spT)) sp.length (hs.map fun h=>Xi h.1) none sto)=some (.lst ((List.range sp.length).map fun (k:Nat)=>Cv (k:Int)),qd (prT bs hs (sp.map spT)) sp.length (hs.map fun h=>Xi h.1) none sto):=by
    refine uw (fun (k:Nat)=>T.int (k:Int)) _ (List.range sp.length) (s1:=qd (prT bs hs (sp.map spT)) sp.length (hs.map fun h=>Xi h.1) none sto) _ [] (zis rfl (by rw [List.length_range]; exact l2)) rfl rfl rfl (by rw [List.length_range]; exact Nat.le_of_lt l2) ?_
    intro k hk pre hpre
    match pre,hpre with
    | [x],_=>exact ⟨[some (.int (k:Int),false)],rfl,rfl,rfl,rfl⟩
  have lr:Js [.int (sp.length:Int)]=some (.lst (rangeT sp.length)):=by
    have h0:¬ ((sp.length:Int)<0):=by omega
    simp [Js,l2]
    rfl
  refine ⟨acc++m,?_,e1,e2⟩
  exact zrun (n:=4) (zq (zs (zm (zc (zm (zc (zo rfl rfl pr2) rfl) abv) rfl) lr)) (zq (zn B1) (zq (zex C1 rfl rfl (show (hs.map fun h=>Xi h.1).length+((List.range sp.length).map fun (k:Nat)=>Cv (k:Int)).length<1000000 by rw [List.length_map,List.length_map,List.length_range]; omega) rfl (by rw [← hacc])) (zq (a9d (zis (s1:=qd (prT bs hs (sp.map spT)) sp.length acc none sto) rfl (by rw [List.length_range]; exact l2)) L) (zr rfl))))) rfl
end
end K
end
noncomputable section
set_option linter.all false
set_option maxRecDepth 100000
set_option maxHeartbeats 1000000
set_option autoImplicit false
namespace K
open C PySem PySem.W
noncomputable def Il {α:Type} (P:α→Bool):KasT α→Bool
  | .ret a=>P a
  | .ask i j k=>Il P (k true)&&Il P (k false)
theorem Og {α:Type} {P:α→Bool} {lt:Nat→Nat→Bool}:∀ t:KasT α,Il P t=true→P (K9 lt t)=true
  | .ret a,h=>h
  | .ask i j k,h=>by
    simp only [Il,Bool.and_eq_true] at h
    refine Og (k (lt i j)) ?_
    cases lt i j
    · exact h.2
    · exact h.1
theorem a5i:Il (fun p:Array Nat=>p.toList.isPerm (List.range 2)) (kas_sort 2)=true∧Il (fun p:Array Nat=>p.toList.isPerm (List.range 3)) (kas_sort 3)=true:=by decide +kernel
theorem Xg {l:List Str} (h:l.length≤3):(order l).Perm (List.range l.length):=by
  unfold order
  split
  · exact List.Perm.refl _
  · rename_i h2
    have:l.length=2∨l.length=3:=by omega
    rcases this with e | e
    · rw [e]; exact List.isPerm_iff.mp (Og (lt:=ltS l) _ a5i.1)
    · rw [e]; exact List.isPerm_iff.mp (Og (lt:=ltS l) _ a5i.2)
theorem Ng {α:Type} {f:Str × α→T} (hf:∀ a,∃ r,f a=.tup (.str a.1::r)):∀ l:List (Str × α),firsts (l.map f)=some (l.map (·.1))
  | []=>rfl
  | a::l=>by
    obtain ⟨r,e⟩:=hf a
    rw [List.map_cons,e,firsts,Ng hf l]; rfl
theorem range_getD {α:Type} (x:α):∀ l:List α,(List.range l.length).map (fun i=>l.getD i x)=l:=fun l=>by
  apply List.ext_getElem
  · simp
  · intro i h1 h2
    simp at h1
    simp [List.getD,List.getElem?_eq_getElem h1]
theorem K4 {α:Type} {f:Str × α→T} (hf:∀ a,∃ r,f a=.tup (.str a.1::r)) {l:List (Str × α)} (h3:l.length≤3) (nd:(l.map (·.1)).Nodup) :
    ∃ s:List (Str × α),Ck [.lst (l.map f)]=some (.lst (s.map f))∧s.Perm l:=by
  have hp:=Xg (l:=l.map (·.1)) (by rw [List.length_map]; exact h3)
  rw [List.length_map] at hp
  cases hl:l with
  | nil=>exact ⟨[],rfl,List.Perm.refl _⟩
  | cons a r =>
    rw [← hl]
    refine ⟨(order (l.map (·.1))).map fun i=>l.getD i a,?_,?_⟩
    · simp only [Ck,Ng hf]
      rw [if_pos ⟨by rw [List.length_map]; exact h3,nd⟩,List.map_map]
      congr 2
      refine List.map_congr_left fun i hi=>?_
      have hi':i<l.length:=List.mem_range.mp (hp.mem_iff.mp hi)
      simp [List.getD,List.getElem?_eq_getElem hi']
    · have:=hp.map fun i=>l.getD i a
      rw [range_getD] at this
      exact this
end K
end
noncomputable section
set_option linter.all false
set_option maxRecDepth 100000
set_option maxHeartbeats 1000000
set_option autoImplicit false
namespace K
open C PySem
noncomputable section
variable {sto:List SO} {bs:List Bx}
structure ad1 (bs:List Bx) (s:Sm):Prop where
  ok:Bp U3 s
  bd:Bd s
theorem a9c {k:Nat} (h:k<3):∃ v:Int,bx (.lst [.int 41,.int 205,.int 1025]) (.int (k:Int))=some (.int v)∧0<v∧v.natAbs<2000:=by
  match k,h with
  | 0,_=>exact ⟨41,rfl,by decide,by decide⟩
  | 1,_=>exact ⟨205,rfl,by decide,by decide⟩
  | 2,_=>exact ⟨1025,rfl,by decide,by decide⟩
theorem a7i {l s:List Pr} {n:Int} (p:s.Perm l) (nd:(ks l).Nodup) (hu:∀ b∈ks l,b∈U3) (hb:∀ q∈l,Dw q.2=true):Bp U3 (n,s)∧Bd (n,s):=by
  have pk:(ks s).Perm (ks l):=p.map _
  exact ⟨⟨pk.nodup_iff.mpr nd,fun b hb=>hu b (pk.mem_iff.mp hb)⟩,fun q hq=>hb q (p.mem_iff.mp hq)⟩
theorem Tv {x:Int} (lb:bs.length≤3) (nb:(bs.map (·.nm)).Nodup) (hu:∀ b∈bs,b.nm∈U3) :
    ∃ s:Sm,ux [.int x,.lst (bs.map bxT)] sto=some (smT s,sto)∧Bp U3 s∧Bd s:=by
  have l1:bs.length<lim:=by show _<1000000; omega
  unfold ux
  simp [iw,jc,sIf,jw,sNew,jr,m7,sNx,g8,sGo,dw,m9,dz,fu,jf,gq,uc,u6,mOr,jm,mIf,mOp,mUn,bw,gb,ak,d9,aq,ji,dj,dh,hName,m5,gn,jy,ltT,leT,ql,lu,tu,m6,j6,qb,sy,jh,j5,d8,qx,l1]
  generalize hF:forL _ _ _ _=r
  obtain ⟨s',rfl,P⟩:=a0t hF (fun ts st=>∃ (k m:Nat) (acc:List Pr) (o3 o4:Slot),ts=(List.range' k m).map (fun (j:Nat)=>T.int (j:Int))∧k+m=bs.length∧st=⟨[some (.int x,false),some (.lst (bs.map bxT),false),some (.lst (acc.map pT),true),o3,o4],sto⟩∧(ks acc).Sublist ((bs.take k).map (·.nm))∧(∀ q∈acc,Dw q.2=true))
    ⟨0,bs.length,[],none,none,by simp [rangeT,List.range_eq_range'],by omega,rfl,by simp [ks],(fun q hq=>by cases hq)⟩ (by
      rintro t r st ⟨k,m,acc,o3,o4,e1,e2,rfl,e3,e4⟩
      cases m with
      | zero=>cases e1
      | succ m =>
        rw [List.range'_succ] at e1
        cases e1
        have hk:k<bs.length:=by omega
        obtain ⟨v,v1,v2,v3⟩:=a9c (k:=k) (by omega)
        have vf:v.natAbs<fdl:=Nat.lt_trans v3 (by decide)
        have ib:=O1 bxT bs hk
        have la:acc.length<lim:=by
          have:=e3.length_le
          simp only [ks,List.length_map,List.length_take] at this
          show _<1000000; omega
        have tk:(bs.take (k+1)).map (·.nm)=(bs.take k).map (·.nm)++[bs[k].nm]:=by
          rw [List.take_succ_eq_append_getElem hk,List.map_append]; rfl
        generalize hw:x / v%5 - 2=w
        have wb:-3<w∧w<3:=by omega
        by_cases h0:w=0
        · refine ⟨_,⟨[some (.int x,false),some (.lst (bs.map bxT),false),some (.lst (acc.map pT),true),some (.int (k:Int),false),some (.int w,false)],sto⟩,rfl,?_,k+1,m,acc,_,_,rfl,by omega,rfl,?_,e4⟩
          · have hn:(w==0)=true:=by rw [h0]; rfl
            simp [iw,jc,sIf,jw,sNew,jr,m7,sNx,g8,sGo,dw,m9,dz,fu,jf,gq,uc,u6,mOr,jm,mIf,mOp,mUn,bw,gb,ak,d9,aq,ji,dj,dh,hName,m5,gn,jy,ltT,leT,ql,lu,tu,m6,j6,qb,sy,jh,j5,d8,qx,v1,v2,vf,hw,Uw,hn]
          · rw [tk]; exact e3.trans (List.sublist_append_left _ _)
        · have hn:(w==0)=false:=beq_eq_false_iff_ne.mpr h0
          refine ⟨_,⟨[some (.int x,false),some (.lst (bs.map bxT),false),some (.lst ((acc++[(bs[k].nm,w)]).map pT),true),some (.int (k:Int),false),some (.int w,false)],sto⟩,rfl,?_,k+1,m,acc++[(bs[k].nm,w)],_,_,rfl,by omega,rfl,?_,?_⟩
          · simp [iw,jc,sIf,jw,sNew,jr,m7,sNx,g8,sGo,dw,m9,dz,fu,jf,gq,uc,u6,mOr,jm,mIf,mOp,mUn,bw,gb,ak,d9,aq,ji,dj,dh,hName,m5,gn,jy,ltT,leT,ql,lu,tu,m6,j6,qb,sy,jh,j5,d8,qx,v1,v2,vf,hw,Uw,hn,ib,bx0,la,pT]
          · rw [tk,a4k]; exact e3.append (List.Sublist.refl _)
          · intro q hq
            rcases List.mem_append.mp hq with z | z
            · exact e4 q z
            · rw [List.mem_singleton] at z; subst z
              simp only [Dw,decide_eq_true_eq]; omega)
  obtain ⟨k,m,acc,o3,o4,e1,e2,rfl,e3,e4⟩:=P
  cases m with
  | succ m=>rw [List.range'_succ] at e1; cases e1
  | zero =>
    have hk:k=bs.length:=by omega
    subst hk
    rw [List.take_length] at e3
    have la:acc.length≤3:=by
      have:=e3.length_le
      simp only [ks,List.length_map] at this
      omega
    obtain ⟨s,s1,s2⟩:=K4 (f:=pT) (fun a=>⟨_,rfl⟩) la (e3.nodup nb)
    obtain ⟨p1,p2⟩:=a7i (n:=x%41 - 20) s2 (e3.nodup nb) (fun b hb=>by
      obtain ⟨y,hy,rfl⟩:=List.mem_map.mp (e3.subset hb)
      exact hu y hy) e4
    refine ⟨x%41 - 20,s,?_,p1,p2⟩
    simp [iw,jc,sIf,jw,sNew,jr,m7,sNx,g8,sGo,dw,m9,dz,fu,jf,gq,uc,u6,mOr,jm,mIf,mOp,mUn,bw,gb,ak,d9,aq,ji,dj,dh,hName,m5,gn,jy,ltT,leT,ql,lu,tu,m6,j6,qb,sy,jh,j5,d8,qx,s1,yp,smT]
end
end K
end
noncomputable section
set_option linter.all false
set_option maxRecDepth 100000
set_option maxHeartbeats 1000000
set_option autoImplicit false
namespace K
open C PySem
structure Env (bs:List Bx) (hs:List Hd):Prop where
  lb:bs.length≤3
  nb:(bs.map (·.nm)).Nodup
  ub:∀ b∈bs,b.nm∈U3
  lh:hs.length≤4
  gh:1≤hs.length
  hh:∀ h∈hs,okS h.1∧h.1.length<100∧1≤h.2∧h.2≤3
noncomputable section
variable {sto:List SO} {bs:List Bx} {hs:List Hd}
theorem Od {x:Int} (E:Env bs hs):∃ r:Rem,uy [.int x,.lst (bs.map bxT),.lst (hs.map hdT)] sto=some (jz r,sto)∧OkR Bd 0 r:=by
  by_cases h2:x%4<2
  · obtain ⟨s,e,o1,o2⟩:=Tv (sto:=sto) (x:=x / 4) E.lb E.nb E.ub
    refine ⟨.most s,?_,.most o1 o2⟩
    unfold uy jz
    generalize ux=F at *
    exact (zrun (n:=6) (zq (zs (zo rfl rfl rfl)) (zqr (zk (zt (zo rfl rfl (adb h2))) (zr (zm (zc rfl (zc (zf (zc (zo rfl rfl rfl) rfl) e) rfl)) rfl))))) rfl)
  by_cases h3:x%4=2
  · obtain ⟨s,e,o1,o2⟩:=Tv (sto:=sto) (x:=x / 44) E.lb E.nb E.ub
    refine ⟨.rest s (2+x / 4%11),?_,.rest o1 o2 (by omega) (by omega)⟩
    have hq:(x%4==2)=true:=by rw [h3]; rfl
    unfold uy jz
    generalize ux=F at *
    exact (zrun (n:=6) (zq (zs (zo rfl rfl rfl)) (zq (ze (zt (zo rfl rfl (acf h2))) rfl) (zqr (zk (zt (zo rfl rfl (eq_i hq))) (zr (zm (zc rfl (zc (zf (zc (zo rfl rfl rfl) rfl) e) (zc (zo rfl (zo (zo rfl rfl rfl) rfl rfl) rfl) rfl))) rfl)))))) rfl)
  · have lh:=E.lh
    have gh:=E.gh
    have p0:(0:Int)<hs.length:=by omega
    have m0:=Int.emod_nonneg (x / 4) (show (hs.length:Int)≠0 by omega)
    have m1:=Int.emod_lt_of_pos (x / 4) p0
    obtain ⟨h,hm,hi⟩:=Kc hdT hs m0 m1
    obtain ⟨a,b,c,d⟩:=E.hh h hm
    have hp:0<h.2:=by omega
    have p0':0<hs.length:=by omega
    refine ⟨.pl h.1 (x / 16%h.2),?_,.pl a b⟩
    have hq:(x%4==2)=false:=beq_eq_false_iff_ne.mpr h3
    unfold uy jz
    exact (zrun (n:=6) (zq (zs (zo rfl rfl rfl)) (zq (ze (zt (zo rfl rfl (acf h2))) rfl) (zq (ze (zt (zo rfl rfl (eq_i hq))) rfl) (zq (zgo (zo rfl (zo (zo rfl rfl rfl) (zm rfl abv) (md p0)) hi) rfl) (zr (zm (zc rfl (zc rfl (zc (zo (zo rfl rfl rfl) rfl (md hp)) rfl))) rfl)))))) rfl)
end
end K
end
noncomputable section
set_option linter.all false
set_option maxRecDepth 100000
set_option maxHeartbeats 1000000
set_option autoImplicit false
namespace K
open C PySem
theorem OkR.up {Q:Sm→Prop} {d:Nat} {r:Rem} (h:OkR Q d r):OkR Q (d+1) r:=by
  induction h with
  | most a b=>exact .most a b
  | rest a b c d=>exact .rest a b c d
  | pl a b=>exact .pl a b
  | all a _ ih=>exact .all a ih
  | any a _ ih=>exact .any a ih
  | no _ ih=>exact .no ih
noncomputable section
variable {sto:List SO} {bs:List Bx} {hs:List Hd}
theorem ad4 {ms:List Rem} {j:Int} (h0:0≤j):a4c (ms.map jz) none (some j)=(ms.take (min j.toNat ms.length)).map jz:=by
  unfold a4c sIx
  simp only [List.length_map]
  rw [if_neg (by omega),List.drop_zero,Nat.sub_zero,List.map_take]
theorem Mt {x:Int} (E:Env bs hs):∃ r:Rem,mq [.int x,.lst (bs.map bxT),.lst (hs.map hdT)] sto=some (jz r,sto)∧OkR Bd 3 r:=by
  obtain ⟨a,ea,oa⟩:=Od (sto:=sto) (x:=x / 9) E
  obtain ⟨b,eb,ob⟩:=Od (sto:=sto) (x:=x / 7000003) E
  obtain ⟨c,ec,oc⟩:=Od (sto:=sto) (x:=x / 1000) E
  have j0:0≤4+x / 9%3:=by omega
  have cu:=ad4 (ms:=[a,b,c,.no b,.all [c,a],.any []]) (j:=4+x / 9%3) j0
  generalize hq:List.take (min (4+x / 9%3).toNat ([a,b,c,.no b,.all [c,a],.any []]:List Rem).length) [a,b,c,.no b,.all [c,a],.any []]=q at cu
  have oq:∀ r∈q,OkR Bd 1 r:=by
    intro r hr
    rw [← hq] at hr
    have:=List.mem_of_mem_take hr
    simp only [List.mem_cons,List.not_mem_nil,or_false] at this
    rcases this with rfl | rfl | rfl | rfl | rfl | rfl
    · exact oa.up
    · exact ob.up
    · exact oc.up
    · exact .no ob
    · refine .all (by simp) fun r hr=>?_
      simp only [List.mem_cons,List.not_mem_nil,or_false] at hr
      rcases hr with rfl | rfl
      · exact oc
      · exact oa
    · exact .any (by simp) fun r hr=>by cases hr
  have lq:q.length≤6:=by rw [← hq,List.length_take]; simp; omega
  have two:∀ {u v:Rem} {d:Nat},OkR Bd d u→OkR Bd d v→∀ r∈[u,v],OkR Bd d r:=by
    intro u v d h1 h2 r hr
    simp only [List.mem_cons,List.not_mem_nil,or_false] at hr
    rcases hr with rfl | rfl
    · exact h1
    · exact h2
  have oks:∀ r∈([a,.all [],.no a,.all [a,b],.any [a,b,c],.no (.any [a,b]),.no (.all [b,.no a]),.all q,.any q]:List Rem),OkR Bd 3 r:=by
    intro r hr
    simp only [List.mem_cons,List.not_mem_nil,or_false] at hr
    rcases hr with rfl | rfl | rfl | rfl | rfl | rfl | rfl | rfl | rfl
    · exact oa.up.up.up
    · exact .all (by simp) fun r hr=>by cases hr
    · exact (OkR.no oa).up.up
    · exact (OkR.all (by simp) (two oa ob)).up.up
    · refine (OkR.any (d:=0) (by simp) fun r hr=>?_).up.up
      simp only [List.mem_cons,List.not_mem_nil,or_false] at hr
      rcases hr with rfl | rfl | rfl
      · exact oa
      · exact ob
      · exact oc
    · exact (OkR.no (.any (by simp) (two oa ob))).up
    · exact OkR.no (.all (by simp) (two ob.up (.no oa)))
    · exact (OkR.all lq oq).up
    · exact (OkR.any lq oq).up
  obtain ⟨r,hm,hi⟩:=Kc jz ([a,.all [],.no a,.all [a,b],.any [a,b,c],.no (.any [a,b]),.no (.all [b,.no a]),.all q,.any q]:List Rem) (i:=x%9) (by omega) (by simp; omega)
  refine ⟨r,?_,oks r hm⟩
  have l5:(5:Nat)+2<lim:=by decide
  have l7:(7:Nat)+2<lim:=by decide
  simp only [List.map_cons,List.map_nil,jz,Lx,wg] at hi cu
  unfold mq
  generalize uy=F at *
  exact (zrun (n:=9) (zq (zs (zo rfl rfl rfl)) (zq (zs (zf (zc (zo rfl rfl rfl) rfl) ea)) (zq (zs (zf (zc (zo rfl rfl rfl) rfl) eb)) (zq (zs (zf (zc (zo rfl rfl rfl) rfl) ec)) (zq (zs rfl) (zq (zs rfl) (zq (zs (zo rfl rfl rfl)) (zr (zo (zo rfl (zm (zc (zm (zc rfl (zc (zsl rfl rfl (zos (zo rfl (zo (zo rfl rfl rfl) rfl rfl) rfl)) cu) rfl)) rfl) (zc (zm (zc rfl (zc (zsl rfl rfl (zos (zo rfl (zo (zo rfl rfl rfl) rfl rfl) rfl)) cu) rfl)) rfl) rfl)) rfl) rfl) rfl hi))))))))) rfl)
end
end K
end
noncomputable section
set_option linter.all false
set_option maxRecDepth 100000
set_option maxHeartbeats 1000000
set_option autoImplicit false
namespace K
open C PySem
noncomputable abbrev scr (cs:List Int):T:=.lst (cs.map .int)
noncomputable def cell (cs:List Int) (k:Nat):Int:=cs.getD k 0
theorem Zh {cs:List Int} {k:Nat} {sto:List SO}:je [scr cs,.int (k:Int)] sto=some (.int (cell cs k),sto):=by
  unfold cell
  by_cases h:k<cs.length
  · have h':(k:Int)<(cs.length:Int):=by omega
    have e:=O1 T.int cs h
    simp [iw,jc,sIf,jw,sNew,jr,m7,sNx,g8,sGo,dw,m9,dz,fu,jf,gq,uc,u6,mOr,jm,mIf,mOp,mUn,bw,gb,ak,d9,aq,ji,dj,dh,hName,m5,gn,jy,ltT,leT,ql,lu,tu,m6,j6,qb,sy,jh,j5,d8,qx,je,h',h,e,List.getD,List.getElem?_eq_getElem h]
  · have h':¬ (k:Int)<(cs.length:Int):=by omega
    simp [iw,jc,sIf,jw,sNew,jr,m7,sNx,g8,sGo,dw,m9,dz,fu,jf,gq,uc,u6,mOr,jm,mIf,mOp,mUn,bw,gb,ak,d9,aq,ji,dj,dh,hName,m5,gn,jy,ltT,leT,ql,lu,tu,m6,j6,qb,sy,jh,j5,d8,qx,je,h',h,List.getD,List.getElem?_eq_none (Nat.le_of_not_lt h)]
theorem a0l {cs:List Int} {k:Nat} {i:Int} {sto:List SO} (h:i=(k:Int)):je [scr cs,.int i] sto=some (.int (cell cs k),sto):=by
  subst h; exact Zh
noncomputable section
variable {sto:List SO} {cs:List Int}
theorem Wq {c m:Int} (h:0<m):∃ v:Int,uq [.int c,.int m] sto=some (.int v,sto):=by
  by_cases h0:c<0
  · exact ⟨-(-c%m),by simp [iw,jc,sIf,jw,sNew,jr,m7,sNx,g8,sGo,dw,m9,dz,fu,jf,gq,uc,u6,mOr,jm,mIf,mOp,mUn,bw,gb,ak,d9,aq,ji,dj,dh,hName,m5,gn,jy,ltT,leT,ql,lu,tu,m6,j6,qb,sy,jh,j5,d8,qx,uq,h0,h]⟩
  · exact ⟨c%m,by simp [iw,jc,sIf,jw,sNew,jr,m7,sNx,g8,sGo,dw,m9,dz,fu,jf,gq,uc,u6,mOr,jm,mIf,mOp,mUn,bw,gb,ak,d9,aq,ji,dj,dh,hName,m5,gn,jy,ltT,leT,ql,lu,tu,m6,j6,qb,sy,jh,j5,d8,qx,uq,h0,h]⟩
theorem N5 {k:Nat} {b:Bool}:∃ v:Int,m8 [scr cs,.int (k:Int),.bl b] sto=some (.int v,sto):=by
  have e:=Zh (cs:=cs) (k:=k) (sto:=sto)
  generalize cell cs k=c at *
  have b1:Dw 48271=true:=by decide
  have b2:Dw 69621=true:=by decide
  have b3:Dw 2147483647=true:=by decide
  cases b with
  | true=>exact ⟨c,by unfold m8; generalize je=F at *; simp [iw,jc,sIf,jw,sNew,jr,m7,sNx,g8,sGo,dw,m9,dz,fu,jf,gq,uc,u6,mOr,jm,mIf,mOp,mUn,bw,gb,ak,d9,aq,ji,dj,dh,hName,m5,gn,jy,ltT,leT,ql,lu,tu,m6,j6,qb,sy,jh,j5,d8,qx,e]⟩
  | false=>exact ⟨c * 48271%2147483647+c * 69621%2147483629 * 2147483647,by unfold m8; generalize je=F at *; simp [iw,jc,sIf,jw,sNew,jr,m7,sNx,g8,sGo,dw,m9,dz,fu,jf,gq,uc,u6,mOr,jm,mIf,mOp,mUn,bw,gb,ak,d9,aq,ji,dj,dh,hName,m5,gn,jy,ltT,leT,ql,lu,tu,m6,j6,qb,sy,jh,j5,d8,qx,e,Jh,b1,b2,b3]⟩
noncomputable def nm3 (k:Nat):Str:=(["x","y","b2"]:List Str).getD k ""
theorem a9w {k:Nat} (h:k<3):bx (.lst [.str "x",.str "y",.str "b2"]) (.int (k:Int))=some (.str (nm3 k)):=by
  match k,h with
  | 0,_=>rfl
  | 1,_=>rfl
  | 2,_=>rfl
theorem a8f {v:Int}:∃ w:Str,bx (.lst [.str "",.str "p"]) (.int (v%2))=some (.str w):=by
  have:v%2=0∨v%2=1:=by omega
  rcases this with e | e <;> rw [e]
  · exact ⟨"",rfl⟩
  · exact ⟨"p",rfl⟩
theorem c29:a3c (.int 10) (.int 29)=some (.int 100000000000000000000000000000):=by simp [a3c]
theorem a6x {v:Int}:∃ w:Int,bx (.lst [.int 9,.int 100000000000000000000000000000]) (.int (v%2))=some (.int w)∧0<w:=by
  have:v%2=0∨v%2=1:=by omega
  rcases this with e | e <;> rw [e]
  · exact ⟨9,rfl,by decide⟩
  · exact ⟨100000000000000000000000000000,rfl,by decide⟩
noncomputable abbrev aa6:S:=jc (jw 5 (dj je (ak (bw 0) (ak (mOp lu (aq (.int 1)) (bw 4)) d9))))
  (jc (jw 6 (dj uq (ak (bw 5) (ak (mOp bx (gb (fun l=>some (.lst l)) (ak (aq (.int 9)) (ak (mOp a3c (aq (.int 10)) (aq (.int 29))) d9))) (mOp m6 (mOp j6 (bw 5) (aq (.int 3))) (aq (.int 2)))) d9))))
  (dz 3 (gb (fun l=>some (.tup l)) (ak (mOp bx (gb (fun l=>some (.lst l)) (ak (aq (.str "x")) (ak (aq (.str "y")) (ak (aq (.str "b2")) d9)))) (bw 4)) (ak (mOp bx (gb (fun l=>some (.lst l)) (ak (aq (.str "")) (ak (aq (.str "p")) d9))) (mOp m6 (mOp j6 (bw 5) (aq (.int 6))) (aq (.int 2)))) (ak (bw 6) (ak (mOp lu (bw 6) (mOp m6 (mOp j6 (gb sy (ak (bw 5) d9)) (aq (.int 12))) (mOp a3c (aq (.int 10)) (aq (.int 29))))) (ak (bw 6) d9))))))))
theorem Mv {fr fi:Slot} {r7:List Slot}:∀ (m k:Nat) (acc:List Bx) (o4 o5 o6:Slot),k+m≤3→acc.length=k →
    ∃ (bs:List Bx) (o4' o5' o6':Slot),forL (hName 4) aa6 ((List.range' k m).map fun (j:Nat)=>T.int (j:Int)) ⟨some (scr cs,false)::fr::fi::some (.lst (acc.map bxT),true)::o4::o5::o6::r7,sto⟩
      = some (.next,⟨some (scr cs,false)::fr::fi::some (.lst ((acc++bs).map bxT),true)::o4'::o5'::o6'::r7,sto⟩)∧bs.map (·.nm)=(List.range' k m).map nm3
  | 0,k,acc,o4,o5,o6,_,_=>⟨[],o4,o5,o6,by simp [forL],rfl⟩
  | m+1,k,acc,o4,o5,o6,hk,ha=>by
    have e1:=a0l (cs:=cs) (k:=1+k) (i:=1+(k:Int)) (sto:=sto) (by omega)
    generalize cell cs (1+k)=c at *
    obtain ⟨w,w1,w2⟩:=a6x (v:=c / 3)
    obtain ⟨lo,lo1⟩:=Wq (sto:=sto) (c:=c) w2
    obtain ⟨ow,ow1⟩:=a8f (v:=c / 6)
    have nk:=a9w (k:=k) (by omega)
    have la:acc.length<lim:=by show _<1000000; omega
    have st:aa6 ⟨some (scr cs,false)::fr::fi::some (.lst (acc.map bxT),true)::some (.int (k:Int),false)::o5::o6::r7,sto⟩=some (.next,⟨some (scr cs,false)::fr::fi::some (.lst ((acc++[(⟨nm3 k,ow,lo,lo+(if c<0 then -c else c) / 12%100000000000000000000000000000,lo⟩:Bx)]).map bxT),true)::some (.int (k:Int),false)::some (.int c,false)::some (.int lo,false)::r7,sto⟩):=by
      unfold aa6
      generalize je=F1 at *
      generalize uq=F2 at *
      simp [iw,jc,sIf,jw,sNew,jr,m7,sNx,g8,sGo,dw,m9,dz,fu,jf,gq,uc,u6,mOr,jm,mIf,mOp,mUn,bw,gb,ak,d9,aq,ji,dj,dh,hName,m5,gn,jy,ltT,leT,ql,lu,tu,m6,j6,qb,sy,jh,j5,d8,qx,e1,c29,w1,lo1,nk,ow1,la,bxT]
    obtain ⟨bs,a,b,d,ih,hn⟩:=Mv (fr:=fr) (fi:=fi) (r7:=r7) m (k+1) (acc++[(⟨nm3 k,ow,lo,lo+(if c<0 then -c else c) / 12%100000000000000000000000000000,lo⟩:Bx)]) (some (.int (k:Int),false)) (some (.int c,false)) (some (.int lo,false)) (by omega) (by rw [List.length_append,List.length_singleton]; omega)
    refine ⟨(⟨nm3 k,ow,lo,lo+(if c<0 then -c else c) / 12%100000000000000000000000000000,lo⟩:Bx)::bs,a,b,d,?_,?_⟩
    · rw [List.range'_succ,List.map_cons,forL]
      dsimp only
      rw [show hName 4 (T.int (k:Int)) ⟨some (scr cs,false)::fr::fi::some (.lst (acc.map bxT),true)::o4::o5::o6::r7,sto⟩=some ⟨some (scr cs,false)::fr::fi::some (.lst (acc.map bxT),true)::some (.int (k:Int),false)::o5::o6::r7,sto⟩ from rfl]
      dsimp only
      rw [st]
      dsimp only
      rw [ih,List.append_assoc]
      rfl
    · rw [List.range'_succ,List.map_cons,List.map_cons,hn]
end
end K
end
noncomputable section
set_option linter.all false
set_option maxRecDepth 100000
set_option maxHeartbeats 1000000
set_option autoImplicit false
namespace K
open C PySem
theorem Kf {g:G} {b:S} {t:T} {r:List T} {s s1 s2:Sta} (h:g t s=some s1) (hb:b s1=some (.next,s2)):forL g b (t::r) s=forL g b r s2:=by
  rw [forL]; dsimp only; rw [h]; dsimp only; rw [hb]
noncomputable abbrev setB:S:=sIf (gq (mOp eqO (mOp m6 (mOp j6 (bw 9) (mOp bx (gb (fun l=>some (.lst l)) (ak (aq (.int 4)) (ak (aq (.int 8)) (ak (aq (.int 16)) d9)))) (bw 13))) (aq (.int 2))) (aq (.int 1))))
  (dz 12 (gb (fun l=>some (.tup l)) (ak (mOp bx (Mf 3 (bw 13)) (aq (.int 0))) (ak (dj ux (ak (mOp j6 (bw 9) (mOp lu (aq (.int 320)) (mOp Jh (aq (.int 64)) (bw 13)))) (ak (bw 3) d9))) d9))))
  m7
noncomputable section
variable {sto:List SO} {bs:List Bx} {hs:List Hd}
theorem aak {k:Nat} (h:k<3):∃ v:Int,bx (.lst [.int 4,.int 8,.int 16]) (.int (k:Int))=some (.int v)∧0<v∧v<100:=by
  match k,h with
  | 0,_=>exact ⟨4,rfl,by decide,by decide⟩
  | 1,_=>exact ⟨8,rfl,by decide,by decide⟩
  | 2,_=>exact ⟨16,rfl,by decide,by decide⟩
theorem O7 {s0 s1 s2 s4 s5 s6 s7 s8 s10 s11 s14:Slot} {x:Int} (E:Env bs hs):∀ (m k:Nat) (acc:List (Str × Sm)) (f:Bool) (o13:Slot),k+m=bs.length→acc.length≤k →
    ∃ (l:List (Str × Sm)) (f':Bool) (o13':Slot),forL (hName 13) setB ((List.range' k m).map fun (j:Nat)=>T.int (j:Int)) ⟨[s0,s1,s2,some (.lst (bs.map bxT),f),s4,s5,s6,s7,s8,some (.int x,false),s10,s11,some (.lst (acc.map seT),true),o13,s14],sto⟩
      = some (.next,⟨[s0,s1,s2,some (.lst (bs.map bxT),f'),s4,s5,s6,s7,s8,some (.int x,false),s10,s11,some (.lst ((acc++l).map seT),true),o13',s14],sto⟩)∧(l.map (·.1)).Sublist ((bs.drop k).map (·.nm))∧(∀ p∈l,Bp U3 p.2)
  | 0,k,acc,f,o13,_,_=>⟨[],f,o13,by simp [forL],by simp,(fun p hp=>by cases hp)⟩
  | m+1,k,acc,f,o13,hk,ha=>by
    have lb:=E.lb
    have hk':k<bs.length:=by omega
    obtain ⟨v,v1,v2,v3⟩:=aak (k:=k) (by omega)
    have v4:v<1073741824:=by omega
    have ib:bs[k]? = some bs[k]:=List.getElem?_eq_getElem hk'
    have kl:(k:Int)<(bs.length:Int):=by omega
    have b64:Dw 64=true:=by decide
    have dp:(0:Int)<320+64 * (k:Int):=by omega
    have dp2:(320:Int)+64 * (k:Int)<1073741824:=by omega
    have la:acc.length<lim:=by show _<1000000; omega
    obtain ⟨s,es,o1,_⟩:=Tv (sto:=sto) (x:=x / (320+64 * (k:Int))) E.lb E.nb E.ub
    have dk:(bs.drop k).map (·.nm)=bs[k].nm::(bs.drop (k+1)).map (·.nm):=by rw [List.drop_eq_getElem_cons hk']; rfl
    cases hq:(x / v%2==1) with
    | true =>
      have st:setB ⟨[s0,s1,s2,some (.lst (bs.map bxT),f),s4,s5,s6,s7,s8,some (.int x,false),s10,s11,some (.lst (acc.map seT),true),some (.int (k:Int),false),s14],sto⟩=some (.next,⟨[s0,s1,s2,some (.lst (bs.map bxT),false),s4,s5,s6,s7,s8,some (.int x,false),s10,s11,some (.lst ((acc++[(bs[k].nm,s)]).map seT),true),some (.int (k:Int),false),s14],sto⟩):=by
        unfold setB
        generalize ux=F at *
        cases f <;> simp [iw,jc,sIf,jw,sNew,jr,m7,sNx,g8,sGo,dw,m9,dz,fu,jf,gq,uc,u6,mOr,jm,mIf,mOp,mUn,bw,gb,ak,d9,aq,ji,dj,dh,hName,m5,gn,jy,ltT,leT,ql,lu,tu,m6,j6,qb,sy,jh,j5,d8,qx,v1,v2,v4,Ej,hq,Mf,ixI,ib,kl,bx0,Jh,b64,dp,dp2,es,la,seT]
      obtain ⟨l,f',o',ih,q1,q2⟩:=O7 E m (k+1) (acc++[(bs[k].nm,s)]) false (some (.int (k:Int),false)) (by omega) (by rw [List.length_append,List.length_singleton]; omega)
      refine ⟨(bs[k].nm,s)::l,f',o',?_,?_,?_⟩
      · rw [List.range'_succ,List.map_cons,Kf (s1:=⟨[s0,s1,s2,some (.lst (bs.map bxT),f),s4,s5,s6,s7,s8,some (.int x,false),s10,s11,some (.lst (acc.map seT),true),some (.int (k:Int),false),s14],sto⟩) rfl st,ih,List.append_assoc]
        rfl
      · rw [dk,List.map_cons]; exact q1.cons₂ _
      · intro p hp
        rcases List.mem_cons.mp hp with rfl | hp
        · exact o1
        · exact q2 p hp
    | false =>
      have st:setB ⟨[s0,s1,s2,some (.lst (bs.map bxT),f),s4,s5,s6,s7,s8,some (.int x,false),s10,s11,some (.lst (acc.map seT),true),some (.int (k:Int),false),s14],sto⟩=some (.next,⟨[s0,s1,s2,some (.lst (bs.map bxT),f),s4,s5,s6,s7,s8,some (.int x,false),s10,s11,some (.lst (acc.map seT),true),some (.int (k:Int),false),s14],sto⟩):=by
        unfold setB
        simp [iw,jc,sIf,jw,sNew,jr,m7,sNx,g8,sGo,dw,m9,dz,fu,jf,gq,uc,u6,mOr,jm,mIf,mOp,mUn,bw,gb,ak,d9,aq,ji,dj,dh,hName,m5,gn,jy,ltT,leT,ql,lu,tu,m6,j6,qb,sy,jh,j5,d8,qx,v1,v2,v4,Ej,hq]
      obtain ⟨l,f',o',ih,q1,q2⟩:=O7 E m (k+1) acc f (some (.int (k:Int),false)) (by omega) (by omega)
      refine ⟨l,f',o',?_,?_,q2⟩
      · rw [List.range'_succ,List.map_cons,Kf (s1:=⟨[s0,s1,s2,some (.lst (bs.map bxT),f),s4,s5,s6,s7,s8,some (.int x,false),s10,s11,some (.lst (acc.map seT),true),some (.int (k:Int),false),s14],sto⟩) rfl st,ih]
      · rw [dk]; exact q1.cons _
end
end K
end
noncomputable section
set_option linter.all false
set_option maxRecDepth 100000
set_option maxHeartbeats 1000000
set_option autoImplicit false
namespace K
open C PySem
noncomputable abbrev qU (cs:List Int) (b:Bool) (fi:Slot) (bs:List Bx) (f:Bool) (k:Nat) (o5 o6:Slot) (hs:List Hd) (acc:List Sp) (a c d e i j:Slot) (sto:List SO):Sta:=⟨[some (scr cs,false),some (.bl b,false),fi,some (.lst (bs.map bxT),f),some (.int (k:Int),false),o5,o6,some (.lst (hs.map hdT),false),some (.lst (acc.map spT),true),a,c,d,e,i,j],sto⟩
noncomputable abbrev W6:=Slot × Slot × Slot × Slot × Slot × Slot
structure Vz (bs:List Bx) (hs:List Hd) (s:Sp):Prop where
  h:∃ h∈hs,s.hand=h.1∧(∃ i:Nat,s.here=(i:Int)∧(i:Int)<h.2)∧∃ j:Nat,s.to=(j:Int)∧(j:Int)<h.2
  g:OkR Bd 3 s.guard
  l:s.sets.length≤3
  n:(s.sets.map (·.1)).Nodup
  d:∀ p∈s.sets,Bp U3 p.2∧p.1∈bs.map (·.nm)
noncomputable abbrev a2x:S:=jc (jw 9 (dj m8 (ak (bw 0) (ak (mOp lu (aq (.int 4)) (bw 4)) (ak (bw 1) d9)))))
  (jc (sGo (m5 [10,11]) (mOp bx (bw 7) (mOp m6 (bw 9) (gb ql (ak (bw 7) d9)))))
  (jc (sNew 12 (gb (fun l=>some (.lst l)) d9))
  (jc (m9 (hName 13) (gn (Ei 3)) setB)
  (jc (jw 14 (dj mq (ak (mOp j6 (bw 9) (aq (.int 100000))) (ak (bw 3) (ak (bw 7) d9)))))
  (dz 8 (gb (fun l=>some (.tup l)) (ak (bw 10) (ak (mOp m6 (mOp j6 (bw 9) (aq (.int 32))) (bw 11)) (ak (bw 14) (ak (gb yp (ak (gb Ck (ak (bw 12) d9)) d9)) (ak (mOp m6 (mOp j6 (bw 9) (aq (.int 96))) (bw 11)) d9)))))))))))
noncomputable section
variable {sto:List SO} {bs:List Bx} {hs:List Hd} {cs:List Int}
theorem a09 {b f:Bool} {fi o5 o6 o9 o10 o11 o12 o13 o14:Slot} {k:Nat} {acc:List Sp} (E:Env bs hs) (la:acc.length<1000) :
    ∃ (s:Sp) (f':Bool) (w:W6),Vz bs hs s∧a2x (qU cs b fi bs f k o5 o6 hs acc o9 o10 o11 o12 o13 o14 sto)
      = some (.next,qU cs b fi bs f' k o5 o6 hs (acc++[s]) w.1 w.2.1 w.2.2.1 w.2.2.2.1 w.2.2.2.2.1 w.2.2.2.2.2 sto):=by
  have lh:=E.lh
  have gh:=E.gh
  have lb:=E.lb
  obtain ⟨x,ex⟩:=N5 (cs:=cs) (k:=4+k) (b:=b) (sto:=sto)
  have ek:((4+k:Nat):Int)=4+(k:Int):=by omega
  rw [ek] at ex
  have p0:(0:Int)<hs.length:=by omega
  have p0':0<hs.length:=by omega
  have m0:=Int.emod_nonneg x (show (hs.length:Int)≠0 by omega)
  have m1:=Int.emod_lt_of_pos x p0
  obtain ⟨h,hm,hi⟩:=Kc hdT hs m0 m1
  obtain ⟨a,b',c,d⟩:=E.hh h hm
  have hp:0<h.2:=by omega
  have A:jw 9 (dj m8 (ak (bw 0) (ak (mOp lu (aq (.int 4)) (bw 4)) (ak (bw 1) d9)))) (qU cs b fi bs f k o5 o6 hs acc o9 o10 o11 o12 o13 o14 sto)=some (.next,qU cs b fi bs f k o5 o6 hs acc (some (.int x,false)) o10 o11 o12 o13 o14 sto):=by
    generalize m8=F at *
    exact (ys (zf (zc rfl (zc (zo rfl rfl rfl) rfl)) ex) rfl)
  have I1:mOp bx (bw 7) (mOp m6 (bw 9) (gb ql (ak (bw 7) d9))) (qU cs b fi bs f k o5 o6 hs acc (some (.int x,false)) o10 o11 o12 o13 o14 sto)=some (hdT h,qU cs b fi bs f k o5 o6 hs acc (some (.int x,false)) o10 o11 o12 o13 o14 sto):=(zo rfl (zo rfl (zm rfl abv) (md p0)) hi)
  have B:sGo (m5 [10,11]) (mOp bx (bw 7) (mOp m6 (bw 9) (gb ql (ak (bw 7) d9)))) (qU cs b fi bs f k o5 o6 hs acc (some (.int x,false)) o10 o11 o12 o13 o14 sto)=some (.next,qU cs b fi bs f k o5 o6 hs acc (some (.int x,false)) (some (.str h.1,false)) (some (.int h.2,false)) o12 o13 o14 sto):=by
    unfold sGo; rw [I1]; dsimp only; unfold hdT; rw [Hf]; rfl
  have C':sNew 12 (gb (fun l=>some (.lst l)) d9) (qU cs b fi bs f k o5 o6 hs acc (some (.int x,false)) (some (.str h.1,false)) (some (.int h.2,false)) o12 o13 o14 sto)=some (.next,qU cs b fi bs f k o5 o6 hs acc (some (.int x,false)) (some (.str h.1,false)) (some (.int h.2,false)) (some (.lst (([]:List (Str × Sm)).map seT),true)) o13 o14 sto):=rfl
  obtain ⟨l,f',o13',sl,q1,q2⟩:=O7 (sto:=sto) (s0:=some (scr cs,false)) (s1:=some (.bl b,false)) (s2:=fi) (s4:=some (.int (k:Int),false)) (s5:=o5) (s6:=o6) (s7:=some (.lst (hs.map hdT),false)) (s8:=some (.lst (acc.map spT),true)) (s10:=some (.str h.1,false)) (s11:=some (.int h.2,false)) (s14:=o14) (x:=x) E bs.length 0 [] f o13 (by omega) (by simp)
  rw [List.nil_append] at sl
  rw [List.drop_zero] at q1
  have l1:bs.length<lim:=by show _<1000000; omega
  have D':m9 (hName 13) (gn (Ei 3)) setB (qU cs b fi bs f k o5 o6 hs acc (some (.int x,false)) (some (.str h.1,false)) (some (.int h.2,false)) (some (.lst (([]:List (Str × Sm)).map seT),true)) o13 o14 sto)=some (.next,qU cs b fi bs f' k o5 o6 hs acc (some (.int x,false)) (some (.str h.1,false)) (some (.int h.2,false)) (some (.lst (l.map seT),true)) o13' o14 sto):=by
    have J:gn (Ei 3) (qU cs b fi bs f k o5 o6 hs acc (some (.int x,false)) (some (.str h.1,false)) (some (.int h.2,false)) (some (.lst (([]:List (Str × Sm)).map seT),true)) o13 o14 sto)=some ((List.range' 0 bs.length).map (fun (j:Nat)=>T.int (j:Int)),qU cs b fi bs f k o5 o6 hs acc (some (.int x,false)) (some (.str h.1,false)) (some (.int h.2,false)) (some (.lst (([]:List (Str × Sm)).map seT),true)) o13 o14 sto):=by
      simp [iw,jc,sIf,jw,sNew,jr,m7,sNx,g8,sGo,dw,m9,dz,fu,jf,gq,uc,u6,mOr,jm,mIf,mOp,mUn,bw,gb,ak,d9,aq,ji,dj,dh,hName,m5,gn,jy,ltT,leT,ql,lu,tu,m6,j6,qb,sy,jh,j5,d8,qx,Ei,l1,rangeT,List.range_eq_range']
    unfold m9; rw [J]; exact sl
  obtain ⟨g,eg,og⟩:=Mt (sto:=sto) (x:=x / 100000) E
  have E':jw 14 (dj mq (ak (mOp j6 (bw 9) (aq (.int 100000))) (ak (bw 3) (ak (bw 7) d9)))) (qU cs b fi bs f' k o5 o6 hs acc (some (.int x,false)) (some (.str h.1,false)) (some (.int h.2,false)) (some (.lst (l.map seT),true)) o13' o14 sto)=some (.next,qU cs b fi bs false k o5 o6 hs acc (some (.int x,false)) (some (.str h.1,false)) (some (.int h.2,false)) (some (.lst (l.map seT),true)) o13' (some (jz g,false)) sto):=by
    generalize mq=F at *
    cases f' <;> simp [iw,jc,sIf,jw,sNew,jr,m7,sNx,g8,sGo,dw,m9,dz,fu,jf,gq,uc,u6,mOr,jm,mIf,mOp,mUn,bw,gb,ak,d9,aq,ji,dj,dh,hName,m5,gn,jy,ltT,leT,ql,lu,tu,m6,j6,qb,sy,jh,j5,d8,qx,eg]
  have ll:l.length≤3:=by
    have:=q1.length_le
    simp only [List.length_map] at this
    omega
  obtain ⟨s,s1,s2⟩:=K4 (f:=seT) (fun a=>⟨_,rfl⟩) ll (q1.nodup E.nb)
  have la':acc.length<lim:=by show _<1000000; omega
  have n1:=Int.emod_nonneg (x / 32) (show h.2≠0 by omega)
  have n2:=Int.emod_lt_of_pos (x / 32) hp
  have n3:=Int.emod_nonneg (x / 96) (show h.2≠0 by omega)
  have n4:=Int.emod_lt_of_pos (x / 96) hp
  have pk:(s.map (·.1)).Perm (l.map (·.1)):=s2.map _
  refine ⟨⟨h.1,x / 32%h.2,g,s,x / 96%h.2⟩,false,(some (.int x,false),some (.str h.1,false),some (.int h.2,false),some (.lst (l.map seT),false),o13',some (jz g,false)),⟨⟨h,hm,rfl,⟨(x / 32%h.2).toNat,by dsimp only; omega,by omega⟩,⟨(x / 96%h.2).toNat,by dsimp only; omega,by omega⟩⟩,og,by rw [s2.length_eq]; exact ll,pk.nodup_iff.mpr (q1.nodup E.nb),fun p hp=>⟨q2 p (s2.mem_iff.mp hp),q1.subset (List.mem_map.mpr ⟨p,s2.mem_iff.mp hp,rfl⟩)⟩⟩,?_⟩
  unfold a2x
  rw [jq A,jq B,jq C',jq D',jq E']
  exact za (zm (zc rfl (zc (zo (zo rfl rfl rfl) rfl (md hp)) (zc rfl (zc (zm (zc (zm rfl s1) rfl) rfl) (zc (zo (zo rfl rfl rfl) rfl (md hp)) rfl))))) rfl) rfl (by rw [List.length_map]; exact la') rfl (by unfold qU; rw [List.map_append]; rfl)
end
end K
end
noncomputable section
set_option linter.all false
set_option maxRecDepth 100000
set_option maxHeartbeats 1000000
set_option autoImplicit false
namespace K
open C PySem
noncomputable section
variable {sto:List SO} {bs:List Bx} {hs:List Hd} {cs:List Int}
theorem abn {k:Nat} (h:k<4):∃ (w:Str) (v:Int),bx (.lst [.str "p",.str "q",.str "pq",.str "r"]) (.int (k:Int))=some (.str w)∧bx (.lst [.int 8,.int 24,.int 72,.int 216]) (.int (k:Int))=some (.int v)∧0<v∧v<1073741824∧okS w∧w.length<100:=by
  match k,h with
  | 0,_=>exact ⟨"p",8,rfl,rfl,by decide,by decide,Hi _,by decide +kernel⟩
  | 1,_=>exact ⟨"q",24,rfl,rfl,by decide,by decide,Hi _,by decide +kernel⟩
  | 2,_=>exact ⟨"pq",72,rfl,rfl,by decide,by decide,Hi _,by decide +kernel⟩
  | 3,_=>exact ⟨"r",216,rfl,rfl,by decide,by decide,Hi _,by decide +kernel⟩
theorem Xl {first:Int} {s0 s1:Slot} {r3:List Slot} :
    ∃ hs:List Hd,p7 1 [2] (hName 0) (gn (mOp lu (aq (.int 1)) (mOp m6 (mOp j6 (bw 2) (aq (.int 648))) (aq (.int 4))))) j5 (gb (fun l=>some (.tup l)) (ak (mOp bx (gb (fun l=>some (.lst l)) (ji ["p","q","pq","r"])) (bw 0)) (ak (mOp lu (aq (.int 1)) (mOp m6 (mOp j6 (bw 1) (mOp bx (gb (fun l=>some (.lst l)) (ak (aq (.int 8)) (ak (aq (.int 24)) (ak (aq (.int 72)) (ak (aq (.int 216)) d9))))) (bw 0))) (aq (.int 3)))) d9))) ⟨s0::s1::some (.int first,false)::r3,sto⟩
      = some (.lst (hs.map hdT),⟨s0::s1::some (.int first,false)::r3,sto⟩)∧1≤hs.length∧hs.length≤4∧∀ h∈hs,okS h.1∧h.1.length<100∧1≤h.2∧h.2≤3:=by
  obtain ⟨m,hm,hm1,hm4⟩:∃ m:Nat,1+first / 648%4=(m:Int)∧1≤m∧m≤4:=⟨(1+first / 648%4).toNat,by omega,by omega,by omega⟩
  have lm:m<lim:=by show _<1000000; omega
  have ch:∀ k:Nat,∃ p:Hd,k<4→(∃ v:Int,bx (.lst [.str "p",.str "q",.str "pq",.str "r"]) (.int (k:Int))=some (.str p.1)∧bx (.lst [.int 8,.int 24,.int 72,.int 216]) (.int (k:Int))=some (.int v)∧0<v∧v<1073741824∧p.2=1+first / v%3)∧okS p.1∧p.1.length<100∧1≤p.2∧p.2≤3:=by
    intro k
    by_cases h:k<4
    · obtain ⟨w,v,a,b,c,d,e,f⟩:=abn h
      exact ⟨(w,1+first / v%3),fun _=>⟨⟨v,a,b,c,d,rfl⟩,e,f,by dsimp only; omega,by dsimp only; omega⟩⟩
    · exact ⟨("",0),fun z=>absurd z h⟩
  let P:Nat→Hd:=fun k=>Classical.choose (ch k)
  have hP:∀ k,k<4→_:=fun k=>Classical.choose_spec (ch k)
  refine ⟨(List.range m).map P,?_,by simp; omega,by simp; omega,fun h hh=>?_⟩
  · rw [List.map_map]
    refine uw (fun (k:Nat)=>T.int (k:Int)) (hdT ∘ P) (List.range m) (s1:=⟨s0::s1::some (.int first,false)::r3,sto⟩) _ [some (.int first,false)] (by simp [iw,jc,sIf,jw,sNew,jr,m7,sNx,g8,sGo,dw,m9,dz,fu,jf,gq,uc,u6,mOr,jm,mIf,mOp,mUn,bw,gb,ak,d9,aq,ji,dj,dh,hName,m5,gn,jy,ltT,leT,ql,lu,tu,m6,j6,qb,sy,jh,j5,d8,qx,hm,lm,rangeT]) rfl rfl rfl (by rw [List.length_range]; exact Nat.le_of_lt lm) ?_
    intro k hk pre hpre
    match pre,hpre with
    | [x],_ =>
      have hk4:k<4:=by have:=List.mem_range.mp hk; omega
      obtain ⟨⟨v,a,b,c,d,e⟩,_⟩:=hP k hk4
      refine ⟨[some (.int (k:Int),false)],rfl,rfl,rfl,?_⟩
      change bx _ _=some (.str (P k).1) at a
      change (P k).2=_ at e
      simp [iw,jc,sIf,jw,sNew,jr,m7,sNx,g8,sGo,dw,m9,dz,fu,jf,gq,uc,u6,mOr,jm,mIf,mOp,mUn,bw,gb,ak,d9,aq,ji,dj,dh,hName,m5,gn,jy,ltT,leT,ql,lu,tu,m6,j6,qb,sy,jh,j5,d8,qx,a,b,c,d,hdT,e]
  · obtain ⟨k,hk,rfl⟩:=List.mem_map.mp hh
    have hk4:k<4:=by have:=List.mem_range.mp hk; omega
    exact (hP k hk4).2
theorem M9 {b:Bool} {fi o5 o6:Slot} (E:Env bs hs):∀ (m k:Nat) (acc:List Sp) (f:Bool) (o4:Slot) (w:W6),acc.length+m≤5 →
    ∃ (l:List Sp) (f':Bool) (a4:Slot) (w':W6),l.length=m∧(∀ s∈l,Vz bs hs s)∧forL (hName 4) a2x ((List.range' k m).map fun (j:Nat)=>T.int (j:Int)) ⟨[some (scr cs,false),some (.bl b,false),fi,some (.lst (bs.map bxT),f),o4,o5,o6,some (.lst (hs.map hdT),false),some (.lst (acc.map spT),true),w.1,w.2.1,w.2.2.1,w.2.2.2.1,w.2.2.2.2.1,w.2.2.2.2.2],sto⟩
      = some (.next,⟨[some (scr cs,false),some (.bl b,false),fi,some (.lst (bs.map bxT),f'),a4,o5,o6,some (.lst (hs.map hdT),false),some (.lst ((acc++l).map spT),true),w'.1,w'.2.1,w'.2.2.1,w'.2.2.2.1,w'.2.2.2.2.1,w'.2.2.2.2.2],sto⟩)
  | 0,k,acc,f,o4,w,_=>⟨[],f,o4,w,rfl,(fun s hs=>by cases hs),by simp [forL]⟩
  | m+1,k,acc,f,o4,w,hl=>by
    obtain ⟨s,f1,w1,so,st⟩:=a09 (sto:=sto) (cs:=cs) (b:=b) (f:=f) (fi:=fi) (o5:=o5) (o6:=o6) (o9:=w.1) (o10:=w.2.1) (o11:=w.2.2.1) (o12:=w.2.2.2.1) (o13:=w.2.2.2.2.1) (o14:=w.2.2.2.2.2) (k:=k) (acc:=acc) E (by omega)
    obtain ⟨l,f',c4,w',l1,l2,ih⟩:=M9 E m (k+1) (acc++[s]) f1 (some (.int (k:Int),false)) w1 (by rw [List.length_append,List.length_singleton]; omega)
    refine ⟨s::l,f',c4,w',by rw [List.length_cons,l1],fun x hx=>?_,?_⟩
    · rcases List.mem_cons.mp hx with rfl | hx
      · exact so
      · exact l2 x hx
    · rw [List.range'_succ,List.map_cons,Kf (s1:=qU cs b fi bs f k o5 o6 hs acc w.1 w.2.1 w.2.2.1 w.2.2.2.1 w.2.2.2.2.1 w.2.2.2.2.2 sto) rfl st,ih,List.append_assoc]
      rfl
end
end K
end
noncomputable section
set_option linter.all false
set_option maxRecDepth 100000
set_option maxHeartbeats 1000000
set_option autoImplicit false
namespace K
open C PySem
noncomputable abbrev qW (cs:List Int) (b:Bool) (c d e f g h i:Slot) (sto:List SO):Sta:=⟨[some (scr cs,false),some (.bl b,false),c,d,e,f,g,h,i,none,none,none,none,none,none],sto⟩
noncomputable section
variable {sto:List SO} {cs:List Int}
theorem a8b:∀ m,m≤3→((List.range' 0 m).map nm3).Nodup∧∀ x∈(List.range' 0 m).map nm3,x∈U3:=by decide +kernel
theorem Ur {b:Bool}:∃ (bs:List Bx) (hs:List Hd) (sp:List Sp),v9 [scr cs,.bl b] sto=some (prT bs hs (sp.map spT),sto)∧Env bs hs∧sp.length≤5∧∀ s∈sp,Vz bs hs s:=by
  have c0:=a0l (cs:=cs) (k:=0) (i:=0) (sto:=sto) rfl
  generalize cell cs 0=first at *
  obtain ⟨m,hm,hm3⟩:∃ m:Nat,first / 2%4=(m:Int)∧m≤3:=⟨(first / 2%4).toNat,by omega,by omega⟩
  have lm:m<lim:=by show _<1000000; omega
  obtain ⟨bs,o4,o5,o6,bl,bn⟩:=Mv (sto:=sto) (cs:=cs) (fr:=some (.bl b,false)) (fi:=some (.int first,false)) (r7:=[none,none,none,none,none,none,none,none]) m 0 [] none none none (by omega) rfl
  rw [List.nil_append,List.map_nil] at bl
  obtain ⟨n1,n2⟩:=a8b m hm3
  rw [← bn] at n1 n2
  have lb:bs.length≤3:=by
    have:=congrArg List.length bn
    simp only [List.length_map,List.length_range'] at this
    omega
  obtain ⟨hs,hc,h1,h4,hh⟩:=Xl (sto:=sto) (first:=first) (s0:=some (scr cs,false)) (s1:=some (.bl b,false)) (r3:=[some (.lst (bs.map bxT),true),o4,o5,o6,none,none,none,none,none,none,none,none])
  have E:Env bs hs:=⟨lb,n1,fun x hx=>n2 x.nm (List.mem_map.mpr ⟨x,hx,rfl⟩),h4,h1,hh⟩
  obtain ⟨q,hq,hq5⟩:∃ q:Nat,first / 2592%6=(q:Int)∧q≤5:=⟨(first / 2592%6).toNat,by omega,by omega⟩
  have lq:q<lim:=by show _<1000000; omega
  obtain ⟨sp,f',a4,w,l1,l2,sl⟩:=M9 (sto:=sto) (cs:=cs) (b:=b) (fi:=some (.int first,false)) (o5:=o5) (o6:=o6) E q 0 [] true o4 (none,none,none,none,none,none) (by simp; omega)
  rw [List.nil_append,List.map_nil] at sl
  refine ⟨bs,hs,sp,?_,E,by omega,l2⟩
  have A:jw 2 (dj je (ak (bw 0) (ak (aq (.int 0)) d9))) (qW cs b none none none none none none none sto)=some (.next,qW cs b (some (.int first,false)) none none none none none none sto):=by
    generalize je=F at *
    exact (ys (zf rfl c0) rfl)
  have B:sNew 3 (gb (fun l=>some (.lst l)) d9) (qW cs b (some (.int first,false)) none none none none none none sto)=some (.next,qW cs b (some (.int first,false)) (some (.lst [],true)) none none none none none sto):=rfl
  have C':m9 (hName 4) (gn (mOp m6 (mOp j6 (bw 2) (aq (.int 2))) (aq (.int 4)))) aa6 (qW cs b (some (.int first,false)) (some (.lst [],true)) none none none none none sto)=some (.next,qW cs b (some (.int first,false)) (some (.lst (bs.map bxT),true)) o4 o5 o6 none none sto):=by
    have J:gn (mOp m6 (mOp j6 (bw 2) (aq (.int 2))) (aq (.int 4))) (qW cs b (some (.int first,false)) (some (.lst [],true)) none none none none none sto)=some ((List.range' 0 m).map (fun (j:Nat)=>T.int (j:Int)),qW cs b (some (.int first,false)) (some (.lst [],true)) none none none none none sto):=by
      simp [iw,jc,sIf,jw,sNew,jr,m7,sNx,g8,sGo,dw,m9,dz,fu,jf,gq,uc,u6,mOr,jm,mIf,mOp,mUn,bw,gb,ak,d9,aq,ji,dj,dh,hName,m5,gn,jy,ltT,leT,ql,lu,tu,m6,j6,qb,sy,jh,j5,d8,qx,hm,lm,rangeT,List.range_eq_range']
    unfold m9; rw [J]; exact bl
  have D':=Ko (i:=7) hc
  have D2:jw 7 (p7 1 [2] (hName 0) (gn (mOp lu (aq (.int 1)) (mOp m6 (mOp j6 (bw 2) (aq (.int 648))) (aq (.int 4))))) j5 (gb (fun l=>some (.tup l)) (ak (mOp bx (gb (fun l=>some (.lst l)) (ji ["p","q","pq","r"])) (bw 0)) (ak (mOp lu (aq (.int 1)) (mOp m6 (mOp j6 (bw 1) (mOp bx (gb (fun l=>some (.lst l)) (ak (aq (.int 8)) (ak (aq (.int 24)) (ak (aq (.int 72)) (ak (aq (.int 216)) d9))))) (bw 0))) (aq (.int 3)))) d9)))) (qW cs b (some (.int first,false)) (some (.lst (bs.map bxT),true)) o4 o5 o6 none none sto)=some (.next,qW cs b (some (.int first,false)) (some (.lst (bs.map bxT),true)) o4 o5 o6 (some (.lst (hs.map hdT),false)) none sto):=D'
  have E':sNew 8 (gb (fun l=>some (.lst l)) d9) (qW cs b (some (.int first,false)) (some (.lst (bs.map bxT),true)) o4 o5 o6 (some (.lst (hs.map hdT),false)) none sto)=some (.next,qW cs b (some (.int first,false)) (some (.lst (bs.map bxT),true)) o4 o5 o6 (some (.lst (hs.map hdT),false)) (some (.lst [],true)) sto):=rfl
  have G:m9 (hName 4) (gn (mOp m6 (mOp j6 (bw 2) (aq (.int 2592))) (aq (.int 6)))) a2x (qW cs b (some (.int first,false)) (some (.lst (bs.map bxT),true)) o4 o5 o6 (some (.lst (hs.map hdT),false)) (some (.lst [],true)) sto)=some (.next,⟨[some (scr cs,false),some (.bl b,false),some (.int first,false),some (.lst (bs.map bxT),f'),a4,o5,o6,some (.lst (hs.map hdT),false),some (.lst (sp.map spT),true),w.1,w.2.1,w.2.2.1,w.2.2.2.1,w.2.2.2.2.1,w.2.2.2.2.2],sto⟩):=by
    have J:gn (mOp m6 (mOp j6 (bw 2) (aq (.int 2592))) (aq (.int 6))) (qW cs b (some (.int first,false)) (some (.lst (bs.map bxT),true)) o4 o5 o6 (some (.lst (hs.map hdT),false)) (some (.lst [],true)) sto)=some ((List.range' 0 q).map (fun (j:Nat)=>T.int (j:Int)),qW cs b (some (.int first,false)) (some (.lst (bs.map bxT),true)) o4 o5 o6 (some (.lst (hs.map hdT),false)) (some (.lst [],true)) sto):=by
      simp [iw,jc,sIf,jw,sNew,jr,m7,sNx,g8,sGo,dw,m9,dz,fu,jf,gq,uc,u6,mOr,jm,mIf,mOp,mUn,bw,gb,ak,d9,aq,ji,dj,dh,hName,m5,gn,jy,ltT,leT,ql,lu,tu,m6,j6,qb,sy,jh,j5,d8,qx,hq,lq,rangeT,List.range_eq_range']
    unfold m9; rw [J]; exact sl
  unfold v9 iw
  show (match jc _ _ (qW cs b none none none none none none none sto) with | some (.ret t,s)=>some (t,s.sto) | some (.next,s)=>some (.non,s.sto) | _=>none)=_
  rw [jq A,jq B,jq C',jq D2,jq E',jq G]
  cases f' <;> rfl
end
end K
end
noncomputable section
set_option linter.all false
set_option maxRecDepth 100000
set_option maxHeartbeats 1000000
set_option autoImplicit false
namespace K
open C PySem
noncomputable abbrev qX (cs:List Int) (b:Bool) (bs:List Bx) (hs:List Hd) (ss:List T) (k:Nat) (d e f g h:Slot) (kvs:List (List C.Key × T)):Sta:=⟨[some (scr cs,false),some (.bl b,false),some (prT bs hs ss,false),some (.obj 0,false),some (.int (k:Int),false),d,e,f,g,h],[.dit kvs]⟩
theorem Vv {q:List C.Key}:∀ {l r:List (List C.Key × T)},Dv q (l++r)=match Dv q l with | some t=>some t | none=>Dv q r
  | [],r=>rfl
  | (k,t)::l,r=>by
    rw [List.cons_append,Dv,Dv]
    by_cases e:k=q
    · rw [if_pos e,if_pos e]
    · rw [if_neg e,if_neg e]; exact Vv
theorem Ss {q:List C.Key}:∀ {l:List (List C.Key × T)},(l.any fun p=>decide (p.1=q))=false→Dv q l=none
  | [],_=>rfl
  | (k,t)::l,h=>by
    rw [List.any_cons,Bool.or_eq_false_iff] at h
    rw [Dv,if_neg (by simpa using h.1)]
    exact Ss h.2
theorem Oj {q k:List C.Key} {v:T}:∀ {l:List (List C.Key × T)},Dv q (l.map fun p=>if p.1=k then (p.1,v) else p)=if q=k then (Dv q l).map (fun _=>v) else Dv q l
  | []=>by simp [Dv]
  | (a,t)::l=>by
    rw [List.map_cons]
    by_cases h1:a=k
    · subst h1
      simp only [if_true,Dv,Oj (l:=l)]
      by_cases h2:a=q
      · subst h2; simp
      · simp only [if_neg h2]
    · simp only [if_neg h1,Dv,Oj (l:=l)]
      by_cases h2:a=q
      · subst h2; simp [h1]
      · simp only [if_neg h2]
theorem Va {q:List C.Key}:∀ {l:List (List C.Key × T)},(l.any fun p=>decide (p.1=q))=true→∃ t,Dv q l=some t
  | [],h=>by cases h
  | (k,t)::l,h=>by
    rw [Dv]
    by_cases e:k=q
    · exact ⟨t,if_pos e⟩
    · rw [if_neg e]
      refine Va ?_
      rw [List.any_cons] at h
      simpa [e] using h
theorem J8 {q k:List C.Key} {v:T} {l:List (List C.Key × T)}:Dv q (Yq k v l)=if q=k then some v else Dv q l:=by
  unfold Yq
  split
  · rename_i h
    rw [Oj]
    by_cases e:q=k
    · subst e
      obtain ⟨t,ht⟩:=Va h
      simp [ht]
    · simp [e]
  · rename_i h
    rw [Vv]
    by_cases e:q=k
    · subst e
      rw [Ss (Bool.eq_false_iff.mpr h)]
      simp [Dv]
    · have:¬ k=q:=fun z=>e z.symm
      rw [if_neg e]
      cases Dv q l with
      | some t=>rfl
      | none=>simp [Dv,this]
theorem a3a {k:List C.Key} {v:T} {l:List (List C.Key × T)}:(Yq k v l).length≤l.length+1:=by
  unfold Yq
  split
  · rw [List.length_map]; omega
  · rw [List.length_append,List.length_singleton]; omega -- here
noncomputable def Good (kvs:List (List C.Key × T)):Prop:=∀ q t,Dv q kvs=some t→∃ r,t=jz r∧OkR Bd 3 r
noncomputable abbrev a7n:S:=jc (Ii (bw 3) (ak (bw 5) (ak (bw 7) d9)) (dj mq (ak (dj m8 (ak (bw 0) (ak (bw 4) (ak (bw 1) d9)))) (ak (mOp bx (bw 2) (aq (.int 0))) (ak (mOp bx (bw 2) (aq (.int 1))) d9)))))
  (jw 4 (mOp lu (bw 4) (aq (.int 1))))
noncomputable section
variable {bs:List Bx} {hs:List Hd} {ss:List T} {cs:List Int} {b:Bool} {x:Str}
theorem Vx {o6 o8 o9:Slot} (E:Env bs hs):∀ (m j k:Nat) (kvs:List (List C.Key × T)) (o7:Slot),Good kvs→kvs.length+m≤1000 →
    ∃ (kvs':List (List C.Key × T)) (o7':Slot),forL (hName 7) a7n ((List.range' j m).map fun (i:Nat)=>T.int (i:Int)) (qX cs b bs hs ss k (some (.str x,false)) o6 o7 o8 o9 kvs)
      = some (.next,qX cs b bs hs ss (k+m:Nat) (some (.str x,false)) o6 o7' o8 o9 kvs')∧Good kvs'∧kvs'.length≤kvs.length+m∧(∀ q,(∃ t,Dv q kvs=some t)→∃ t,Dv q kvs'=some t)∧∀ i,j≤i→i<j+m→∃ t,Dv [.inr x,.inl (i:Int)] kvs'=some t
  | 0,j,k,kvs,o7,g,_=>⟨kvs,o7,by simp [forL],g,by omega,(fun q h=>h),(fun i h1 h2=>by omega)⟩
  | m+1,j,k,kvs,o7,g,hl=>by
    obtain ⟨d,ed⟩:=N5 (cs:=cs) (k:=k) (b:=b) (sto:=[.dit kvs])
    obtain ⟨r,er,or_⟩:=Mt (sto:=[.dit kvs]) (x:=d) E
    have lk:kvs.length<lim:=by show _<1000000; omega
    have xl:=a3a (k:=[.inr x,.inl (j:Int)]) (v:=jz r) (l:=kvs)
    have g':Good (Yq [.inr x,.inl (j:Int)] (jz r) kvs):=by
      intro q t h
      rw [J8] at h
      split at h
      · cases h; exact ⟨r,rfl,or_⟩
      · exact g q t h
    have st:a7n (qX cs b bs hs ss k (some (.str x,false)) o6 (some (.int (j:Int),false)) o8 o9 kvs)=some (.next,qX cs b bs hs ss (k+1:Nat) (some (.str x,false)) o6 (some (.int (j:Int),false)) o8 o9 (Yq [.inr x,.inl (j:Int)] (jz r) kvs)):=by
      unfold a7n
      generalize m8=F1 at *
      generalize mq=F2 at *
      simp [iw,jc,sIf,jw,sNew,jr,m7,sNx,g8,sGo,dw,m9,dz,fu,jf,gq,uc,u6,mOr,jm,mIf,mOp,mUn,bw,gb,ak,d9,aq,ji,dj,dh,hName,m5,gn,jy,ltT,leT,ql,lu,tu,m6,j6,qb,sy,jh,j5,d8,qx,Ii,ed,pr0,pr1,er,keysOf,keyOf,lk]
    obtain ⟨kvs',o7',ih,h1,h2,h3,h4⟩:=Vx E m (j+1) (k+1) (Yq [.inr x,.inl (j:Int)] (jz r) kvs) (some (.int (j:Int),false)) g' (by omega)
    refine ⟨kvs',o7',?_,h1,by omega,fun q ⟨t,ht⟩=>h3 q ?_,fun i i1 i2=>?_⟩
    · rw [List.range'_succ,List.map_cons,Kf (s1:=qX cs b bs hs ss k (some (.str x,false)) o6 (some (.int (j:Int),false)) o8 o9 kvs) rfl st,ih,show k+1+m=k+(m+1) by omega]
    · by_cases e:q=[.inr x,.inl (j:Int)]
      · exact ⟨_,by rw [J8,if_pos e]⟩
      · exact ⟨t,by rw [J8,if_neg e]; exact ht⟩
    · by_cases e:i=j
      · subst e
        exact h3 _ ⟨_,by rw [J8,if_pos rfl]⟩
      · exact h4 i (by omega) (by omega)
end
end K
end
noncomputable section
set_option linter.all false
set_option maxRecDepth 100000
set_option maxHeartbeats 1000000
set_option autoImplicit false
namespace K
open C PySem
noncomputable section
variable {bs:List Bx} {hs:List Hd} {ss:List T} {cs:List Int} {b:Bool} {sp:List Sp} {kvs:List (List C.Key × T)}
noncomputable def Has (hs:List Hd) (kvs:List (List C.Key × T)):Prop:=∀ h∈hs,∀ i:Nat,(i:Int)<h.2→∃ t,Dv [.inr h.1,.inl (i:Int)] kvs=some t
theorem a1u {o8 o9:Slot} (E:Env bs hs):∀ (l:List Hd) (k:Nat) (kvs:List (List C.Key × T)) (o5 o6 o7:Slot),(∀ h∈l,h∈hs)→Good kvs→kvs.length+3 * l.length≤900 →
    ∃ (kvs':List (List C.Key × T)) (k':Nat) (o5' o6' o7':Slot),forL (m5 [5,6]) (m9 (hName 7) (gn (bw 6)) a7n) (l.map hdT) (qX cs b bs hs ss k o5 o6 o7 o8 o9 kvs)
      = some (.next,qX cs b bs hs ss k' o5' o6' o7' o8 o9 kvs')∧Good kvs'∧(∀ q,(∃ t,Dv q kvs=some t)→∃ t,Dv q kvs'=some t)∧Has l kvs'
  | [],k,kvs,o5,o6,o7,_,g,_=>⟨kvs,k,o5,o6,o7,by simp [forL],g,(fun q h=>h),(fun h hh=>by cases hh)⟩
  | h::l,k,kvs,o5,o6,o7,hl,g,hz=>by
    obtain ⟨_,_,a1,a2⟩:=E.hh h (hl h List.mem_cons_self)
    obtain ⟨m,hm,hm3⟩:∃ m:Nat,h.2=(m:Int)∧m≤3:=⟨h.2.toNat,by omega,by omega⟩
    have lm:m<lim:=by show _<1000000; omega
    rw [List.length_cons] at hz
    obtain ⟨kv1,o7',e1,g1,l1,p1,q1⟩:=Vx (cs:=cs) (b:=b) (x:=h.1) (ss:=ss) (o6:=some (.int h.2,false)) (o8:=o8) (o9:=o9) E m 0 k kvs o7 g (by omega)
    have st:m9 (hName 7) (gn (bw 6)) a7n (qX cs b bs hs ss k (some (.str h.1,false)) (some (.int h.2,false)) o7 o8 o9 kvs)=some (.next,qX cs b bs hs ss (k+m:Nat) (some (.str h.1,false)) (some (.int h.2,false)) o7' o8 o9 kv1):=by
      have J:gn (bw 6) (qX cs b bs hs ss k (some (.str h.1,false)) (some (.int h.2,false)) o7 o8 o9 kvs)=some ((List.range' 0 m).map (fun (i:Nat)=>T.int (i:Int)),qX cs b bs hs ss k (some (.str h.1,false)) (some (.int h.2,false)) o7 o8 o9 kvs):=by
        simp [iw,jc,sIf,jw,sNew,jr,m7,sNx,g8,sGo,dw,m9,dz,fu,jf,gq,uc,u6,mOr,jm,mIf,mOp,mUn,bw,gb,ak,d9,aq,ji,dj,dh,hName,m5,gn,jy,ltT,leT,ql,lu,tu,m6,j6,qb,sy,jh,j5,d8,qx,hm,lm,rangeT,List.range_eq_range']
      unfold m9; rw [J]; exact e1
    obtain ⟨kv2,k2,c5,c6,c7,e2,g2,p2,q2⟩:=a1u E l (k+m) kv1 (some (.str h.1,false)) (some (.int h.2,false)) o7' (fun y hy=>hl y (List.mem_cons_of_mem _ hy)) g1 (by omega)
    refine ⟨kv2,k2,c5,c6,c7,?_,g2,fun q hq=>p2 q (p1 q hq),fun y hy i hi=>?_⟩
    · rw [List.map_cons,Kf (s1:=qX cs b bs hs ss k (some (.str h.1,false)) (some (.int h.2,false)) o7 o8 o9 kvs) (Hf (x:=.str h.1) (y:=.int h.2)) st,e2]
    · rcases List.mem_cons.mp hy with rfl | hy -- here
      · exact p2 _ (q1 i (Nat.zero_le _) (by omega))
      · exact q2 y hy i hi
theorem ac3 {r:Rem} (h:OkR Bd 3 r):OkR Bd 10 r:=h.up.up.up.up.up.up.up
theorem okk {h:Hd} {i:Nat} (E:Env bs hs) (g:Good kvs) (p:Has hs kvs) (hm:h∈hs) (hi:(i:Int)<h.2):∃ r,Okk kvs Bd ((h.1,(i:Int)),r):=by
  obtain ⟨t,ht⟩:=p h hm i hi
  obtain ⟨r,rfl,o⟩:=g _ _ ht
  obtain ⟨a,b,_⟩:=E.hh h hm
  exact ⟨r,a,b,ht,ac3 o⟩
theorem a3e {t:T} (E:Env bs hs) (g:Good kvs) (p:Has hs kvs) (so:∀ s∈sp,Vz bs hs s) (d:Xw hs sp t) :
    ∃ X:List T,lg [prT bs hs (sp.map spT),.obj 0,t] [.dit kvs]=some (.lst X,[.dit kvs])∧uf [prT bs hs (sp.map spT),.obj 0,t] [.dit kvs]=some (.lst X,[.dit kvs])∧neO (.lst X) (.lst X)=some (.bl false):=by
  have hb:∀ y∈bs,okS y.nm:=fun y hy=>a5s.ok _ (E.ub y hy)
  have oh:∀ h∈hs,okS h.1:=fun h hh=>(E.hh h hh).1
  have lh:∀ h∈hs,h.1.length<100:=fun h hh=>(E.hh h hh).2.1
  have step:∀ {i:Nat} (hi:i<sp.length),∃ s,s=sp[i]∧bx (.lst (sp.map spT)) (.int (i:Int))=some (stT s.hand s.here (jz s.guard) s.sets s.to)∧Ctx kvs bs s.sets s.hand s.guard∧(∀ q∈s.sets,okS q.1)∧(∃ r0,Okk kvs Bd ((s.hand,s.here),r0))∧∃ a,Okk kvs Bd ((s.hand,s.to),a):=by
    intro i hi
    have k:=so sp[i] (List.getElem_mem hi)
    obtain ⟨h,hm,e1,⟨i1,e2,e3⟩,⟨i2,e4,e5⟩⟩:=k.h
    obtain ⟨r0,k0⟩:=okk E g p hm e3
    obtain ⟨a,ka⟩:=okk E g p hm e5
    refine ⟨sp[i],rfl,step_at hi,⟨ac3 k.g,by rw [e1]; exact oh h hm,E.nb,E.lb,k.l,k.n,k.d⟩,fun q hq=>?_,⟨r0,by rw [e1,e2]; exact k0⟩,⟨a,by rw [e1,e4]; exact ka⟩⟩
    obtain ⟨y,hy,e⟩:=List.mem_map.mp (k.d q hq).2
    rw [← e]; exact hb y hy
  cases d with
  | @sta h hm =>
    obtain ⟨_,_,c,_⟩:=E.hh h hm
    obtain ⟨r,k⟩:=okk (i:=0) E g p hm (by omega)
    exact ⟨_,Wr E.lb E.lh lh rfl k.x k.r (by decide),Nq E.lb E.lh lh rfl k.x k.r (by decide),a4d hb oh k.r (by decide)⟩
  | @own i hi =>
    obtain ⟨s,_,it,c,hD,⟨r0,k0⟩,⟨a,ka⟩⟩:=step hi
    exact ⟨_,a3g c rfl it k0 ka,Ue c hb hD rfl it k0 ka,a1d c (fun q hq=>by rw [List.mem_singleton] at hq; subst hq; exact k0) ka.r⟩
  | @oth i q h hi hm hq =>
    obtain ⟨s,_,it,c,hD,⟨r0,k0⟩,⟨a,ka⟩⟩:=step hi
    obtain ⟨r2,k2⟩:=okk E g p hm hq
    exact ⟨_,Wm c rfl it k0 k2,Pu c hb hD rfl it k0 ka k2,a1d c (fun y hy=>by
      rcases List.mem_cons.mp hy with z | z
      · subst z; exact k0
      · rw [List.mem_singleton] at z; subst z; exact k2) k2.r⟩
end
end K
end
noncomputable section
set_option linter.all false
set_option maxRecDepth 100000
set_option maxHeartbeats 1000000
set_option autoImplicit false
namespace K
open C PySem
noncomputable abbrev aa5:S:=jc (sNew 9 (dj lg (ak (bw 2) (ak (bw 3) (ak (bw 8) d9)))))
  (jc (sIf (mOr (uc (gq (Mu 9))) (gq (Mx 9 (dj uf (ak (bw 2) (ak (bw 3) (ak (bw 8) d9)))))))
  (jr (aq (.bl false)))
  m7)
  (jc (dw 9)
  (sIf (gq (mOp neO (dj lg (ak (bw 2) (ak (bw 3) (ak (bw 8) d9)))) (dj uf (ak (bw 2) (ak (bw 3) (ak (bw 8) d9))))))
  (jr (aq (.bl false)))
  m7)))
noncomputable section
variable {bs:List Bx} {hs:List Hd} {cs:List Int} {b:Bool} {sp:List Sp} {kvs:List (List C.Key × T)}
theorem a2t {s4 s5 s6 s7 o9:Slot} {t:T} {P:T} {X:List T} (e1:lg [P,.obj 0,t] [.dit kvs]=some (.lst X,[.dit kvs])) (e2:uf [P,.obj 0,t] [.dit kvs]=some (.lst X,[.dit kvs])) (e3:neO (.lst X) (.lst X)=some (.bl false)) :
    aa5 ⟨[some (scr cs,false),some (.bl b,false),some (P,false),some (.obj 0,false),s4,s5,s6,s7,some (t,false),o9],[.dit kvs]⟩=some (.next,⟨[some (scr cs,false),some (.bl b,false),some (P,false),some (.obj 0,false),s4,s5,s6,s7,some (t,false),some (.lst X.reverse,true)],[.dit kvs]⟩):=by
  unfold aa5
  generalize lg=F1 at *
  generalize uf=F2 at *
  simp [iw,jc,sIf,jw,sNew,jr,m7,sNx,g8,sGo,dw,m9,dz,fu,jf,gq,uc,u6,mOr,jm,mIf,mOp,mUn,bw,gb,ak,d9,aq,ji,dj,dh,hName,m5,gn,jy,ltT,leT,ql,lu,tu,m6,j6,qb,sy,jh,j5,d8,qx,e1,e2,e3,Mu,Mx]
theorem a3r {cs:List Int} (hc:cs.length≤63):∃ st,Xq [scr cs] []=some (.bl true,st):=by
  have c0:=a0l (cs:=cs) (k:=0) (i:=0) (sto:=[]) rfl
  obtain ⟨fr,hfr⟩:∃ fr:Bool,(cell cs 0%2==1)=fr:=⟨_,rfl⟩
  obtain ⟨bs,hs,sp,ep,E,lsp,so⟩:=Ur (sto:=[]) (cs:=cs) (b:=fr)
  have lh4:=E.lh
  have A:jw 1 (mOp eqO (mOp m6 (dj je (ak (bw 0) (ak (aq (.int 0)) d9))) (aq (.int 2))) (aq (.int 1))) ⟨[some (scr cs,false),none,none,none,none,none,none,none,none,none],[]⟩=some (.next,⟨[some (scr cs,false),some (.bl fr,false),none,none,none,none,none,none,none,none],[]⟩):=by
    generalize je=F at *
    simp [iw,jc,sIf,jw,sNew,jr,m7,sNx,g8,sGo,dw,m9,dz,fu,jf,gq,uc,u6,mOr,jm,mIf,mOp,mUn,bw,gb,ak,d9,aq,ji,dj,dh,hName,m5,gn,jy,ltT,leT,ql,lu,tu,m6,j6,qb,sy,jh,j5,d8,qx,c0,Ej,hfr]
  have B:jw 2 (dj v9 (ak (bw 0) (ak (bw 1) d9))) ⟨[some (scr cs,false),some (.bl fr,false),none,none,none,none,none,none,none,none],[]⟩=some (.next,⟨[some (scr cs,false),some (.bl fr,false),some (prT bs hs (sp.map spT),false),none,none,none,none,none,none,none],[]⟩):=by
    generalize v9=F at *
    exact (ys (zf rfl ep) rfl)
  have C':jw 3 Uq ⟨[some (scr cs,false),some (.bl fr,false),some (prT bs hs (sp.map spT),false),none,none,none,none,none,none,none],[]⟩=some (.next,⟨[some (scr cs,false),some (.bl fr,false),some (prT bs hs (sp.map spT),false),some (.obj 0,false),none,none,none,none,none,none],[.dit []]⟩):=rfl
  have D':jw 4 (aq (.int 9)) ⟨[some (scr cs,false),some (.bl fr,false),some (prT bs hs (sp.map spT),false),some (.obj 0,false),none,none,none,none,none,none],[.dit []]⟩=some (.next,qX cs fr bs hs (sp.map spT) (9:Nat) none none none none none []):=rfl
  obtain ⟨kvs,k',o5,o6,o7,ea,g,_,has⟩:=a1u (cs:=cs) (b:=fr) (ss:=sp.map spT) (o8:=none) (o9:=none) E hs 9 [] none none none (fun h hh=>hh) (fun q t h=>by cases h) (by simp; omega)
  have lh:hs.length<lim:=by show _<1000000; omega
  have E1:m9 (m5 [5,6]) (jy (mOp bx (bw 2) (aq (.int 1)))) (m9 (hName 7) (gn (bw 6)) a7n) (qX cs fr bs hs (sp.map spT) (9:Nat) none none none none none [])=some (.next,qX cs fr bs hs (sp.map spT) k' o5 o6 o7 none none kvs):=by
    have J:jy (mOp bx (bw 2) (aq (.int 1))) (qX cs fr bs hs (sp.map spT) (9:Nat) none none none none none [])=some (hs.map hdT,qX cs fr bs hs (sp.map spT) (9:Nat) none none none none none []):=(zis (zo rfl rfl rfl) ‹_›)
    unfold m9; rw [J]; exact ea
  obtain ⟨l,dl,dd,ll⟩:=a1q (sto:=[.dit kvs]) (bs:=bs) lsp (fun s hs'=>by
    obtain ⟨h,hm,e,_⟩:=(so s hs').h
    rw [e]; exact (E.hh h hm).1) (fun h hm=>by
    obtain ⟨a,_,c,d⟩:=E.hh h hm
    exact ⟨a,d,by omega⟩) lh4
  have l1:l.length<lim:=by show _<1000000; omega
  have F1:∃ o8 o9:Slot,m9 (hName 8) (jy (dj xr (ak (bw 2) d9))) aa5 (qX cs fr bs hs (sp.map spT) k' o5 o6 o7 none none kvs)=some (.next,qX cs fr bs hs (sp.map spT) k' o5 o6 o7 o8 o9 kvs):=by
    have J:jy (dj xr (ak (bw 2) d9)) (qX cs fr bs hs (sp.map spT) k' o5 o6 o7 none none kvs)=some (l,qX cs fr bs hs (sp.map spT) k' o5 o6 o7 none none kvs):=by
      generalize xr=F at *
      simp [iw,jc,sIf,jw,sNew,jr,m7,sNx,g8,sGo,dw,m9,dz,fu,jf,gq,uc,u6,mOr,jm,mIf,mOp,mUn,bw,gb,ak,d9,aq,ji,dj,dh,hName,m5,gn,jy,ltT,leT,ql,lu,tu,m6,j6,qb,sy,jh,j5,d8,qx,dl,l1]
    generalize hF:forL (hName 8) aa5 l (qX cs fr bs hs (sp.map spT) k' o5 o6 o7 none none kvs)=r
    obtain ⟨s',rfl,P⟩:=a0t hF (fun ts st=>(∀ t∈ts,Xw hs sp t)∧∃ o8 o9:Slot,st=(qX cs fr bs hs (sp.map spT) k' o5 o6 o7 o8 o9 kvs))
      ⟨dd,none,none,rfl⟩ (by
        rintro t r st ⟨h1,o8,o9,rfl⟩
        obtain ⟨X,x1,x2,x3⟩:=a3e E g has so (h1 t List.mem_cons_self)
        exact ⟨(qX cs fr bs hs (sp.map spT) k' o5 o6 o7 (some (t,false)) o9 kvs),_,rfl,a2t x1 x2 x3,fun y hy=>h1 y (List.mem_cons_of_mem _ hy),_,_,rfl⟩)
    obtain ⟨_,o8,o9,rfl⟩:=P
    refine ⟨o8,o9,?_⟩
    unfold m9; rw [J]; exact hF
  obtain ⟨o8,o9,F2⟩:=F1
  refine ⟨[.dit kvs],?_⟩
  unfold Xq iw
  show (match jc _ _ ⟨[some (scr cs,false),none,none,none,none,none,none,none,none,none],[]⟩ with | some (.ret t,s)=>some (t,s.sto) | some (.next,s)=>some (.non,s.sto) | _=>none)=_
  rw [jq A,jq B,jq C',jq D',jq E1,jq F2]
  rfl
end
end K
end
noncomputable section
set_option linter.all false
set_option maxRecDepth 100000
set_option maxHeartbeats 1000000
namespace D
open PySem L2 C
structure FA (K:PySem.W.Frag) (x:Str) (st:Stmt) (f:Addr) (fd:FuncData):Prop where
  a:PySem.W.nsIn K mainGlobals x=some (some (.ref f))
  F:Fun K x x st f fd
theorem ab7 {K:PySem.W.Frag} {x:Str} {st:Stmt} {f:Addr} {oc:Value} {od an:Option Addr} {osl:Array (Option Value)} {kV doc pm cdv ct:Value} (a:PySem.W.nsIn K mainGlobals x=some (some (.ref f)))
    (l:K.lookup f=some ⟨oc,od,.func (PySem.W.fnOf x x (El st) (Bq st) (j7 st) .none kV doc pm an cdv ct),osl⟩) (c:PySem.W.codeIn K cdv x=true) (k:PySem.W.keepIn K (.ref f)=true):FA K x st f (PySem.W.fnOf x x (El st) (Bq st) (j7 st) .none kV doc pm an cdv ct):=⟨a,a5g l c k⟩
theorem FA.m {K:PySem.W.Frag} {x:Str} {st:Stmt} {f:Addr} {fd:FuncData} {hp:Heap} {mg:Str→Option Value} (h:FA K x st f fd) (X:K.In hp) (G:hp.Ns mainGlobals mg):mg x=some (.ref f):=PySem.W.mg_of X G h.a
theorem all_mk {l:PySem.W.OpenLaw} {w:World} {K:PySem.W.Frag} {h:Heap} {mg:Str→Option Value} {fa f1 f2 f3 f4 f5 f6 f7 f8 f9 f10 f11 f12 f13 f14 f15 f16 f17 f18 f19 f20 f21 f22 f23 f24 f25 f26 f27 f28 f29 f30 f31 f32 f33 f34 f35 f36 f37:Addr} {fd1 fd2 fd3 fd4 fd5 fd6 fd7 fd8 fd9 fd10 fd11 fd12 fd13 fd14 fd15 fd16 fd17 fd18 fd19 fd20 fd21 fd22 fd23 fd24 fd25 fd26 fd27 fd28 fd29 fd30 fd31 fd32 fd33 fd34 fd35 fd36:FuncData} (X:K.In h) (G:h.Ns mainGlobals mg) (hfa:mg "law" = some (.ref fa))
    {od37 an37:Option Addr} {sl37:Array (Option Value)} {oc37 kV37 dc37 pm37 cd37 ct37:Value}
    (h1:FA K "sum_of" Jd f1 fd1)
    (h2:FA K "plus" Vi f2 fd2)
    (h3:FA K "by" s_by f3 fd3)
    (h4:FA K "minus" Pq f4 fd4)
    (h5:FA K "put" a2a f5 fd5)
    (h6:FA K "place_ahead" Aw f6 fd6)
    (h7:FA K "asked_ahead" zx f7 fd7)
    (h8:FA K "behind" J7 f8 fd8)
    (h9:FA K "place_box" Dn f9 fd9)
    (h10:FA K "equal_form" Ce f10 fd10)
    (h11:FA K "unequal_form" Ae f11 fd11)
    (h12:FA K "plain_form" Aj f12 fd12)
    (h13:FA K "against_form" yr f13 fd13)
    (h14:FA K "others_of" Dp f14 fd14)
    (h15:FA K "duties_of" Dm f15 fd15)
    (h16:FA K "within_form" Ax f16 fd16)
    (h17:FA K "set_forms" Ds f17 fd17)
    (h18:FA K "given_forms" Ay f18 fd18)
    (h19:FA K "step_forms" Bw f19 fd19)
    (h20:FA K "start_forms" Ba f20 fd20)
    (h21:FA K "duty_forms" Cd f21 fd21)
    (h22:FA K "_law_cell_at" Av f22 fd22)
    (h23:FA K "_law_signed" Bt f23 fd23)
    (h24:FA K "_law_digits" Ca f24 fd24)
    (h25:FA K "_law_sum" Hw f25 fd25)
    (h26:FA K "_law_atom" Fe f26 fd26)
    (h27:FA K "_law_remark" Bv f27 fd27)
    (h28:FA K "_law_program" Az f28 fd28)
    (h29:FA K "_law_plus" Fj f29 fd29)
    (h30:FA K "_law_put" Gy f30 fd30)
    (h31:FA K "_law_behind" Ao f31 fd31)
    (h32:FA K "_law_plain" Bk f32 fd32)
    (h33:FA K "_law_against" zu f33 fd33)
    (h34:FA K "_law_at_start" Ag f34 fd34)
    (h35:FA K "_law_start" Dt f35 fd35)
    (h36:FA K "_law_due" Hj f36 fd36)
    (a37:PySem.W.nsIn K mainGlobals "law" = some (some (.ref f37))) (l37:K.lookup f37=some ⟨oc37,od37,.func (PySem.W.fnOf "law" "law" (El Nm) (Bq Nm) (j7 Nm) .none kV37 dc37 pm37 an37 cd37 ct37),sl37⟩) (c37:PySem.W.codeIn K cd37 "law" = true) (k37:PySem.W.keepIn K (.ref f37)=true)
    (z_abs:PySem.W.nsIn K mainGlobals "abs" = some none)
    (z_dict:PySem.W.nsIn K mainGlobals "dict" = some none)
    (z_int:PySem.W.nsIn K mainGlobals "int" = some none)
    (z_isinstance:PySem.W.nsIn K mainGlobals "isinstance" = some none)
    (z_len:PySem.W.nsIn K mainGlobals "len" = some none)
    (z_list:PySem.W.nsIn K mainGlobals "list" = some none)
    (z_range:PySem.W.nsIn K mainGlobals "range" = some none)
    (z_sorted:PySem.W.nsIn K mainGlobals "sorted" = some none)
    (z_tuple:PySem.W.nsIn K mainGlobals "tuple" = some none)
    {q_FALSE_ONE_0 q_FALSE_ONE_2:Addr}    {tk_FALSE_ONE_1:Tok}    {n_FALSE_ONE_0 n_FALSE_ONE_2:Nat}    {s_FALSE_ONE_0 s_FALSE_ONE_2:Array (Option Value)} (zc_FALSE_ONE:PySem.W.nsIn K mainGlobals "FALSE_ONE" = some (some (.ref q_FALSE_ONE_0))) (zl_FALSE_ONE_2:K.lookup q_FALSE_ONE_2=some ⟨.type "tuple",none,.seq [].toArray n_FALSE_ONE_2,s_FALSE_ONE_2⟩) (zl_FALSE_ONE_0:K.lookup q_FALSE_ONE_0=some ⟨.type "tuple",none,.seq [(.str "or" tk_FALSE_ONE_1),(.ref q_FALSE_ONE_2)].toArray n_FALSE_ONE_0,s_FALSE_ONE_0⟩)
    {q_TRUE_ONE_0 q_TRUE_ONE_2:Addr}    {tk_TRUE_ONE_1:Tok}    {n_TRUE_ONE_0 n_TRUE_ONE_2:Nat}    {s_TRUE_ONE_0 s_TRUE_ONE_2:Array (Option Value)} (zc_TRUE_ONE:PySem.W.nsIn K mainGlobals "TRUE_ONE" = some (some (.ref q_TRUE_ONE_0))) (zl_TRUE_ONE_2:K.lookup q_TRUE_ONE_2=some ⟨.type "tuple",none,.seq [].toArray n_TRUE_ONE_2,s_TRUE_ONE_2⟩) (zl_TRUE_ONE_0:K.lookup q_TRUE_ONE_0=some ⟨.type "tuple",none,.seq [(.str "and" tk_TRUE_ONE_1),(.ref q_TRUE_ONE_2)].toArray n_TRUE_ONE_0,s_TRUE_ONE_0⟩)
    {q_TURNED:Addr} {t_TURNED_0 u_TURNED_0 t_TURNED_1 u_TURNED_1:Tok} {h_TURNED_0 h_TURNED_1:Int} {n_TURNED:Nat} (zc_TURNED:PySem.W.nsIn K mainGlobals "TURNED" = some (some (.ref q_TURNED))) (zl_TURNED_0:K.lookup q_TURNED=some ⟨.type "dict",none,.dict #[{ hash:=h_TURNED_0,key:=.str "and" t_TURNED_0,val:=.str "or" u_TURNED_0 },{ hash:=h_TURNED_1,key:=.str "or" t_TURNED_1,val:=.str "and" u_TURNED_1 }] n_TURNED,#[]⟩) (zh_TURNED_0:h_TURNED_0=hashStr w "and") (zh_TURNED_1:h_TURNED_1=hashStr w "or")
    : ∃ fd:FuncData,(∀ (s:Shared) (v:Value),BindsTo s fd ⟨[v],[]⟩ [("_law_script",v)])∧∀ base:Heap,K.In base→base.Ns mainGlobals mg→zy l.prog w K mg base CX0 47 fa fd ["_law_script"] (spF K 1 _root_.K.Xq):=by
  have e:=hfa.symm.trans (PySem.W.mg_of X G a37)
  cases e
  have F37:=a5g (st:=Nm) l37 c37 k37
  have b_abs:=PySem.W.mg_none_of X G z_abs
  have b_dict:=PySem.W.mg_none_of X G z_dict
  have b_int:=PySem.W.mg_none_of X G z_int
  have b_isinstance:=PySem.W.mg_none_of X G z_isinstance
  have b_len:=PySem.W.mg_none_of X G z_len
  have b_list:=PySem.W.mg_none_of X G z_list
  have b_range:=PySem.W.mg_none_of X G z_range
  have b_sorted:=PySem.W.mg_none_of X G z_sorted
  have b_tuple:=PySem.W.mg_none_of X G z_tuple
  have c_FALSE_ONE:∃ u,mg "FALSE_ONE" = some u∧Held K u (.tup [(.str "or"),(.tup [])]):=⟨_,PySem.W.mg_of X G zc_FALSE_ONE,(Held.tup zl_FALSE_ONE_0 (by simp) (Gd.cons Held.str (Gd.cons (Held.tup zl_FALSE_ONE_2 (by simp) Gd.nil) Gd.nil)))⟩
  have c_TRUE_ONE:∃ u,mg "TRUE_ONE" = some u∧Held K u (.tup [(.str "and"),(.tup [])]):=⟨_,PySem.W.mg_of X G zc_TRUE_ONE,(Held.tup zl_TRUE_ONE_0 (by simp) (Gd.cons Held.str (Gd.cons (Held.tup zl_TRUE_ONE_2 (by simp) Gd.nil) Gd.nil)))⟩
  have c_TURNED:∃ a,mg "TURNED" = some (.ref a)∧Za K w a [("and","or"),("or","and")]:=⟨_,PySem.W.mg_of X G zc_TURNED,_,_,zl_TURNED_0,(.cons zh_TURNED_0 (.cons zh_TURNED_1 .nil)),by decide +kernel⟩
  refine ⟨PySem.W.fnOf "law" "law" (El Nm) (Bq Nm) (j7 Nm) .none kV37 dc37 pm37 an37 cd37 ct37,fun s v=>.of_eq rfl,fun base _ _=>?_⟩
  have d_sum_of:=Zn (P:=l.prog) (w:=w) (base:=base) h1.F (h1.m X G) b_sorted b_tuple
  have d_plus:=a5v (P:=l.prog) (w:=w) (base:=base) h2.F (h2.m X G) d_sum_of
  have d_by:=ab9 (P:=l.prog) (w:=w) (base:=base) h3.F (h3.m X G) d_sum_of
  have d_minus:=a2h (P:=l.prog) (w:=w) (base:=base) h4.F (h4.m X G) d_by d_plus
  have d_put:=a88 (P:=l.prog) (w:=w) (base:=base) h5.F (h5.m X G) d_by d_sum_of
  have d_place_ahead:=La (P:=l.prog) (w:=w) (base:=base) h6.F (h6.m X G) c_FALSE_ONE c_TRUE_ONE
  have g_asked_ahead:=Em (P:=l.prog) (w:=w) (base:=base) h7.F (h7.m X G) d_place_ahead d_put b_tuple 40
  have d_asked_ahead:=g_asked_ahead
  have d_behind:=Y9 (P:=l.prog) (w:=w) (base:=base) h8.F (h8.m X G) d_asked_ahead b_dict
  have d_place_box:=Rn (P:=l.prog) (w:=w) (base:=base) h9.F (h9.m X G)
  have d_equal_form:=Pk (P:=l.prog) (w:=w) (base:=base) h10.F (h10.m X G)
  have d_unequal_form:=Jo (P:=l.prog) (w:=w) (base:=base) h11.F (h11.m X G)
  have g_plain_form:=Fw (P:=l.prog) (w:=w) (base:=base) h12.F (h12.m X G) h13.F (h13.m X G) d_equal_form d_minus d_place_box d_unequal_form b_range b_tuple c_TURNED 40
  have d_plain_form:=g_plain_form.1
  have d_against_form:=g_plain_form.2
  have d_others_of:=S7 (P:=l.prog) (w:=w) (base:=base) h14.F (h14.m X G) b_range
  have d_duties_of:=R9 (P:=l.prog) (w:=w) (base:=base) h15.F (h15.m X G) d_others_of b_len b_list b_range
  have d_within_form:=Lq (P:=l.prog) (w:=w) (base:=base) h16.F (h16.m X G) d_minus
  have d_set_forms:=S9 (P:=l.prog) (w:=w) (base:=base) h17.F (h17.m X G) d_within_form
  have d_given_forms:=Lb (P:=l.prog) (w:=w) (base:=base) h18.F (h18.m X G) d_plain_form d_set_forms
  have d_step_forms:=Ot (P:=l.prog) (w:=w) (base:=base) h19.F (h19.m X G) d_against_form d_behind d_given_forms
  have d_start_forms:=Lw (P:=l.prog) (w:=w) (base:=base) h20.F (h20.m X G) d_against_form d_equal_form d_place_box
  have d_duty_forms:=Nz (P:=l.prog) (w:=w) (base:=base) h21.F (h21.m X G) d_start_forms d_step_forms
  have d_law_cell_at:=Ly (P:=l.prog) (w:=w) (base:=base) h22.F (h22.m X G) b_len
  have d_law_signed:=Nt (P:=l.prog) (w:=w) (base:=base) h23.F (h23.m X G)
  have d_law_digits:=Nv (P:=l.prog) (w:=w) (base:=base) h24.F (h24.m X G) d_law_cell_at
  have d_law_sum:=Wz (P:=l.prog) (w:=w) (base:=base) h25.F (h25.m X G) b_len b_range b_sorted b_tuple
  have d_law_atom:=Uj (P:=l.prog) (w:=w) (base:=base) h26.F (h26.m X G) d_law_sum b_len
  have d_law_remark:=Oc (P:=l.prog) (w:=w) (base:=base) h27.F (h27.m X G) d_law_atom
  have d_law_program:=Li (P:=l.prog) (w:=w) (base:=base) h28.F (h28.m X G) d_law_cell_at d_law_digits d_law_remark d_law_signed d_law_sum b_abs b_len b_range b_sorted b_tuple
  have d_law_plus:=Ug (P:=l.prog) (w:=w) (base:=base) h29.F (h29.m X G) b_dict b_sorted b_tuple
  have d_law_put:=Xo (P:=l.prog) (w:=w) (base:=base) h30.F (h30.m X G) d_law_plus b_dict
  have g_law_behind:=G8 (P:=l.prog) (w:=w) (base:=base) h31.F (h31.m X G) d_law_put b_int b_tuple 40
  have d_law_behind:=g_law_behind
  have g_law_plain:=Gp (P:=l.prog) (w:=w) (base:=base) h32.F (h32.m X G) h33.F (h33.m X G) d_law_plus b_int b_range b_tuple 40
  have d_law_plain:=g_law_plain.1
  have d_law_against:=g_law_plain.2
  have d_law_at_start:=Jf (P:=l.prog) (w:=w) (base:=base) h34.F (h34.m X G)
  have d_law_start:=Ra (P:=l.prog) (w:=w) (base:=base) h35.F (h35.m X G) d_law_against d_law_at_start
  have d_law_due:=Xn (P:=l.prog) (w:=w) (base:=base) h36.F (h36.m X G) d_law_against d_law_behind d_law_plain d_law_plus d_law_start
  exact a8o F37 d_law_cell_at d_law_digits d_law_due d_law_program d_law_remark d_duties_of d_duty_forms b_isinstance b_list b_range
theorem walk {l:PySem.W.OpenLaw} {q:Program} {loose:List Str} {XP:(Str→Option Value)→Heap→Prop} {YP:World→Heap→Prop} {d:DefRec} {K:Params→PySem.W.Frag} (hn:l.most=some 63) (hdf:d.params.defaults=[])
    (hY:∀ (w:World) (h:Heap),YP w h→(K w.params).In h)
    (F:∀ (w:World) (mg:Str→Option Value) (fa:Addr) (h:Heap),(K w.params).In h→h.Ns mainGlobals mg→mg d.name=some (.ref fa) →
      ∃ fd:FuncData,(∀ (s:Shared) (u:Value),BindsTo s fd ⟨[u],[]⟩ [("_law_script",u)])∧∀ base:Heap,(K w.params).In base→base.Ns mainGlobals mg→zy l.prog w (K w.params) mg base CX0 47 fa fd ["_law_script"] (spF (K w.params) 1 _root_.K.Xq)) :
    PySem.W.WalkO q loose XP YP l.row.toRowW d [] (fun f vs=>PySem.call f vs) :=
  L2.a7a (n:=63) (k:=47) (x := "_law_script") (CX:=fun _=>CX0) (sp:=fun w=>spF (K w.params) 1 _root_.K.Xq) hn (by decide) hdf ⟨rfl,by decide,by decide⟩ hY F (fun w H a ns hl _ hS=>a79 hS (_root_.K.a3r (cs:=ns) hl)) fun _ _ _ _ _ z=>z
end D
open PySem PySem.W PyProof.Rows
set_option maxRecDepth 100000 in
set_option maxHeartbeats 0 in
theorem PySem.Challenge.cw_calm_k44_forms_of_all_duties_holds : PySem.Challenge.rw_calm_k44_forms_of_all_duties.Holds := by
  w_on; o_law; k_head; (case hw=>w_witness2)
  k_fill
  refine D.walk (l:=PySem.Challenge.rw_calm_k44_forms_of_all_duties) rfl rfl (fun w h Y=>PySem.W.kIn_of Y) ?F
  case F =>
    intro w mg fa h KX G hmg
    refine' D.all_mk KX G hmg ?h1 ?h2 ?h3 ?h4 ?h5 ?h6 ?h7 ?h8 ?h9 ?h10 ?h11 ?h12 ?h13 ?h14 ?h15 ?h16 ?h17 ?h18 ?h19 ?h20 ?h21 ?h22 ?h23 ?h24 ?h25 ?h26 ?h27 ?h28 ?h29 ?h30 ?h31 ?h32 ?h33 ?h34 ?h35 ?h36 ?a37 ?l37 ?c37 ?k37 ?z_abs ?z_dict ?z_int ?z_isinstance ?z_len ?z_list ?z_range ?z_sorted ?z_tuple ?zc_FALSE_ONE ?zl_FALSE_ONE_2 ?zl_FALSE_ONE_0 ?zc_TRUE_ONE ?zl_TRUE_ONE_2 ?zl_TRUE_ONE_0 ?zc_TURNED ?zl_TURNED_0 ?zh_TURNED_0 ?zh_TURNED_1
    case h1 | h2 | h3 | h4 | h5 | h6 | h7 | h8 | h9 | h10 | h11 | h12 | h13 | h14 | h15 | h16 | h17 | h18 | h19 | h20 | h21 | h22 | h23 | h24 | h25 | h26 | h27 | h28 | h29 | h30 | h31 | h32 | h33 | h34 | h35 | h36=>refine' D.ab7 ?a ?l ?c ?k; (case a=>k_is); (case l=>k_is); (case c=>k_is); (case k=>k_is)
    case a37 | l37 | c37 | k37 | z_abs | z_dict | z_int | z_isinstance | z_len | z_list | z_range | z_sorted | z_tuple | zc_FALSE_ONE | zc_TRUE_ONE | zc_TURNED | zl_FALSE_ONE_0 | zl_FALSE_ONE_2 | zl_TRUE_ONE_0 | zl_TRUE_ONE_2 | zl_TURNED_0=>k_is
    (case zh_TURNED_0=>rfl)
    (case zh_TURNED_1=>rfl)
#print axioms PySem.Challenge.cw_calm_k44_forms_of_all_duties_holds
end
