import PyProof.Rows.All
import Wide.All
import OpenK.AllK
import Wide.FinOn
import Lean
import PyProof.EqAt
import PyProof.EqKinds
import PyProof.TupleCall
import PyProof.P3Statements
import PyProof.Lay0
import PyProof.P3Eq
import PyProof.NeData
import KE.KEqDict
import PyProof.ListRange
import KE.KDictSum
import PyProof.AttrMissHeap
import PyProof.WalksS
import KE.KDictOf
import KE.KRevSl
import PyProof.ZipIter
import PyProof.WalksMore
import PyProof.Rows.FactsT2
import PyProof.Rows.SetFrom
import PyProof.Rows.SortStr
import KE.KDictList
import PyProof.FactsAll.set
import PyProof.CollectWalk
import PyProof.DictWalks
import PyProof.DictItems
import PyProof.EnumMake
import PyProof.Rows.EnumRows
import PySem.Challenge.RW_calm_k31_whole_either_order
set_option Elab.async false
noncomputable section
set_option linter.all false
set_option maxRecDepth 100000
namespace L2
open PySem PySem.Spec PyProof.Rows
noncomputable abbrev Key:=Sum Int Str
noncomputable def Qv:Key→Value→Bool
  | .inl k,v=>Value.isInt k v
  | .inr x,v=>Value.isStrOf x v
noncomputable def ad1 (w:World):Key→Int
  | .inl k=>hashInt k
  | .inr x=>hashStr w x
theorem vd:∀ {k:Key} {v:Value},Qv k v=true→(∃ i t,k=Sum.inl i∧v=Value.int i t)∨(∃ x t,k=Sum.inr x∧v=Value.str x t)
  | .inl i,v,h=>by
    obtain ⟨t,e⟩:=Value.isInt_shape (k:=i) (v:=v) h
    exact .inl ⟨i,t,rfl,e⟩
  | .inr x,v,h=>by
    obtain ⟨t,e⟩:=Value.isStrOf_shape (x:=x) (v:=v) h
    exact .inr ⟨x,t,rfl,e⟩
theorem Yn (i:Int) (t:Tok):Qv (.inl i) (.int i t)=true:=by simp [Qv,Value.isInt]
theorem a0j (x:Str) (t:Tok):Qv (.inr x) (.str x t)=true:=by simp [Qv,Value.isStrOf]
theorem a9t (a b:Int):decide ((Sum.inl a:Key)=Sum.inl b)=(a==b):=by
  by_cases e:a=b
  · subst e; simp
  · have h:¬ (Sum.inl a:Key)=Sum.inl b:=fun q=>e (Sum.inl.inj q)
    rw [decide_eq_false h]
    exact (beq_eq_false_iff_ne.mpr e).symm
theorem a9x (a b:Str):decide ((Sum.inr a:Key)=Sum.inr b)=decide (a=b):=by
  by_cases e:a=b
  · subst e; simp
  · have h:¬ (Sum.inr a:Key)=Sum.inr b:=fun q=>e (Sum.inr.inj q)
    rw [decide_eq_false h,decide_eq_false e]
theorem a8i (a:Int) (b:Str):decide ((Sum.inl a:Key)=Sum.inr b)=false:=decide_eq_false (fun q=>nomatch q)
theorem a8l (a:Str) (b:Int):decide ((Sum.inr a:Key)=Sum.inl b)=false:=decide_eq_false (fun q=>nomatch q)
noncomputable def vo (prog:Program) (w:World):PySem.KeyKind prog w Key where
  is:=Qv
  hash:=ad1 w
  inj:=fun v a b ha hb=>by
    rcases vd ha with ⟨i,t,rfl,rfl⟩ | ⟨x,t,rfl,rfl⟩
    · rcases vd hb with ⟨j,u,rfl,e⟩ | ⟨y,u,rfl,e⟩
      · injection e with e1 _; rw [e1]
      · exact nomatch e
    · rcases vd hb with ⟨j,u,rfl,e⟩ | ⟨y,u,rfl,e⟩
      · exact nomatch e
      · injection e with e1 _; rw [e1]
  byValue:=fun k v h=>by
    rcases vd h with ⟨i,t,rfl,rfl⟩ | ⟨x,t,rfl,rfl⟩ <;> rfl
  pyHash:=fun hv h=>by
    rcases vd hv with ⟨i,t,rfl,rfl⟩ | ⟨x,t,rfl,rfl⟩
    · exact wpAny_pyHash_int h
    · exact wpAny_pyHash_str h
  eqBool:=fun hu hv h=>by
    rcases vd hu with ⟨i,t,rfl,rfl⟩ | ⟨x,t,rfl,rfl⟩
    · rcases vd hv with ⟨j,u,rfl,rfl⟩ | ⟨y,u,rfl,rfl⟩
      · rw [a9t] at h; exact wpAny_eqBool_int h
      · rw [a8i] at h; exact SeqAt.EqAt.int_str i t y u _ _ _ _ h
    · rcases vd hv with ⟨j,u,rfl,rfl⟩ | ⟨y,u,rfl,rfl⟩
      · rw [a8l] at h; exact SeqAt.EqAt.str_int x t j u _ _ _ _ h
      · rw [a9x] at h; exact wpAny_eqBool_str h
  «strs»:=fun k x t v h=>by
    rcases vd h with ⟨i,u,rfl,e⟩ | ⟨y,u,rfl,e⟩
    · exact nomatch e
    · injection e with e1 _
      subst e1
      cases v <;> rfl
theorem Wi (prog:Program) (w:World) (k:Key) (v:Value):(vo prog w).is k v=Qv k v:=rfl
theorem S7 (prog:Program) (w:World) (i:Int) (t:Tok):(vo prog w).is (.inl i) (.int i t)=true:=Yn i t
theorem Te (prog:Program) (w:World) (x:Str) (t:Tok):(vo prog w).is (.inr x) (.str x t)=true:=a0j x t
end L2
namespace L2
open PySem PySem.Spec PyProof.Rows
inductive V where
  | non | bl (b:Bool) | int (i:Int) | str (x:Str) | byt (b:Array UInt8) | flt (b:UInt64) | ref (a:Addr) | ty (n:String)
  deriving DecidableEq
noncomputable def Dc:V→Value→Prop
  | .non,u=>u=Value.none
  | .bl b,u=>u=Value.bool b
  | .int i,u=>∃ t,u=Value.int i t
  | .str x,u=>∃ t,u=Value.str x t
  | .byt b,u=>∃ t,u=Value.bytes b t
  | .flt b,u=>∃ t,u=Value.float b t
  | .ref a,u=>u=Value.ref a
  | .ty n,u=>u=Value.type n
noncomputable abbrev yh:List V→List Value→Prop:=Paired Dc
theorem yh.length {xs:List V} {us:List Value} (r:yh xs us):xs.length=us.length:=Paired.length r
theorem yh.get:∀ {xs:List V} {us:List Value} {i:Nat} {x:V},yh xs us→xs[i]? = some x→∃ u,us[i]? = some u∧Dc x u
  | _,_,_,_,.nil,e=>by simp at e
  | _,_,0,_,.cons r _,e=>by simp at e; subst e; exact ⟨_,rfl,r⟩
  | _,_,i+1,x,.cons _ t,e=>by
    obtain ⟨u,h1,h2⟩:=yh.get (i:=i) (x:=x) t (by simpa using e)
    exact ⟨u,by simpa using h1,h2⟩
theorem yh.set {x:V} {u:Value} (r:Dc x u):∀ {xs:List V} {us:List Value} (i:Nat),yh xs us→yh (xs.set i x) (us.set i u)
  | _,_,_,.nil=>.nil
  | _,_,0,.cons _ t=>.cons r t
  | _,_,i+1,.cons q t=>.cons q (yh.set r i t)
theorem yh.append:∀ {xs ys:List V} {us ws:List Value},yh xs us→yh ys ws→yh (xs++ys) (us++ws)
  | _,_,_,_,.nil,s=>s
  | _,_,_,_,.cons r t,s=>.cons r (yh.append t s)
theorem yh.take:∀ {xs:List V} {us:List Value} (n:Nat),yh xs us→yh (xs.take n) (us.take n)
  | _,_,0,_=>.nil
  | _,_,_+1,.nil=>.nil
  | _,_,n+1,.cons r t=>.cons r (yh.take n t)
theorem yh.drop:∀ {xs:List V} {us:List Value} (n:Nat),yh xs us→yh (xs.drop n) (us.drop n)
  | _,_,0,r=>r
  | _,_,_+1,.nil=>.nil
  | _,_,n+1,.cons _ t=>yh.drop n t
noncomputable def Ry:Option V→Option Value→Prop
  | some v,some u=>Dc v u
  | none,none=>True
  | _,_=>False
noncomputable def KV {κ:Type}:List (κ × V)→List (κ × Value)→Prop:=Paired fun (p:κ × V) (q:κ × Value)=>p.1=q.1∧Dc p.2 q.2
noncomputable def kV:Key→V
  | .inl i=>.int i
  | .inr x=>.str x
inductive HO where
  /-- a list -/
  | lst (xs:List V)
  /-- a tuple (never changes) -/
  | tup (xs:List V)
  /-- a dict whose keys are ints and texts; one whose keys are tuples of ints and texts (the empty one is both) -/
  | dK (kvs:List (Key × V)) | dT (kvs:List (List Key × V))
  /-- a set of ints: its members,its size -/
  | set (S:Int→Bool) (n:Nat)
  /-- an instance of the class at C,its dict at dx,its attributes -/
  | ins (C dx:Addr) (fs:List (Str × V))
  /-- the dict of the instance at x -/
  | own (x:Addr)
  /-- the dict of an exception -/
  | xd (fs:List (Str × V))
  /-- a bound method,f of x -/
  | met (f x:Addr)
  /-- a range object lo,lo+1,.. below hi -/
  | rng (lo hi:Int)
  /-- a thing that is known to the object (the script; a dict while a loop walks it): read,never written while it is so -/
  | frz (o:Obj) (u:HO)
  /-- a code object's table -/
  | tbl (ps:Array Value)
  /-- any other thing,by what is true of its one object (a def of one's own: aa2 a S n:=HO.ext fun h=>..) -/
  | ext (φ:Heap→Prop)
noncomputable abbrev Hp:=Addr→Option HO
noncomputable def upd (H:Hp) (a:Addr) (o:HO):Hp:=fun b=>if b=a then some o else H b
theorem jh {H:Hp} {a:Addr} {o:HO}:upd H a o a=some o:=by unfold upd; rw [if_pos rfl]
theorem ji {H:Hp} {a b:Addr} {o:HO} (h:b≠a):upd H a o b=H b:=by unfold upd; rw [if_neg h]
theorem yr {H:Hp} {a b:Addr} {o:HO} (h:H a=some o) (h':H b=none):a≠b:=by
  intro e; subst e; rw [h] at h'; cases h'
noncomputable def a1o (h:Heap) (a:Addr) (items:Array Value):Prop:=∃ o,h.get? a=some o∧o.cls=.type "tuple" ∧ o.dict=none∧∃ n,o.data=.seq items n
theorem a1o.is {h:Heap} {a:Addr} {items:Array Value} (x:a1o h a items):IsTup h a items:=let ⟨o,e,c,_,d⟩:=x; ⟨o,e,c,d⟩
theorem a1o.new (h:Heap) (items:Array Value):a1o (h.push { cls:=.type "tuple",data:=.seq items }) h.objs.size items:=⟨_,Heap.get?_push_size _ rfl,rfl,rfl,0,rfl⟩
noncomputable section
variable (P:Program) (w:World)
noncomputable def Ce (H:Hp) (h:Heap) (a:Addr):HO→Prop
  | .lst xs=>xs.length≤sizeLine∧∃ (its:List Value) (n:Nat),yh xs its∧h.get? a=some { cls:=.type "list",data:=.seq its.toArray n }
  | .tup xs=>xs.length≤sizeLine∧∃ its:List Value,yh xs its∧a1o h a its.toArray
  | .dK kvs=>kvs.length≤sizeLine∧(a==sysModules)=false∧∃ vs,KV kvs vs∧h.DictOf (vo P w) a vs
  | .dT kvs=>kvs.length≤sizeLine∧(a==sysModules)=false∧∃ xs:List (List Key × Addr × Value),
      Paired (fun (p:List Key × V) (q:List Key × Addr × Value)=>p.1=q.1∧H q.2.1=some (.tup (p.1.map kV))∧Dc p.2 q.2.2) kvs xs ∧
      ∃ o es ep,h.get? a=some o∧o.ExactDict∧o.data=.dict es ep∧es.toList=xs.map (entryOfKey (tupleKind (vo P w)))∧(xs.map (·.1)).Nodup
  | .set S n=>h.SetOf (intKind P w) a S n
  | .ins C dx fs=>H dx=some (.own a)∧fs.length≤1000∧dx≠a∧h.get? a=some (PySem.W.instObj C dx) ∧
      ∃ mA,h.Ns1 dx mA∧(∀ f,Ry (fs.lookup f) (mA f))∧PySem.Within mA (fs.map (·.1))
  | .own _=>∃ o,h.get? a=some o
  | .xd fs=>∃ mA,h.Ns1 a mA∧∀ f,Ry (fs.lookup f) (mA f)
  | .rng lo hi=>∃ t u v,h.get? a=some { cls:=.type "range",data:=.fields #[.int lo t,.int hi u,.int 1 v] }
  | .frz o u=>h.get? a=some o∧Ce H h a u
  | .tbl ps=>h.get? a=some { cls:=.none,data:=.fields ps }
  | .met f x=>h.get? a=some (PySem.W.methodObj (.ref f) (.ref x))
  | .ext φ=>φ h∧(∃ o,h.get? a=some o)∧∀ h1 h2:Heap,φ h1→(∀ o,h1.get? a=some o→h2.get? a=some o)→φ h2
noncomputable def HOk (H:Hp) (h:Heap):Prop:=∀ a o,H a=some o→Ce P w H h a o
end
noncomputable section
variable {P:Program} {w:World} {H H':Hp} {h h':Heap} {a:Addr} {o:HO}
theorem Ce.lt (x:Ce P w H h a o):a<h.objs.size:=by
  cases o with
  | lst xs=>obtain ⟨_,_,_,_,e⟩:=x; exact Heap.lt_size e
  | tup xs=>obtain ⟨_,_,_,p⟩:=x; exact p.is.lt
  | dK kvs=>obtain ⟨_,_,_,_,o,_,_,e,_⟩:=x; exact Heap.lt_size e
  | dT kvs=>obtain ⟨_,_,_,_,o,_,_,e,_⟩:=x; exact Heap.lt_size e
  | set S n=>obtain ⟨o,_,_,_,e,_⟩:=x; exact Heap.lt_size e
  | ins C dx fs=>obtain ⟨_,_,_,e,_⟩:=x; exact Heap.lt_size e
  | own y=>obtain ⟨_,e⟩:=x; exact Heap.lt_size e
  | xd fs=>obtain ⟨_,⟨_,_,_,e,_⟩,_⟩:=x; exact Heap.lt_size e
  | rng lo hi=>obtain ⟨_,_,_,e⟩:=x; exact Heap.lt_size e
  | frz ob u=>obtain ⟨e,_⟩:=x; exact Heap.lt_size e
  | tbl ps=>exact Heap.lt_size (show h.get? a=some _ from x)
  | met f y=>exact Heap.lt_size (show h.get? a=some _ from x)
  | ext φ=>obtain ⟨_,⟨_,e⟩,_⟩:=x; exact Heap.lt_size e
theorem Paired.abt {α β:Type} {F G:α→β→Prop}:∀ {l₁:List α} {l₂:List β},Paired F l₁ l₂→(∀ a b,F a b→G a b)→Paired G l₁ l₂
  | _,_,.nil,_=>.nil
  | _,_,.cons r t,f=>.cons (f _ _ r) (Paired.abt t f)
theorem Ce.stay (x:Ce P w H h a o) (k:∀ b u,(b=a∨H b=some (.own a))→h.get? b=some u→h'.get? b=some u)
    (ho:∀ b,H b=some (.own a)→H' b=some (.own a)) (ht:∀ b xs,H b=some (.tup xs)→H' b=some (.tup xs)):Ce P w H' h' a o:=by
  induction o with
  | lst xs=>obtain ⟨z,its,n,r,e⟩:=x; exact ⟨z,its,n,r,k _ _ (.inl rfl) e⟩
  | tup xs=>obtain ⟨z,its,r,ob,e,c⟩:=x; exact ⟨z,its,r,ob,k _ _ (.inl rfl) e,c⟩
  | dK kvs=>obtain ⟨z,y,vs,r,ob,es,ep,e,c⟩:=x; exact ⟨z,y,vs,r,ob,es,ep,k _ _ (.inl rfl) e,c⟩
  | dT kvs =>
    obtain ⟨z,y,xs,r,ob,es,ep,e,c⟩:=x
    exact ⟨z,y,xs,Paired.abt r fun p q z=>⟨z.1,ht _ _ z.2.1,z.2.2⟩,ob,es,ep,k _ _ (.inl rfl) e,c⟩
  | set S n=>obtain ⟨ob,es,ep,t,e,c⟩:=x; exact ⟨ob,es,ep,t,k _ _ (.inl rfl) e,c⟩
  | ins C dx fs =>
    obtain ⟨d,z,ne,e,mA,⟨od,es,ep,e2,c⟩,r⟩:=x
    exact ⟨ho _ d,z,ne,k _ _ (.inl rfl) e,mA,⟨od,es,ep,k _ _ (.inr d) e2,c⟩,r⟩
  | own y=>obtain ⟨ob,e⟩:=x; exact ⟨ob,k _ _ (.inl rfl) e⟩
  | xd fs=>obtain ⟨mA,⟨od,es,ep,e,c⟩,r⟩:=x; exact ⟨mA,⟨od,es,ep,k _ _ (.inl rfl) e,c⟩,r⟩
  | rng lo hi=>obtain ⟨t,u,v,e⟩:=x; exact ⟨t,u,v,k _ _ (.inl rfl) e⟩
  | frz ob u ih=>obtain ⟨e,q⟩:=x; exact ⟨k _ _ (.inl rfl) e,ih q⟩
  | tbl ps =>
    have e:h.get? a=some { cls:=.none,data:=.fields ps }:=x
    show h'.get? a=some { cls:=.none,data:=.fields ps }
    exact k a _ (.inl rfl) e
  | met f y =>
    have e:h.get? a=some (PySem.W.methodObj (.ref f) (.ref y)):=x
    show h'.get? a=some (PySem.W.methodObj (.ref f) (.ref y))
    exact k a _ (.inl rfl) e
  | ext φ=>obtain ⟨p,⟨o,e⟩,st⟩:=x; exact ⟨st _ _ p fun o q=>k _ _ (.inl rfl) q,⟨o,k _ _ (.inl rfl) e⟩,st⟩
theorem HOk.lt (x:HOk P w H h) (e:H a=some o):a<h.objs.size:=(x a o e).lt
theorem HOk.fresh (x:HOk P w H h) (e:h.objs.size≤a):H a=none:=by
  cases q:H a with
  | none=>rfl
  | some u=>exact absurd (Nat.lt_of_lt_of_le (x.lt q) e) (Nat.lt_irrefl _)
theorem HOk.kept (x:HOk P w H h) (k:∀ b u,h.get? b=some u→h'.get? b=some u):HOk P w H h':=fun a o e =>
  (x a o e).stay (fun b u _ q=>k b u q) (fun _ q=>q) fun _ _ q=>q
theorem HOk.laid (x:HOk P w H h) (k:∀ b u,h.get? b=some u→h'.get? b=some u) (hp:h.objs.size≤a) (new:Ce P w (upd H a o) h' a o):HOk P w (upd H a o) h':=fun b u e=>by
  have hn:=x.fresh hp
  by_cases hb:b=a
  · subst hb; rw [jh] at e; cases e; exact new
  · rw [ji hb] at e
    exact (x b u e).stay (fun c v _ q=>k c v q) (fun c q=>by rw [ji (yr q hn)]; exact q) fun c xs q=>by rw [ji (yr q hn)]; exact q
end
noncomputable def Rd (H:Hp) (a:Addr) (u:HO):Prop:=H a=some u∨∃ o,H a=some (.frz o u)
theorem Rd.of {H:Hp} {a:Addr} {u:HO} (h:H a=some u):Rd H a u:=.inl h
theorem Rd.ok {P:Program} {w:World} {H:Hp} {h:Heap} {a:Addr} {u:HO} (r:Rd H a u) (x:HOk P w H h):Ce P w H h a u:=by
  rcases r with r | ⟨o,r⟩
  · exact x a u r
  · obtain ⟨_,q⟩:=x a _ r
    exact q
noncomputable def Mut:Option HO→Prop
  | some (.lst _)=>True
  | some (.dK _)=>True
  | some (.dT _)=>True
  | some (.set _ _)=>True
  | some (.ins _ _ _)=>True
  | some (.ext _)=>True
  | _=>False
noncomputable section
variable {P:Program} {w:World} {H:Hp} {h h':Heap} {x e:Addr} {o':HO}
theorem HOk.write (ok:HOk P w H h) (mu:Mut (H x)) (he:e=x∨H e=some (.own x)) (k:∀ b u,b≠e→h.get? b=some u→h'.get? b=some u) (heo:∃ u,h'.get? e=some u)
    (new:Ce P w (upd H x o') h' x o'):HOk P w (upd H x o') h':=fun b u q=>by
  have nown:∀ c y,H c=some (.own y)→c≠x:=fun c y r z=>by subst z; rw [r] at mu; exact mu
  have ntup:∀ c xs,H c=some (.tup xs)→c≠x:=fun c xs r z=>by subst z; rw [r] at mu; exact mu
  by_cases hb:b=x
  · subst hb; rw [jh] at q; cases q; exact new
  · rw [ji hb] at q
    by_cases hbe:b=e
    · have q':H b=some (.own x):=by
        rcases he with z | z
        · exact absurd (hbe.trans z) hb
        · rw [hbe]; exact z
      rw [q] at q'; cases q'
      obtain ⟨v,hv⟩:=heo
      exact ⟨v,by rw [hbe]; exact hv⟩
    · refine (ok b u q).stay (fun c v hc r=>k c v ?_ r) (fun c r=>by rw [ji (nown c b r)]; exact r) fun c xs r=>by rw [ji (ntup c xs r)]; exact r
      rcases hc with rfl | hc
      · exact hbe
      · rintro rfl
        rcases he with z | z
        · exact nown c b hc z
        · rw [hc] at z; cases z; exact hb rfl
end
structure Un (fs ex:List Addr) (H H':Hp) (h h':Heap):Prop where
  keep:∀ b o,h.get? b=some o→H b=none→b∉fs→b∉ex→h'.get? b=some o
  slot:∀ b o,h.get? b=some o→H b=none→b∈fs→b∉ex→∃ sl,h'.get? b=some { o with slots:=sl }
  free:∀ b o,h.get? b=some o→H b=none→b∉ex→H' b=none
  there:∀ b o,h.get? b=some o→b∉ex→∃ o',h'.get? b=some o'
  tups:∀ b xs,H b=some (.tup xs)→H' b=some (.tup xs)
  frzs:∀ b o u,H b=some (.frz o u)→H' b=some (.frz o u)
  tbls:∀ b ps,H b=some (.tbl ps)→∃ more,H' b=some (.tbl (ps++more))
noncomputable section
variable {fs fs' ex ex':List Addr} {H H1 H2:Hp} {h h1 h2 h':Heap} {a x e:Addr} {o:HO}
theorem Un.any (u:Un fs ex H H1 h h1) {b:Addr} {ob:Obj} (q:h.get? b=some ob) (n:H b=none) (hx:b∉ex):∃ sl,h1.get? b=some { ob with slots:=sl }:=by
  by_cases hb:b∈fs
  · exact u.slot b ob q n hb hx
  · exact ⟨ob.slots,u.keep b ob q n hb hx⟩
theorem Un.trans (a:Un fs ex H H1 h h1) (b:Un fs ex H1 H2 h1 h2):Un fs ex H H2 h h2 where
  keep:=fun c ob q n hc hx=>b.keep c ob (a.keep c ob q n hc hx) (a.free c ob q n hx) hc hx
  slot:=fun c ob q n hc hx=>by
    obtain ⟨sl,e1⟩:=a.slot c ob q n hc hx
    obtain ⟨sl',e2⟩:=b.slot c _ e1 (a.free c ob q n hx) hc hx
    exact ⟨sl',e2⟩
  free:=fun c ob q n hx=>by
    obtain ⟨o',e1⟩:=a.there c ob q hx
    exact b.free c o' e1 (a.free c ob q n hx) hx
  there:=fun c ob q hx=>by
    obtain ⟨o',e1⟩:=a.there c ob q hx
    exact b.there c o' e1 hx
  tups:=fun c xs q=>b.tups c xs (a.tups c xs q)
  frzs:=fun c ob xs q=>b.frzs c ob xs (a.frzs c ob xs q)
  tbls:=fun c ps q=>by
    obtain ⟨m1,e1⟩:=a.tbls c ps q
    obtain ⟨m2,e2⟩:=b.tbls c _ e1
    exact ⟨m1++m2,by rw [e2,Array.append_assoc]⟩
theorem Un.kept (k:∀ b u,h.get? b=some u→h'.get? b=some u):Un fs ex H H h h' :=
  ⟨fun b ob q _ _ _=>k b ob q,fun b ob q _ _ _=>⟨ob.slots,k b ob q⟩,fun _ _ _ n _=>n,fun b ob q _=>⟨ob,k b ob q⟩,fun _ _ q=>q,fun _ _ _ q=>q,fun _ ps q=>⟨#[],by rw [q]; simp⟩⟩
theorem Un.refl:Un fs ex H H h h:=Un.kept fun _ _ q=>q
theorem Un.laid (k:∀ b u,h.get? b=some u→h'.get? b=some u) (hp:h.objs.size≤a) (hn:H a=none):Un fs ex H (upd H a o) h h' where
  keep:=fun b u q _ _ _=>k b u q
  slot:=fun b u q _ _ _=>⟨u.slots,k b u q⟩
  free:=fun b u q n _=>by rw [ji (Nat.ne_of_lt (Nat.lt_of_lt_of_le (Heap.lt_size q) hp))]; exact n
  there:=fun b u q _=>⟨u,k b u q⟩
  tups:=fun b xs q=>by rw [ji (yr q hn)]; exact q
  frzs:=fun b u xs q=>by rw [ji (yr q hn)]; exact q
  tbls:=fun b ps q=>⟨#[],by rw [ji (yr q hn),q]; simp⟩
theorem Un.write (mu:Mut (H x)) (he:e=x∨H e=some (.own x)) (k:∀ b u,b≠e→h.get? b=some u→h'.get? b=some u) (heo:∃ u,h'.get? e=some u):Un fs ex H (upd H x o) h h':=by
  have hx:∀ b,H b=none→b≠x:=fun b n z=>by subst z; rw [n] at mu; exact mu
  have hb:∀ b,H b=none→b≠e:=fun b n z=>by
    subst z
    rcases he with r | r
    · exact hx b n r
    · rw [n] at r; cases r
  have hm:∀ b u,H b=some u→¬ Mut (some u)→b≠x:=fun b u q nm z=>by subst z; rw [q] at mu; exact nm mu
  refine ⟨fun b u q n _ _=>k b u (hb b n) q,fun b u q n _ _=>⟨u.slots,k b u (hb b n) q⟩,fun b u q n _=>by rw [ji (hx b n)]; exact n,fun b u q _=>?_,
    fun b xs q=>by rw [ji (hm b _ q fun z=>z)]; exact q,fun b u xs q=>by rw [ji (hm b _ q fun z=>z)]; exact q,fun b ps q=>⟨#[],by rw [ji (hm b _ q fun z=>z),q]; simp⟩⟩
  by_cases hbe:b=e
  · subst hbe; exact heo
  · exact ⟨u,k b u hbe q⟩
theorem Un.mono (u:Un fs ex H H1 h h1) (hs:∀ b∈fs,b∈fs') (hx:∀ b∈ex,b∈ex'):Un fs' ex' H H1 h h1 :=
  ⟨fun b ob q n hb he=>u.keep b ob q n (fun z=>hb (hs b z)) fun z=>he (hx b z),fun _ _ q n _ he=>u.any q n fun z=>he (hx _ z),fun b ob q n he=>u.free b ob q n fun z=>he (hx b z),fun b ob q he=>u.there b ob q fun z=>he (hx b z),u.tups,u.frzs,u.tbls⟩
end
noncomputable def trk (h:Heap) (H:Hp):List Addr:=(List.range h.objs.size).filter fun a=>(H a).isSome
noncomputable def a3h (h:Heap) (H:Hp):Heap:=PySem.W.hideAll h (trk h H)
theorem Y7 (h:Heap) (H:Hp):(a3h h H).objs.size=h.objs.size:=PySem.W.hideAll_size _ _
theorem a3g {h:Heap} {H:Hp} {b:Addr} {o:Obj} (e:h.get? b=some o) (n:H b=none):(a3h h H).get? b=some o :=
  PySem.W.hideAll_get _ e fun hm=>by
    have q:(H b).isSome=true:=(List.mem_filter.mp hm).2
    rw [n] at q; simp at q
theorem a7v {h:Heap} {H:Hp} {b:Addr} {o:Obj} (e:(a3h h H).get? b=some o):h.get? b=some o∧H b=none:=by
  have e':h.get? b=some o:=PySem.W.of_hideAll (trk h H) e
  refine ⟨e',?_⟩
  cases q:H b with
  | none=>rfl
  | some x =>
    have hm:b∈trk h H:=List.mem_filter.mpr ⟨List.mem_range.mpr (Heap.lt_size e'),by simp [q]⟩
    have z:(a3h h H).get? b=none:=PySem.W.hideAll_none (trk h H) hm
    rw [z] at e; cases e
noncomputable def a77 (g h:Heap) (L:Addr):List (Addr × Obj):=(List.range h.objs.size).filterMap fun a=>if a=L∨(g.get? a).isSome=true then none else (h.get? a).map fun o=>(a,o)
noncomputable def rest (g h:Heap) (L d:Addr):List (Addr × Obj):=(a77 g h L).filter fun p=>decide (p.1≠d)
end L2
namespace L2
open PySem PySem.Spec PyProof.Rows
structure Mod (K:PySem.W.Frag) (mg:Str→Option Value) (base:Heap):Prop where
  kin:K.In base
  glob:base.Ns mainGlobals mg
  blt:∃ mb,base.Ns builtinsNs mb∧∀ x:Str,x ≠ "__name__" → mb x=bootBuiltins x
  nolimit:base.NoLimit
structure Cx where
  prog:Program
  w:World
  K:PySem.W.Frag
  mg:Str→Option Value
  base:Heap
  A:Around
  N:List Str
  s₀:Shared
  H₀:Hp
  env:Env
  outer:List Env
  stack:List Env
  ex:List Addr
  fn:Str→Bool
  calm:Bool
  pn:List (Addr × Obj)
  xe:Value→Shared→Prop
noncomputable def frs (l:List Env):List Addr:=l.filterMap (·.frame)
noncomputable abbrev Cx.fs (X:Cx):List Addr:=frs X.outer
noncomputable def Vis (sc:Scope) (x:Str):Prop:=sc.names.lookup x=some .local∨sc.names.lookup x=some .cell∨sc.names.lookup x=some .free
noncomputable def Loc (sc:Scope) (x:Str):Prop:=sc.names.lookup x=some .local∨sc.names.lookup x=some .cell
noncomputable def ad3 (env:Env) (h:Heap) (m:Str→Option Value) (x:Str) (u:Value):Prop :=
  (env.kindOf x=some .local∧m x=some u)∨((env.kindOf x=some .cell∨env.kindOf x=some .free)∧∃ c,env.cells.lookup x=some c∧h.IsCell c (some u))
structure Cx.Ok (X:Cx):Prop where
  mod:Mod X.K X.mg X.base
  kind:X.env.scope.kind=.function
  glob:X.env.globals=mainGlobals
  blt:X.env.builtins=builtinsNs
  above:X.s₀.heap.objs.size≤X.env.locals
  inj:∀ x y c,X.env.cells.lookup x=some c→X.env.cells.lookup y=some c→x=y
  has:∀ x,(X.env.kindOf x=some .cell∨X.env.kindOf x=some .free)→∃ c,X.env.cells.lookup x=some c
  cab:∀ x c,X.fn x=true→X.env.cells.lookup x=some c→X.s₀.heap.objs.size≤c
  hd:X.calm=true→X.A.handled=none
  frames:X.A.frames=some X.stack
  stk:X.stack=X.outer∨(X.stack=X.env::X.outer∧X.env.frame=some X.env.locals)
  exf:∀ b∈X.ex,b≠X.env.locals∧∀ x c,X.env.cells.lookup x=some c→c≠b
  bs:∀ b o,X.base.get? b=some o→X.s₀.heap.get? b=some o∧X.H₀ b=none
  bsz:X.base.objs.size≤X.s₀.heap.objs.size
  noex:∀ b o,X.base.get? b=some o→b∉X.ex
  exfs:∀ b∈X.ex,b∉X.fs
  Xy:X.s₀.heap.FunFrames X.base X.outer
  frf:∀ b∈X.fs,X.H₀ b=none
structure Inv (X:Cx) (pins:List (Addr × Obj)) (σ:List (Option V)) (H:Hp) (s:Shared):Prop where
  ok:X.Ok
  os:s.os=X.s₀.os
  bare:AllBare s.gens
  base:Un X.fs X.ex X.H₀ H X.s₀.heap s.heap
  loc:∃ m,s.heap.Ns X.env.locals m∧∀ (i:Nat) (x:Str) (v:V),X.N[i]? = some x→σ[i]? = some (some v)→Vis X.env.scope x→∃ u,Dc v u∧ad3 X.env s.heap m x u
  cell:∀ x c,X.env.cells.lookup x=some c→∃ v,s.heap.IsCell c v
  free:H X.env.locals=none
  freeC:∀ x c,X.env.cells.lookup x=some c→H c=none
  pin:∀ p∈X.pn++pins,s.heap.get? p.1=some p.2∧H p.1=none∧p.1≠X.env.locals∧p.1∉X.fs∧∀ v,p.2.data≠.cell v
  hok:HOk X.prog X.w H s.heap
  len:σ.length=X.N.length
noncomputable section
variable {X:Cx} {pins:List (Addr × Obj)} {σ:List (Option V)} {H H':Hp} {s:Shared} {h':Heap}
theorem Cx.Ok.acu (ok:X.Ok) {b:Addr} {o:Obj} (e:X.base.get? b=some o):b∉X.fs:=fun hb=>by
  have:=(ok.Xy.mem hb).1
  rw [e] at this; cases this
theorem Inv.bs (I:Inv X pins σ H s):∀ b o,X.base.get? b=some o→s.heap.get? b=some o∧H b=none:=fun b o e =>
  ⟨I.base.keep b o (I.ok.bs b o e).1 (I.ok.bs b o e).2 (I.ok.acu e) (I.ok.noex b o e),I.base.free b o (I.ok.bs b o e).1 (I.ok.bs b o e).2 (I.ok.noex b o e)⟩
theorem Inv.bk (I:Inv X pins σ H s):∀ b o,X.base.get? b=some o→s.heap.get? b=some o:=fun b o e=>(I.bs b o e).1
theorem Inv.mod (I:Inv X pins σ H s):Mod X.K X.mg X.base:=I.ok.mod
theorem Inv.kIn (I:Inv X pins σ H s):X.K.In s.heap:=I.ok.mod.kin.keeps I.bk
theorem Inv.fr (I:Inv X pins σ H s):∃ m,Fr X.base X.env.locals s.heap m :=
  let ⟨m,hn,_⟩:=I.loc
  ⟨m,hn,I.bk,Nat.le_trans I.ok.bsz I.ok.above⟩
theorem Inv.lt (I:Inv X pins σ H s):X.env.locals<s.heap.objs.size:=let ⟨_,hn,_⟩:=I.loc; hn.lt
theorem Inv.sz (I:Inv X pins σ H s):X.s₀.heap.objs.size≤s.heap.objs.size:=Nat.le_trans I.ok.above (Nat.le_of_lt I.lt)
theorem Inv.acz (I:Inv X pins σ H s) {a:Addr} (h:s.heap.objs.size≤a):a∉X.fs:=fun hb=>by
  obtain ⟨_,o,ho,_⟩:=I.ok.Xy.mem hb
  exact absurd (Nat.lt_of_lt_of_le (Heap.lt_size ho) (Nat.le_trans I.sz h)) (Nat.lt_irrefl _)
theorem Inv.cne (I:Inv X pins σ H s):∀ x c,X.env.cells.lookup x=some c→c≠X.env.locals:=fun x c e z=>by
  obtain ⟨v,o,ho,hd⟩:=I.cell x c e
  obtain ⟨m,⟨o',es,ep,ho',hd',_⟩,_⟩:=I.loc
  rw [z,ho'] at ho; cases ho; rw [hd'] at hd; cases hd
theorem Inv.Xy (I:Inv X pins σ H s):s.heap.FunFrames X.base X.outer:=by
  have all:∀ (l:List Env),(∀ b∈frs l,b∈X.fs)→X.s₀.heap.FunFrames X.base l→s.heap.FunFrames X.base l:=by
    intro l
    induction l with
    | nil=>intro _ _; trivial
    | cons env r ih =>
      intro hs hl
      obtain ⟨hk,⟨L,o,hf,hn,ho,hd⟩,hr⟩:=hl
      have hL:L∈X.fs:=hs L (by unfold frs; rw [List.filterMap_cons,hf]; exact List.mem_cons_self)
      obtain ⟨sl,e⟩:=I.base.slot L o ho (I.ok.frf L hL) hL fun z=>I.ok.exfs L z hL
      exact ⟨hk,⟨L,_,hf,hn,e,hd⟩,ih (fun b hb=>hs b (by unfold frs; rw [List.filterMap_cons,hf]; exact List.mem_cons_of_mem _ hb)) hr⟩
  exact all X.outer (fun _ hb=>hb) I.ok.Xy
theorem Inv.stack (I:Inv X pins σ H s):s.heap.FunFrames X.base X.stack:=by
  rcases I.ok.stk with e | ⟨e,hf⟩
  · rw [e]; exact I.Xy
  · rw [e]
    obtain ⟨m,hn,_⟩:=I.loc
    refine .cons (by rw [I.ok.kind]; decide) hf hn ?_ I.Xy
    exact Heap.get?_none_of_le (Nat.le_trans I.ok.bsz I.ok.above)
theorem Inv.W7 (I:Inv X pins σ H s):∀ b∈frs X.stack,b∈X.env.locals::X.fs:=fun b hb=>by
  rcases I.ok.stk with e | ⟨e,hf⟩
  · rw [e] at hb; exact List.mem_cons_of_mem _ hb
  · rw [e] at hb
    unfold frs at hb
    rw [List.filterMap_cons,hf] at hb
    exact hb
theorem Inv.Yc (I:Inv X pins σ H s):∀ b∈frs X.stack,H b=none:=fun b hb=>by
  rcases List.mem_cons.mp (I.W7 b hb) with e | hb
  · rw [e]; exact I.free
  · obtain ⟨_,o,ho,_⟩:=I.ok.Xy.mem hb
    exact I.base.free b o ho (I.ok.frf b hb) fun z=>I.ok.exfs b z hb
theorem Inv.step {g':Array GenState} {t':Nat} {d':Drawn} {ch:List Addr} (I:Inv X pins σ H s)
    (hch:∀ b∈ch,(b∈X.ex∨X.s₀.heap.objs.size≤b)∧b≠X.env.locals∧(∀ x c,X.env.cells.lookup x=some c→c≠b)∧∀ p∈X.pn++pins,p.1≠b)
    (keep:∀ b o,b≠X.env.locals→b∉X.fs→b∉ch→s.heap.get? b=some o→H b=none→h'.get? b=some o)
    (slot:∀ b o,b≠X.env.locals→b∈X.fs→b∉ch→s.heap.get? b=some o→H b=none→∃ sl,h'.get? b=some { o with slots:=sl }) (free:∀ b o,b∉ch→s.heap.get? b=some o→H b=none→H' b=none)
    (there:∀ b o,b∉ch→s.heap.get? b=some o→∃ o',h'.get? b=some o')
    (tups:∀ b xs,H b=some (.tup xs)→H' b=some (.tup xs)) (frzs:∀ b o u,H b=some (.frz o u)→H' b=some (.frz o u)) (tbls:∀ b ps,H b=some (.tbl ps)→∃ more,H' b=some (.tbl (ps++more)))
    (ns:∀ m,s.heap.Ns X.env.locals m→h'.Ns X.env.locals m) (hok:HOk X.prog X.w H' h') (hg:AllBare g') :
    Inv X pins σ H' { s with heap:=h',gens:=g',drawn:=d',toks:=t' }:=by
  have neL:∀ b o,X.s₀.heap.get? b=some o→b≠X.env.locals:=fun b o e=>Nat.ne_of_lt (Nat.lt_of_lt_of_le (Heap.lt_size e) I.ok.above)
  have neC:∀ b o,X.s₀.heap.get? b=some o→b∉X.ex→b∉ch:=fun b o e hx hb=>by
    rcases (hch b hb).1 with z | z
    · exact hx z
    · exact absurd (Nat.lt_of_lt_of_le (Heap.lt_size e) z) (Nat.lt_irrefl _)
  have cellK:∀ x c,X.env.cells.lookup x=some c→∀ v,s.heap.IsCell c v→h'.IsCell c v:=fun x c e v z9=>by
    obtain ⟨o,ho,hd⟩:=z9
    have nch:c∉ch:=fun z=>(hch c z).2.2.1 x c e rfl
    by_cases hc:c∈X.fs
    · obtain ⟨sl,q⟩:=slot c o (I.cne x c e) hc nch ho (I.freeC x c e)
      exact ⟨_,q,hd⟩
    · exact ⟨o,keep c o (I.cne x c e) hc nch ho (I.freeC x c e),hd⟩
  refine ⟨I.ok,I.os,hg,⟨fun b o e n hb hx=>?_,fun b o e n hb hx=>?_,fun b o e n hx=>?_,fun b o e hx=>?_,fun b xs e=>tups b xs (I.base.tups b xs e),fun b o xs e=>frzs b o xs (I.base.frzs b o xs e),fun b ps e=>?_⟩,?_,fun x c e=>?_,?_,fun x c e=>?_,fun p hp=>?_,hok,I.len⟩
  · exact keep b o (neL b o e) hb (neC b o e hx) (I.base.keep b o e n hb hx) (I.base.free b o e n hx)
  · obtain ⟨sl,e1⟩:=I.base.slot b o e n hb hx
    obtain ⟨sl',e2⟩:=slot b _ (neL b o e) hb (neC b o e hx) e1 (I.base.free b o e n hx)
    exact ⟨sl',e2⟩
  · obtain ⟨o',e1⟩:=I.base.there b o e hx
    exact free b o' (neC b o e hx) e1 (I.base.free b o e n hx)
  · obtain ⟨o',e1⟩:=I.base.there b o e hx
    exact there b o' (neC b o e hx) e1
  · obtain ⟨m1,e1⟩:=I.base.tbls b ps e
    obtain ⟨m2,e2⟩:=tbls b _ e1
    exact ⟨m1++m2,by rw [e2,Array.append_assoc]⟩
  · obtain ⟨m,hn,hl⟩:=I.loc
    refine ⟨m,ns m hn,fun i x v e1 e2 e3=>?_⟩
    obtain ⟨u,r,l⟩:=hl i x v e1 e2 e3
    refine ⟨u,r,?_⟩
    rcases l with l | ⟨k,c,e,z⟩
    · exact .inl l
    · exact .inr ⟨k,c,e,cellK x c e _ z⟩
  · obtain ⟨v,z⟩:=I.cell x c e
    exact ⟨v,cellK x c e v z⟩
  · obtain ⟨m,⟨o,_,_,ho,_⟩,_⟩:=I.loc
    exact free _ o (fun z=>(hch _ z).2.1 rfl) ho I.free
  · obtain ⟨v,o,ho,hd⟩:=I.cell x c e
    exact free c o (fun z=>(hch c z).2.2.1 x c e rfl) ho (I.freeC x c e)
  · obtain ⟨e,n,ne,nf,d⟩:=I.pin p hp
    have nch:p.1∉ch:=fun z=>(hch p.1 z).2.2.2 p hp rfl
    exact ⟨keep p.1 p.2 ne nf nch e n,free p.1 p.2 nch e n,ne,nf,d⟩
theorem Inv.un {t':Nat} (I:Inv X pins σ H s) (u:Un X.fs [] H H' s.heap h') (hok:HOk X.prog X.w H' h'):Inv X pins σ H' { s with heap:=h',toks:=t' }:=by
  obtain ⟨m,⟨o,es,ep,ho,r⟩,_⟩:=id I.loc
  obtain ⟨sl,hL⟩:=u.any ho I.free (by simp)
  exact I.step (g':=s.gens) (d':=s.drawn) (ch:=[]) (fun _ z=>nomatch z) (fun b o _ hb _ e n=>u.keep b o e n hb (by simp)) (fun b o _ hb _ e n=>u.slot b o e n hb (by simp)) (fun b o _ e n=>u.free b o e n (by simp)) (fun b o _ e=>u.there b o e (by simp)) u.tups u.frzs u.tbls (fun m' hm=>by
    obtain ⟨o',es',ep',ho',r'⟩:=hm
    rw [ho] at ho'; cases ho'
    exact ⟨_,es',ep',hL,r'⟩) hok I.bare
theorem Inv.call {g':Array GenState} {t':Nat} {d':Drawn} {ch:List Addr} (I:Inv X pins σ H s) (u:Un (frs X.stack) ch H H' s.heap h') (hok:HOk X.prog X.w H' h') (hg:AllBare g')
    (hch:∀ b∈ch,(b∈X.ex∨X.s₀.heap.objs.size≤b)∧b≠X.env.locals∧(∀ x c,X.env.cells.lookup x=some c→c≠b)∧∀ p∈X.pn++pins,p.1≠b) :
    Inv X pins σ H' { s with heap:=h',gens:=g',drawn:=d',toks:=t' }:=by
  obtain ⟨m,⟨o,es,ep,ho,r⟩,_⟩:=id I.loc
  obtain ⟨sl,hL⟩:=u.any ho I.free fun z=>(hch _ z).2.1 rfl
  exact I.step (ch:=ch) hch (fun b o hL hb hc e n=>u.keep b o e n (fun z=>(List.mem_cons.mp (I.W7 b z)).elim hL hb) hc) (fun b o _ _ hc e n=>u.any e n hc) (fun b o hc e n=>u.free b o e n hc) (fun b o hc e=>u.there b o e hc) u.tups u.frzs u.tbls (fun m' hm=>by
    obtain ⟨o',es',ep',ho',r'⟩:=hm
    rw [ho] at ho'; cases ho'
    exact ⟨_,es',ep',hL,r'⟩) hok hg
theorem Inv.turned {t':Nat} {it:Addr} (I:Inv X pins σ H s) (k:∀ b o,b≠it→s.heap.get? b=some o→h'.get? b=some o) (hn:H it=none) (hL:it≠X.env.locals)
    (h1:it∈X.ex∨X.s₀.heap.objs.size≤it) (h2:∀ x c,X.env.cells.lookup x=some c→c≠it) (h3:∀ p∈X.pn++pins,p.1≠it):Inv X pins σ H { s with heap:=h',toks:=t' }:=by
  have nit:∀ b u,H b=some u→b≠it:=fun b u e z=>by rw [z,hn] at e; cases e
  refine I.step (g':=s.gens) (d':=s.drawn) (ch:=[it]) (fun b hb=>?_) (fun b o _ _ hc e _=>k b o (fun z=>hc (by simp [z])) e) (fun b o _ _ hc e _=>⟨o.slots,k b o (fun z=>hc (by simp [z])) e⟩) (fun _ _ _ _ n=>n)
    (fun b o hc e=>⟨o,k b o (fun z=>hc (by simp [z])) e⟩) (fun _ _ e=>e) (fun _ _ _ e=>e) (fun b ps e=>⟨#[],by rw [e]; simp⟩) (fun m hm=>?_) (fun b u e=>?_) I.bare
  · have e:b=it:=by simpa using hb
    subst e
    exact ⟨h1,hL,h2,h3⟩
  · obtain ⟨o,es,ep,ho,r⟩:=hm
    exact ⟨o,es,ep,k _ o (Ne.symm hL) ho,r⟩
  · refine (I.hok b u e).stay (fun c v hc q=>k c v ?_ q) (fun _ q=>q) fun _ _ q=>q
    rcases hc with z | z
    · rw [z]; exact nit b u e
    · exact nit c _ z
theorem Inv.tok (I:Inv X pins σ H s) (t:Nat):Inv X pins σ H { s with toks:=t }:=I.un (h':=s.heap) (t':=t) Un.refl I.hok
theorem Inv.kept {t':Nat} (I:Inv X pins σ H s) (k:∀ b u,s.heap.get? b=some u→h'.get? b=some u):Inv X pins σ H { s with heap:=h',toks:=t' }:=I.un (Un.kept k) (I.hok.kept k)
theorem Inv.laid {a:Addr} {o:HO} {t':Nat} (I:Inv X pins σ H s) (k:∀ b u,s.heap.get? b=some u→h'.get? b=some u) (hp:s.heap.objs.size≤a) (new:Ce X.prog X.w (upd H a o) h' a o) :
    Inv X pins σ (upd H a o) { s with heap:=h',toks:=t' }:=I.un (Un.laid k hp (I.hok.fresh hp)) (I.hok.laid k hp new)
theorem Inv.write {x e:Addr} {o:HO} {t':Nat} (I:Inv X pins σ H s) (mu:Mut (H x)) (he:e=x∨H e=some (.own x)) (k:∀ b u,b≠e→s.heap.get? b=some u→h'.get? b=some u) (heo:∃ u,h'.get? e=some u)
    (new:Ce X.prog X.w (upd H x o) h' x o):Inv X pins σ (upd H x o) { s with heap:=h',toks:=t' }:=I.un (Un.write mu he k heo) (I.hok.write mu he k heo new)
theorem Inv.Zg {pins':List (Addr × Obj)} (I:Inv X pins σ H s) (h:∀ p∈pins',s.heap.get? p.1=some p.2∧H p.1=none∧p.1≠X.env.locals∧p.1∉X.fs∧∀ v,p.2.data≠.cell v):Inv X pins' σ H s :=
  ⟨I.ok,I.os,I.bare,I.base,I.loc,I.cell,I.free,I.freeC,fun p hp=>(List.mem_append.mp hp).elim (fun z=>I.pin p (List.mem_append_left _ z)) (h p),I.hok,I.len⟩
theorem V7 {N:List Str} (hN:N.Nodup) {i j:Nat} {x:Str} (a:N[i]? = some x) (b:N[j]? = some x):i=j:=by
  obtain ⟨h1,e1⟩:=List.getElem?_eq_some_iff.mp a
  obtain ⟨h2,e2⟩:=List.getElem?_eq_some_iff.mp b
  exact (List.getElem_inj hN).mp (e1.trans e2.symm)
theorem a0o {M:Model} {A:Around} {E:Value→Shared→Prop} {i:Nat} {x:Str} {v:V} {u:Value} {Q:Unit→Shared→Prop} (I:Inv X pins σ H s) (hN:X.N.Nodup) (hi:X.N[i]? = some x) (hx:Loc X.env.scope x) (r:Dc v u)
    (h:∀ s',Inv X pins (σ.set i (some v)) H s'→(∃ a,Heap.SameBut a s.heap s'.heap∧(a=X.env.locals∨X.env.cells.lookup x=some a))→Q () s') (hf:X.fn x=true∨X.env.scope.names.lookup x=some .local:=by first | exact .inl rfl | exact .inr rfl | assumption):wpAny M A (storeName X.env x u) Q E s:=by
  obtain ⟨m,hn,hl⟩:=id I.loc
  have hcls:(X.env.scope.kind == .class||(X.env.scope.kind == .module&&X.env.locals != X.env.globals))=false:=by rw [I.ok.kind]; rfl
  have hiσ:i<σ.length:=by rw [I.len]; exact (List.getElem?_eq_some_iff.mp hi).1
  have cne:=I.cne
  have tracked:∀ {a:Addr} {h':Heap},(∃ o,s.heap.get? a=some o∧H a=none)→Heap.SameBut a s.heap h'→HOk X.prog X.w H h':=fun {a h'} ha hs b ob e=>by
    obtain ⟨_,_,hfree⟩:=ha
    refine (I.hok b ob e).stay (fun c w' hc q=>(hs.2 c ?_).trans q) (fun _ q=>q) fun _ _ q=>q
    rintro rfl
    rcases hc with rfl | hc
    · rw [hfree] at e; cases e
    · rw [hfree] at hc; cases hc
  rcases hx with hk | hk
  · refine wpAny_storeName_local hk hn (fun h' hn' hs=>?_) hcls
    obtain ⟨oL,_,_,hoL,_⟩:=id hn
    refine h _ ⟨I.ok,I.os,I.bare,⟨fun b o e n hb hx=>?_,fun b o e n hb hx=>?_,I.base.free,fun b o e hx=>?_,I.base.tups,I.base.frzs,I.base.tbls⟩,⟨_,hn',fun j y v' e1 e2 e3=>?_⟩,fun y c e=>?_,I.free,I.freeC,fun p hp=>?_,tracked ⟨oL,hoL,I.free⟩ hs,by simpa using I.len⟩ ⟨_,hs,.inl rfl⟩
    · exact (hs.2 b (Nat.ne_of_lt (Nat.lt_of_lt_of_le (Heap.lt_size e) I.ok.above))).trans (I.base.keep b o e n hb hx)
    · obtain ⟨sl,e1⟩:=I.base.slot b o e n hb hx
      exact ⟨sl,(hs.2 b (Nat.ne_of_lt (Nat.lt_of_lt_of_le (Heap.lt_size e) I.ok.above))).trans e1⟩
    · obtain ⟨o',e1⟩:=I.base.there b o e hx
      exact ⟨o',(hs.2 b (Nat.ne_of_lt (Nat.lt_of_lt_of_le (Heap.lt_size e) I.ok.above))).trans e1⟩
    · by_cases hj:j=i
      · subst hj
        rw [hi] at e1; cases e1
        rw [List.getElem?_set_self hiσ] at e2
        cases e2
        exact ⟨u,r,.inl ⟨hk,by simp⟩⟩
      · rw [List.getElem?_set_ne (Ne.symm hj)] at e2
        obtain ⟨u',r',q⟩:=hl j y v' e1 e2 e3
        refine ⟨u',r',?_⟩
        rcases q with ⟨k,e⟩ | ⟨k,c,e,z⟩
        · refine .inl ⟨k,?_⟩
          have:y≠x:=fun e=>hj (V7 hN e1 (e ▸ hi))
          simp [this,e]
        · exact .inr ⟨k,c,e,z.sameBut hs (cne y c e)⟩
    · obtain ⟨w',z⟩:=I.cell y c e
      exact ⟨w',z.sameBut hs (cne y c e)⟩
    · obtain ⟨e,n,ne,nf,d⟩:=I.pin p hp
      exact ⟨(hs.2 p.1 ne).trans e,n,ne,nf,d⟩
  · have hfn:X.fn x=true:=by
      rcases hf with z | z
      · exact z
      · rw [z] at hk; cases hk
    obtain ⟨c,hc⟩:=I.ok.has x (.inl hk)
    obtain ⟨w',z⟩:=I.cell x c hc
    refine wpAny_storeName_cell I.ok.kind hk hc z (fun h' hc' hs=>?_)
    obtain ⟨oc,hoc,hocd⟩:=id z
    refine h { s with heap:=h' } ⟨I.ok,I.os,I.bare,⟨fun b o e n hb hx=>?_,fun b o e n hb hx=>?_,I.base.free,fun b o e hx=>?_,I.base.tups,I.base.frzs,I.base.tbls⟩,⟨m,hn.sameBut hs (Ne.symm (cne x c hc)),fun j y v' e1 e2 e3=>?_⟩,fun y c' e=>?_,I.free,I.freeC,fun p hp=>?_,tracked ⟨oc,hoc,I.freeC x c hc⟩ hs,by simpa using I.len⟩ ⟨c,hs,.inr hc⟩
    · exact (hs.2 b (Nat.ne_of_lt (Nat.lt_of_lt_of_le (Heap.lt_size e) (I.ok.cab x c hfn hc)))).trans (I.base.keep b o e n hb hx)
    · obtain ⟨sl,e1⟩:=I.base.slot b o e n hb hx
      exact ⟨sl,(hs.2 b (Nat.ne_of_lt (Nat.lt_of_lt_of_le (Heap.lt_size e) (I.ok.cab x c hfn hc)))).trans e1⟩
    · obtain ⟨o',e1⟩:=I.base.there b o e hx
      exact ⟨o',(hs.2 b (Nat.ne_of_lt (Nat.lt_of_lt_of_le (Heap.lt_size e) (I.ok.cab x c hfn hc)))).trans e1⟩
    · by_cases hj:j=i
      · subst hj
        rw [hi] at e1; cases e1
        rw [List.getElem?_set_self hiσ] at e2
        cases e2
        exact ⟨u,r,.inr ⟨.inl hk,c,hc,hc'⟩⟩
      · rw [List.getElem?_set_ne (Ne.symm hj)] at e2
        obtain ⟨u',r',q⟩:=hl j y v' e1 e2 e3
        refine ⟨u',r',?_⟩
        rcases q with q | ⟨k,c',e,z'⟩
        · exact .inl q
        · refine .inr ⟨k,c',e,z'.sameBut hs ?_⟩
          rintro rfl
          exact hj (V7 hN e1 (I.ok.inj _ _ _ e hc ▸ hi))
    · by_cases hcc:c'=c
      · subst hcc; exact ⟨_,hc'⟩
      · obtain ⟨w2,z2⟩:=I.cell y c' e
        exact ⟨w2,z2.sameBut hs hcc⟩
    · obtain ⟨e,n,ne,nf,d⟩:=I.pin p hp
      refine ⟨(hs.2 p.1 ?_).trans e,n,ne,nf,d⟩
      intro q
      rw [q,hoc] at e
      have q':oc=p.2:=Option.some.inj e
      exact d w' (by rw [← q']; exact hocd)
theorem Vt {M:Model} {A:Around} {E:Value→Shared→Prop} {i:Nat} {x:Str} {v:V} {u:Value} {Q:Unit→Shared→Prop} (I:Inv X pins σ H s) (hN:X.N.Nodup) (hi:X.N[i]? = some x) (hx:Loc X.env.scope x) (r:Dc v u)
    (h:∀ s',Inv X pins (σ.set i (some v)) H s'→Q () s') (hf:X.fn x=true∨X.env.scope.names.lookup x=some .local:=by first | exact .inl rfl | exact .inr rfl | assumption):wpAny M A (storeName X.env x u) Q E s :=
  a0o I hN hi hx r (fun s' I' _=>h s' I') hf
end
noncomputable abbrev XK:=Value→Option Addr→Hp→Prop
noncomputable abbrev St:=List (Option V)
noncomputable abbrev VK:=V→Hp→Prop
noncomputable abbrev TE:=St→Hp→VK→Prop
noncomputable abbrev TT:=St→Hp→(Bool→Hp→Prop)→Prop
noncomputable abbrev TA:=St→Hp→(List V→Hp→Prop)→Prop
structure Ends where
  nx:St→Hp→Prop
  rt:VK
  bk:St→Hp→Prop:=fun _ _=>False
  ct:St→Hp→Prop:=fun _ _=>False
noncomputable abbrev TS:=Ends→St→Hp→Prop
inductive EP (X:Cx) (pins:List (Addr × Obj)) (σ:St) (Q:VK) (u:Value) (s':Shared):Prop
  | mk (v:V) (H':Hp) (I:Inv X pins σ H' s') (r:Dc v u) (q:Q v H')
noncomputable def TP (X:Cx) (pins:List (Addr × Obj)) (σ:St) (Q:Bool→Hp→Prop) (b:Bool) (s':Shared):Prop:=∃ H',Inv X pins σ H' s'∧Q b H'
inductive AP (X:Cx) (pins:List (Addr × Obj)) (σ:St) (Q:List V→Hp→Prop) (us:List Value) (s':Shared):Prop
  | mk (vs:List V) (H':Hp) (I:Inv X pins σ H' s') (r:yh vs us) (q:Q vs H')
noncomputable def SP (X:Cx) (pins:List (Addr × Obj)) (D:Ends) (f:Flow) (s':Shared):Prop :=
  match f with
  | .next=>∃ σ' H',Inv X pins σ' H' s'∧D.nx σ' H'
  | .brk=>∃ σ' H',Inv X pins σ' H' s'∧D.bk σ' H'
  | .cont=>∃ σ' H',Inv X pins σ' H' s'∧D.ct σ' H'
  | .ret u=>∃ v σ' H',Inv X pins σ' H' s'∧Dc v u∧D.rt v H'
noncomputable def PE (X:Cx) (e:Expr) (t:TE):Prop :=
  ∀ (pins:List (Addr × Obj)) (s:Shared) (σ:St) (H:Hp) (Q:VK),Inv X pins σ H s→t σ H Q→wpAny (model X.prog X.w) X.A (eval e X.env) (EP X pins σ Q) X.xe s
noncomputable def PT (X:Cx) (e:Expr) (t:TT):Prop :=
  ∀ (pins:List (Addr × Obj)) (s:Shared) (σ:St) (H:Hp) (Q:Bool→Hp→Prop),Inv X pins σ H s→t σ H Q→wpAny (model X.prog X.w) X.A (isTrue e X.env (eval e X.env)) (TP X pins σ Q) X.xe s
noncomputable def PW (X:Cx) (e:Expr) (t:TT):Prop :=
  ∀ (whole:Sem Value) (pins:List (Addr × Obj)) (s:Shared) (σ:St) (H:Hp) (Q:Bool→Hp→Prop),Inv X pins σ H s→t σ H Q→wpAny (model X.prog X.w) X.A (isTrue e X.env whole) (TP X pins σ Q) X.xe s
theorem PW.pt {X:Cx} {e:Expr} {t:TT} (h:PW X e t):PT X e t:=h _
noncomputable def PA (X:Cx) (es:List Expr) (t:TA):Prop :=
  ∀ (pos:Pos) (pins:List (Addr × Obj)) (s:Shared) (σ:St) (H:Hp) (Q:List V→Hp→Prop),Inv X pins σ H s→t σ H Q→wpAny (model X.prog X.w) X.A (spliced (backTo pos (starEach es X.env))) (AP X pins σ Q) X.xe s
noncomputable def PS (X:Cx) (st:Stmt) (t:TS):Prop :=
  ∀ (pins:List (Addr × Obj)) (s:Shared) (σ:St) (H:Hp) (D:Ends),Inv X pins σ H s→t D σ H→wpAny (model X.prog X.w) X.A (exec st X.env) (SP X pins D) X.xe s
noncomputable def PSs (X:Cx) (st:List Stmt) (t:TS):Prop :=
  ∀ (pins:List (Addr × Obj)) (s:Shared) (σ:St) (H:Hp) (D:Ends),Inv X pins σ H s→t D σ H→wpAny (model X.prog X.w) X.A (execs st X.env) (SP X pins D) X.xe s
theorem thn {α:Type} {t:Sem α} {Q Q':α→Shared→Prop} {M:Model} {A:Around} {E:Value→Shared→Prop} {s:Shared} (h:wpAny M A t Q E s) (hQ:∀ a s,Q a s→Q' a s):wpAny M A t Q' E s:=wpAny_mono h hQ fun _ _ x=>x
end L2
namespace L2
open PySem PySem.Spec PyProof.Rows
noncomputable section
variable {X:Cx}
noncomputable def a1r (i:Nat):TE:=fun σ H Q=>∃ v,σ[i]? = some (some v)∧Q v H
noncomputable def tC (v:V):TE:=fun _ H Q=>Q v H
theorem a8q {i:Nat} {x:Str} {pos:Pos} (hN:X.N[i]? = some x) (hv:Vis X.env.scope x) (hd:(x==("__debug__" : Str))=false:=by decide) (hcd:(x==("__classdict__" : Str))=false:=by decide):PE X (.Name x pos) (a1r i):=by
  intro pins s σ H Q I h
  obtain ⟨v,e,h⟩:=h
  obtain ⟨m,hn,hl⟩:=I.loc
  obtain ⟨u,r,l⟩:=hl i x v hN e hv
  have fin:EP X pins σ Q u s:=⟨v,H,I,r,h⟩
  rcases l with ⟨hk,hm⟩ | ⟨hk,c,hc,hcell⟩
  · exact wpAny_Name (wpAny_loadName_local I.ok.kind hk hn hm fin) hd
  · rcases hk with hk | hk
    · exact wpAny_Name (wpAny_loadName_cell I.ok.kind hk hc hcell fin) hd
    · exact wpAny_Name (wpAny_loadName_free I.ok.kind hk hc hcell fin hcd) hd
theorem a5t {i j pos}:PE X (.Constant (.int i) j pos) (tC (.int i)):=fun _ _ _ H _ I h=>wpAny_Constant_int ⟨.int i,H,I.tok _,⟨_,rfl⟩,h⟩
theorem ab6 {b j pos}:PE X (.Constant (.bool b) j pos) (tC (.bl b)):=fun _ _ _ H _ I h=>Constant_bool ⟨.bl b,H,I,rfl,h⟩
theorem a9c {j pos}:PE X (.Constant .none j pos) (tC .non):=fun _ _ _ H _ I h=>Constant_none ⟨.non,H,I,rfl,h⟩
theorem a91 {x j pos}:PE X (.Constant (.str x) j pos) (tC (.str x)):=fun _ _ _ H _ I h=>Calls.Constant_str ⟨.str x,H,I.tok _,⟨_,rfl⟩,h⟩
noncomputable def Gl (X:Cx) (x:Str):Prop:=X.env.kindOf x=some .globalImplicit
theorem a7s {E:Value→Shared→Prop} {pins:List (Addr × Obj)} {s:Shared} {σ:St} {H:Hp} {x:Str} {u:Value} {pos:Pos} {Q:Value→Shared→Prop} (I:Inv X pins σ H s) (hg:Gl X x) (hm:X.mg x=some u) (h:Q u s)
    (hd:(x==("__debug__" : Str))=false:=by decide):wpAny (model X.prog X.w) X.A (eval (.Name x pos) X.env) Q E s :=
  Calls.Name_function_global I.ok.kind hg (Calls.loadGlobal_global (by rw [I.ok.glob]; exact I.mod.glob.keeps I.bk) hm h) hd
theorem Nq {E:Value→Shared→Prop} {pins:List (Addr × Obj)} {s:Shared} {σ:St} {H:Hp} {x:Str} {u:Value} {pos:Pos} {Q:Value→Shared→Prop} (I:Inv X pins σ H s) (hg:Gl X x) (hm:X.mg x=none) (hv:bootBuiltins x=some u) (h:Q u s)
    (hn:x ≠ "__name__" := by decide) (hd:(x==("__debug__" : Str))=false:=by decide):wpAny (model X.prog X.w) X.A (eval (.Name x pos) X.env) Q E s:=by
  obtain ⟨mb,h1,h2⟩:=I.mod.blt
  exact Calls.Name_function_global I.ok.kind hg (Calls.loadGlobal_builtin (by rw [I.ok.glob]; exact I.mod.glob.keeps I.bk) hm (by rw [I.ok.blt]; exact h1.keeps I.bk) ((h2 x hn).trans hv) h) hd
variable {a b:Expr} {ta tb:TE} {pos:Pos}
noncomputable def tB (t:TE):TT:=fun σ H Q=>t σ H fun x H1=>∃ c,x=.bl c∧Q c H1
theorem a9k {e:Expr} {t:TE} (h:PE X e t) (he:∀ whole,isTrue e X.env whole=(do let v ← whole; standAt e.pos; holding [v] (truthy v)):=by intro _; rfl):PT X e (tB t):=by
  intro pins s σ H Q I hw
  refine isTrue_plain (thn (h pins s σ H _ I hw) fun v s1 z0=>?_) (he _)
  obtain ⟨x,H1,I1,r1,q1⟩:=z0
  obtain ⟨d,rfl,q⟩:=q1
  cases r1
  exact wpAny_truthy_bool ⟨H1,I1,q⟩
variable {tA tB':TT} {rest:List Expr}
noncomputable def ac6 (t u:TT):TT:=fun σ H Q=>t σ H fun c H1=>if c=true then u σ H1 Q else Q false H1
noncomputable def tOr (t u:TT):TT:=fun σ H Q=>t σ H fun c H1=>if c=true then Q true H1 else u σ H1 Q
noncomputable def acw (t:TT):TT:=fun σ H Q=>t σ H fun c H1=>Q (!c) H1
theorem pw_and1 (ha:PT X a tA):PW X (.BoolOp .And [a] pos) tA:=by
  intro wh pins s σ H Q I h
  refine isTrue_and (thn (ha pins s σ H Q I h) fun c s1 e=>?_)
  cases c with
  | true=>exact isTrue_and_nil e
  | false=>exact e
theorem pw_or1 (ha:PT X a tA):PW X (.BoolOp .Or [a] pos) tA:=by
  intro wh pins s σ H Q I h
  refine isTrue_or (thn (ha pins s σ H Q I h) fun c s1 e=>?_)
  cases c with
  | false=>exact isTrue_or_nil e
  | true=>exact e
theorem pw_and (ha:PT X a tA) (hb:PW X (.BoolOp .And (b::rest) pos) tB'):PW X (.BoolOp .And (a::b::rest) pos) (ac6 tA tB'):=by
  intro wh pins s σ H Q I h
  refine isTrue_and (thn (ha pins s σ H _ I h) fun c s1 z0=>?_)
  obtain ⟨H1,I1,q1⟩:=z0
  cases c with
  | true=>exact hb wh pins s1 σ H1 Q I1 q1
  | false=>exact ⟨H1,I1,q1⟩
theorem pw_or (ha:PT X a tA) (hb:PW X (.BoolOp .Or (b::rest) pos) tB'):PW X (.BoolOp .Or (a::b::rest) pos) (tOr tA tB'):=by
  intro wh pins s σ H Q I h
  refine isTrue_or (thn (ha pins s σ H _ I h) fun c s1 z0=>?_)
  obtain ⟨H1,I1,q1⟩:=z0
  cases c with
  | true=>exact ⟨H1,I1,q1⟩
  | false=>exact hb wh pins s1 σ H1 Q I1 q1
theorem a8g (ha:PT X a tA):PT X (.UnaryOp .Not a pos) (acw tA):=by
  intro pins s σ H Q I h
  exact isTrue_not (ha pins s σ H (fun c H1=>Q (!c) H1) I h)
noncomputable def acr (ta tb:TE):TE:=fun σ H Q=>ta σ H fun x H1=>∃ c,x=.bl c∧if c=true then Q (.bl true) H1 else tb σ H1 Q
noncomputable def ab4 (ta:TE):TE:=fun σ H Q=>ta σ H fun x H1=>∃ c,x=.bl c∧Q (.bl (!c)) H1
theorem a8n {op} {t:TE} (h:PE X a t):PE X (.BoolOp op [a] pos) t:=fun pins s σ H Q I hw=>BoolOp_one (h pins s σ H Q I hw)
theorem ab9 (ha:PE X a ta) (hb:PE X (.BoolOp .Or (b::rest) pos) tb):PE X (.BoolOp .Or (a::b::rest) pos) (acr ta tb):=by
  intro pins s σ H Q I h
  refine BoolOp_or (thn (ha pins s σ H _ I h) fun v s1 z0=>?_)
  obtain ⟨x,H1,I1,r1,q1⟩:=z0
  obtain ⟨c,rfl,q1⟩:=q1
  cases r1
  refine wpAny_truthy_bool ?_
  cases c with
  | false=>exact hb pins s1 σ H1 Q I1 q1
  | true=>exact ⟨.bl true,H1,I1,rfl,q1⟩
theorem a9q (ha:PE X a ta):PE X (.UnaryOp .Not a pos) (ab4 ta):=by
  intro pins s σ H Q I h
  refine UnaryOp_ (thn (ha pins s σ H _ I h) fun v s1 z0=>?_)
  obtain ⟨x,H1,I1,r1,q1⟩:=z0
  obtain ⟨c,rfl,q1⟩:=q1
  cases r1
  exact not_of (wpAny_truthy_bool ⟨.bl (!c),H1,I1,rfl,q1⟩)
noncomputable def tIf (t:TT) (ta tb:TE):TE:=fun σ H Q=>t σ H fun c H1=>if c=true then ta σ H1 Q else tb σ H1 Q
theorem a3e {c:Expr} (hc:PT X c tA) (ha:PE X a ta) (hb:PE X b tb):PE X (.IfExp c a b pos) (tIf tA ta tb):=by
  intro pins s σ H Q I h
  refine wpAny_IfExp (thn (hc pins s σ H _ I h) fun d s1 z0=>?_)
  obtain ⟨H1,I1,q1⟩:=z0
  cases d with
  | true=>exact ha pins s1 σ H1 Q I1 q1
  | false=>exact hb pins s1 σ H1 Q I1 q1
end
end L2
namespace L2
open PySem PySem.Spec PyProof.Rows
noncomputable def SqL (K:PySem.W.Frag) (H:Hp) (a:Addr) (xs:List V):Prop :=
  Rd H a (.lst xs) ∨
    ∃ (o:Obj) (its:Array Value) (n:Nat),K.lookup a=some o∧o.cls=.type "list" ∧ o.dict=none∧o.data=.seq its n∧its.size≤sizeLine∧yh xs its.toList
noncomputable def SqT (K:PySem.W.Frag) (H:Hp) (a:Addr) (xs:List V):Prop :=
  Rd H a (.tup xs) ∨
    ∃ (o:Obj) (its:Array Value) (n:Nat),K.lookup a=some o∧o.cls=.type "tuple" ∧ o.dict=none∧o.data=.seq its n∧its.size≤sizeLine∧yh xs its.toList
noncomputable def ad2:Value→Option V
  | .none=>some .non
  | .bool b=>some (.bl b)
  | .int i _=>some (.int i)
  | .str x _=>some (.str x)
  | .bytes b _=>some (.byt b)
  | .float b _=>some (.flt b)
  | .ref a=>some (.ref a)
  | .type n=>some (.ty n)
  | _=>none
theorem Dc.abs {x:V} {u:Value} (r:Dc x u):ad2 u=some x:=by
  cases x with
  | non=>cases r; rfl
  | bl _=>cases r; rfl
  | int _=>obtain ⟨t,rfl⟩:=r; rfl
  | str _=>obtain ⟨t,rfl⟩:=r; rfl
  | byt _=>obtain ⟨t,rfl⟩:=r; rfl
  | flt _=>obtain ⟨t,rfl⟩:=r; rfl
  | ref _=>cases r; rfl
  | ty _=>cases r; rfl
theorem Dc.inj {x y:V} {u:Value} (r:Dc x u) (q:Dc y u):x=y:=Option.some.inj (r.abs.symm.trans q.abs)
theorem yh.inj:∀ {xs ys:List V} {us:List Value},yh xs us→yh ys us→xs=ys
  | _,_,_,.nil,.nil=>rfl
  | _,_,_,.cons r t,.cons r' t'=>by rw [r.inj r',yh.inj t t']
noncomputable section
variable {X:Cx} {pins:List (Addr × Obj)} {σ:St} {H:Hp} {s:Shared} {a:Addr} {xs ys:List V}
theorem SqL.of {K:PySem.W.Frag} (h:H a=some (.lst xs)):SqL K H a xs:=.inl (.inl h)
theorem SqT.of {K:PySem.W.Frag} (h:H a=some (.tup xs)):SqT K H a xs:=.inl (.inl h)
theorem Inv.list (I:Inv X pins σ H s) (h:SqL X.K H a xs):∃ its:List Value,yh xs its∧PlainL s.heap a its.toArray∧xs.length≤sizeLine:=by
  rcases h with h | ⟨o,its,n,hk,hc,hd,hs,hz,r⟩
  · obtain ⟨z,its,n,r,e⟩:=h.ok I.hok
    exact ⟨its,r,⟨_,n,e,rfl,rfl,rfl⟩,z⟩
  · refine ⟨its.toList,r,⟨o,n,I.kIn a o hk,hc,hd,by simpa using hs⟩,?_⟩
    have e:=r.length
    simp only [Array.length_toList] at e
    omega
theorem Inv.tuple (I:Inv X pins σ H s) (h:SqT X.K H a xs):∃ its:List Value,yh xs its∧IsTup s.heap a its.toArray∧xs.length≤sizeLine:=by
  rcases h with h | ⟨o,its,n,hk,hc,hdn,hs,hz,r⟩
  · obtain ⟨z,its,r,p⟩:=h.ok I.hok
    exact ⟨its,r,p.is,z⟩
  · refine ⟨its.toList,r,⟨o,I.kIn a o hk,hc,n,by simpa using hs⟩,?_⟩
    have e:=r.length
    simp only [Array.length_toList] at e
    omega
theorem Inv.a9e (I:Inv X pins σ H s) (h:SqT X.K H a xs):∃ its:List Value,yh xs its∧a1o s.heap a its.toArray∧xs.length≤sizeLine:=by
  rcases h with h | ⟨o,its,n,hk,hc,hdn,hs,hz,r⟩
  · obtain ⟨z,its,r,p⟩:=h.ok I.hok
    exact ⟨its,r,p,z⟩
  · refine ⟨its.toList,r,⟨o,I.kIn a o hk,hc,hdn,n,by simpa using hs⟩,?_⟩
    have e:=r.length
    simp only [Array.length_toList] at e
    omega
theorem Inv.Wc (I:Inv X pins σ H s) (h:SqL X.K H a xs) (h':SqL X.K H a ys):xs=ys:=by
  obtain ⟨its,r,⟨o,n,e,_,_,d⟩,_⟩:=I.list h
  obtain ⟨its',r',⟨o',n',e',_,_,d'⟩,_⟩:=I.list h'
  rw [e] at e'; cases e'
  rw [d] at d'
  injection d' with d1 _
  have:its=its':=by simpa using congrArg Array.toList d1
  subst this
  exact r.inj r'
theorem Inv.Yk (I:Inv X pins σ H s) (h:SqT X.K H a xs) (h':SqT X.K H a ys):xs=ys:=by
  obtain ⟨its,r,⟨o,e,_,n,d⟩,_⟩:=I.tuple h
  obtain ⟨its',r',⟨o',e',_,n',d'⟩,_⟩:=I.tuple h'
  rw [e] at e'; cases e'
  rw [d] at d'
  injection d' with d1 _
  have:its=its':=by simpa using congrArg Array.toList d1
  subst this
  exact r.inj r'
end
noncomputable abbrev Cx.wish (X:Cx) (E:Value→Shared→Prop):Cx:={ X with xe:=E }
noncomputable abbrev Cx.nox (X:Cx):Cx:=X.wish fun _ _=>False
theorem Cx.Ok.wish {X:Cx} (ok:X.Ok) (E:Value→Shared→Prop):(X.wish E).Ok :=
  ⟨ok.mod,ok.kind,ok.glob,ok.blt,ok.above,ok.inj,ok.has,ok.cab,ok.hd,ok.frames,ok.stk,ok.exf,ok.bs,ok.bsz,ok.noex,ok.exfs,ok.Xy,ok.frf⟩
theorem Cx.Ok.Gi {X:Cx} {E:Value→Shared→Prop} (ok:(X.wish E).Ok):X.Ok :=
  ⟨ok.mod,ok.kind,ok.glob,ok.blt,ok.above,ok.inj,ok.has,ok.cab,ok.hd,ok.frames,ok.stk,ok.exf,ok.bs,ok.bsz,ok.noex,ok.exfs,ok.Xy,ok.frf⟩
noncomputable section
variable {X:Cx} {pins:List (Addr × Obj)} {σ:St} {H:Hp} {s:Shared} {E:Value→Shared→Prop}
theorem Inv.wish (I:Inv X pins σ H s) (E:Value→Shared→Prop):Inv (X.wish E) pins σ H s:=⟨I.ok.wish E,I.os,I.bare,I.base,I.loc,I.cell,I.free,I.freeC,I.pin,I.hok,I.len⟩
theorem Inv.Gi (I:Inv (X.wish E) pins σ H s):Inv X pins σ H s:=⟨I.ok.Gi,I.os,I.bare,I.base,I.loc,I.cell,I.free,I.freeC,I.pin,I.hok,I.len⟩
theorem SP.Gi {D:Ends} {f:Flow} {s':Shared} (h:SP (X.wish E) pins D f s'):SP X pins D f s':=by
  cases f with
  | next=>obtain ⟨σ',H',I,q⟩:=h; exact ⟨σ',H',I.Gi,q⟩
  | brk=>obtain ⟨σ',H',I,q⟩:=h; exact ⟨σ',H',I.Gi,q⟩
  | cont=>obtain ⟨σ',H',I,q⟩:=h; exact ⟨σ',H',I.Gi,q⟩
  | ret u=>obtain ⟨v,σ',H',I,r,q⟩:=h; exact ⟨v,σ',H',I.Gi,r,q⟩
theorem PE.nox {e:Expr} {t:TE} (h:PE X.nox e t):PE X e t:=fun pins s σ H Q I hw =>
  wpAny_mono (h pins s σ H Q (I.wish _) hw) (fun _ _ z7=>by obtain ⟨v,H',I',r,q⟩:=z7; exact ⟨v,H',I'.Gi,r,q⟩) fun _ _ z=>False.elim z
theorem PT.nox {e:Expr} {t:TT} (h:PT X.nox e t):PT X e t:=fun pins s σ H Q I hw =>
  wpAny_mono (h pins s σ H Q (I.wish _) hw) (fun _ _ z7=>by obtain ⟨H',I',q⟩:=z7; exact ⟨H',I'.Gi,q⟩) fun _ _ z=>False.elim z
theorem PSs.nox {st:List Stmt} {t:TS} (h:PSs X.nox st t):PSs X st t:=fun pins s σ H D I hw =>
  wpAny_mono (h pins s σ H D (I.wish _) hw) (fun _ _ q=>q.Gi) fun _ _ z=>False.elim z
end
noncomputable section
variable {X:Cx} {st:Stmt} {rest:List Stmt} {t u:TS} {e:Expr} {te:TE} {pos:Pos}
noncomputable def aax:TS:=fun D σ H=>D.nx σ H
noncomputable def ace (t u:TS):TS:=fun D σ H=>t { D with nx:=u D } σ H
theorem a6j:PSs X [] aax:=fun _ _ σ H _ I h=>wpAny_execs_nil ⟨σ,H,I,h⟩
theorem a1y (h1:PS X st t) (h2:PSs X rest u):PSs X (st::rest) (ace t u):=by
  intro pins s σ H D I h
  refine wpAny_execs_cons (thn (h1 pins s σ H { D with nx:=u D } I h) fun f s1 q=>?_)
  cases f with
  | next =>
    obtain ⟨σ',H',I',q⟩:=q
    exact h2 pins s1 σ' H' D I' q
  | ret v=>exact q
  | brk=>exact q
  | cont=>exact q
theorem Yt (h1:PS X st t):PSs X [st] t:=by
  intro pins s σ H D I h
  refine wpAny_execs_cons (thn (h1 pins s σ H D I h) fun f s1 q=>?_)
  cases f with
  | next=>exact wpAny_execs_nil q
  | ret v=>exact q
  | brk=>exact q
  | cont=>exact q
theorem Inv.quiet {pins:List (Addr × Obj)} {σ:St} {H:Hp} {s:Shared} (I:Inv X pins σ H s):interactive X.env=false:=by simp [interactive,I.ok.kind]
noncomputable def a3q (te:TE):TS:=fun D σ H=>te σ H fun _ H1=>D.nx σ H1
theorem Cv (he:PE X e te) (hs:swapsWith e none pos.line X.env=pure false:=by rfl):PS X (.Expr e pos) (a3q te):=by
  intro pins s σ H D I h
  exact wpAny_Expr_any (thn (he pins s σ H _ I h) fun v s1 z7=>by obtain ⟨x,H1,I1,r1,q1⟩:=z7; exact ⟨σ,H1,I1,q1⟩) I.quiet hs
noncomputable def acn (te:TE):TS:=fun D σ H=>te σ H D.rt
theorem a5e (he:PE X e te):PS X (.Return (some e) pos) (acn te):=by
  intro pins s σ H D I h
  exact wpAny_Return_some (thn (he pins s σ H _ I h) fun v s1 z7=>by obtain ⟨x,H1,I1,r1,q1⟩:=z7; exact ⟨x,σ,H1,I1,r1,q1⟩)
noncomputable def acy (c:TT) (t u:TS):TS:=fun D σ H=>c σ H fun b H1=>if b=true then t D σ H1 else u D σ H1
theorem abk {c:Expr} {a b:List Stmt} {tc:TT} (hc:PT X c tc) (ha:PSs X a t) (hb:PSs X b u):PS X (.If c a b pos) (acy tc t u):=by
  intro pins s σ H D I h
  refine wpAny_If (thn (hc pins s σ H _ I h) fun d s1 z0=>?_)
  obtain ⟨H1,I1,q1⟩:=z0
  cases d with
  | true=>exact ha pins s1 σ H1 D I1 q1
  | false=>exact hb pins s1 σ H1 D I1 q1
end
noncomputable abbrev TG:=V→St→Hp→(St→Hp→Prop)→Prop
noncomputable abbrev TGs:=List V→St→Hp→(St→Hp→Prop)→Prop
noncomputable def PG (X:Cx) (target:Expr) (t:TG):Prop :=
  ∀ (pins:List (Addr × Obj)) (s:Shared) (σ:St) (H:Hp) (v:V) (u:Value) (Q:St→Hp→Prop),Inv X pins σ H s→Dc v u→t v σ H Q →
    wpAny (model X.prog X.w) X.A (assign target X.env u) (fun _ s'=>∃ σ' H',Inv X pins σ' H' s'∧Q σ' H') X.xe s
noncomputable def PGs (X:Cx) (ts:List Expr) (t:TGs):Prop :=
  ∀ (pins:List (Addr × Obj)) (s:Shared) (σ:St) (H:Hp) (vs:List V) (us:List Value) (Q:St→Hp→Prop),Inv X pins σ H s→yh vs us→t vs σ H Q →
    wpAny (model X.prog X.w) X.A (assignInOrder ((assignEach ts X.env).map (·.2)) us) (fun _ s'=>∃ σ' H',Inv X pins σ' H' s'∧Q σ' H') X.xe s
noncomputable abbrev abe:=V→V→V→Hp→(Hp→Prop)→Prop
noncomputable def abz (X:Cx) (t:abe):Prop :=
  ∀ (pins:List (Addr × Obj)) (s:Shared) (σ:St) (H:Hp) (o i v:V) (ov iv u:Value) (Q:Hp→Prop),Inv X pins σ H s→Dc o ov→Dc i iv→Dc v u→t o i v H Q →
    wpAny (model X.prog X.w) X.A (setItem ov iv u) (fun _ s'=>∃ H',Inv X pins σ H' s'∧Q H') X.xe s
noncomputable section
variable {X:Cx} {pos:Pos}
noncomputable def O4 (i:Nat):TG:=fun v σ H Q=>Q (σ.set i (some v)) H
theorem jl {i:Nat} {x:Str} (hN:X.N.Nodup) (hi:X.N[i]? = some x) (hx:Loc X.env.scope x) (hf:X.fn x=true∨X.env.scope.names.lookup x=some .local:=by first | exact .inl rfl | exact .inr rfl | assumption):PG X (.Name x pos) (O4 i):=by
  intro pins s σ H v u Q I r h
  exact wpAny_assign_Name (Vt I hN hi hx r (fun s' I'=>⟨_,H,I',h⟩) hf)
noncomputable def abw:TGs:=fun vs σ H Q=>vs=[]∧Q σ H
noncomputable def a95 (t:TG) (u:TGs):TGs:=fun vs σ H Q=>∃ v r,vs=v::r∧t v σ H fun σ' H'=>u r σ' H' Q
theorem En:PGs X [] abw:=by
  intro pins s σ H vs us Q I r h
  obtain ⟨e,h⟩:=h
  subst e
  cases r
  exact assignInOrder_nil ⟨σ,H,I,h⟩
theorem qt {e:Expr} {es:List Expr} {t:TG} {u:TGs} (h1:PG X e t) (h2:PGs X es u)
    (hs:(assignEach (e::es) X.env).map (·.2)=assign e X.env::(assignEach es X.env).map (·.2):=by rfl):PGs X (e::es) (a95 t u):=by
  intro pins s σ H vs us Q I r h
  obtain ⟨v,vr,e1,h⟩:=h
  subst e1
  cases r with
  | cons r rr =>
    rw [hs]
    refine assignInOrder_cons (thn (h1 pins s σ H _ _ _ I r h) fun _ s1 z0=>?_)
    obtain ⟨σ1,H1,I1,q1⟩:=z0
    exact h2 pins s1 σ1 H1 _ _ Q I1 rr q1
noncomputable def ac0 (K:PySem.W.Frag) (n:Nat) (t:TGs):TG:=fun v σ H Q=>∃ a xs,v=.ref a∧SqT K H a xs∧xs.length=n∧t xs σ H Q
theorem Gu {es:List Expr} {k:Nat} {t:TGs} {n:Nat} (hc:X.calm=true) (h:PGs X es t)
    (hn:(assignEach es X.env).length=n:=by rfl) (hst:(assignEach es X.env).findIdx? (·.1)=none:=by rfl):PG X (.Tuple es k pos) (ac0 X.K n t):=by
  intro pins s σ H v u Q I r hw
  obtain ⟨a,xs,e1,hq,hl,hw⟩:=hw
  subst e1
  cases r
  obtain ⟨its,rv,ht,hz⟩:=I.tuple hq
  refine assign_Tuple_tuple (I.ok.hd hc) ht (by simp [hn,← hl,rv.length]) hst fun h' hx=>?_
  have I1:Inv X pins σ H { s with heap:=h' }:=I.kept (t':=s.toks) fun b o e=>hx b o (Nat.ne_of_lt (Heap.lt_size e)) e
  exact h pins _ σ H xs _ Q I1 (by simpa using rv) hw
noncomputable def ac2 (to ti:TE) (t:abe):TG:=fun v σ H Q=>to σ H fun o H1=>ti σ H1 fun i H2=>t o i v H2 fun H3=>Q σ H3
theorem Us {o i:Expr} {to ti:TE} {t:abe} (ho:PE X o to) (hi:PE X i ti) (hs:abz X t)
    (ha:∀ v,assign (.Subscript o i pos) X.env v=(do
      let ov ← holding [v] (eval o X.env)
      let iv ← holding [v,ov] (eval i X.env)
      standAt pos
      holding [v,ov,iv] (setItem ov iv v)
      release [v,ov,iv] []):=by intro _; rfl):PG X (.Subscript o i pos) (ac2 to ti t):=by
  intro pins s σ H v u Q I r h
  rw [ha]
  refine wpAny_bind (wpAny_holding (thn (ho pins s σ H _ I h) fun ov s1 z0=>?_))
  obtain ⟨x,H1,I1,r1,q1⟩:=z0
  refine wpAny_bind (wpAny_holding (thn (hi pins s1 σ H1 _ I1 q1) fun iv s2 z0=>?_))
  obtain ⟨y,H2,I2,r2,q2⟩:=z0
  refine wpAny_bind (wpAny_standAt (wpAny_bind (wpAny_holding (thn (hs pins s2 σ H2 x y v ov iv u _ I2 r1 r2 r q2) fun _ s3 z0=>?_))))
  obtain ⟨H3,I3,q3⟩:=z0
  exact wpAny_release ⟨σ,H3,I3,q3⟩
noncomputable def a5d (te:TE) (g:TG):TS:=fun D σ H=>te σ H fun x H1=>g x σ H1 D.nx
theorem Lg {tg e:Expr} {te:TE} {g:TG} (he:PE X e te) (hg:PG X tg g) (hs:swapsWithSole [tg] e pos.line X.env=pure false:=by rfl) (hw:swappedStores [tg] e X.env=pure none:=by rfl)
    (h1:(assignEach [tg] X.env).map (·.2)=[assign tg X.env]:=by rfl):PS X (.Assign [tg] e pos) (a5d te g):=by
  intro pins s σ H D I h
  refine wpAny_Assign_stores (thn (he pins s σ H _ I h) fun v s1 z0=>?_) hs hw
  obtain ⟨x,H1,I1,r1,q1⟩:=z0
  rw [h1]
  exact thn (hg pins s1 σ H1 x v _ I1 r1 q1) fun _ s2 q=>q
theorem jy {i:Nat} {x:Str} {e:Expr} {te:TE} {pos':Pos} (hN:X.N.Nodup) (hi:X.N[i]? = some x) (hx:Loc X.env.scope x) (he:PE X e te) (hs:swapsWith e (some (.Name x pos')) pos.line X.env=pure false:=by rfl) (hf:X.fn x=true∨X.env.scope.names.lookup x=some .local:=by first | exact .inl rfl | exact .inr rfl | assumption) :
    PS X (.Assign [.Name x pos'] e pos) (a5d te (O4 i)):=by
  intro pins s σ H D I h
  refine wpAny_Assign_Name (thn (he pins s σ H _ I h) fun v s1 z0=>?_) hs
  obtain ⟨y,H1,I1,r1,q1⟩:=z0
  exact Vt I1 hN hi hx r1 (fun s2 I2=>⟨_,H1,I2,q1⟩) hf
end
noncomputable section
variable {X:Cx} {pos:Pos}
noncomputable def a8k (c:TT) (tb:TS):TS:=fun D σ H=>∃ W:Nat→St→Hp→Prop,(∃ m,W m σ H)∧∀ m σ H,W m σ H →
  c σ H fun b H1=>if b=true then ∃ N:St→Hp→Prop,(∀ σ' H',N σ' H'→∃ m',m'<m∧W m' σ' H')∧tb { D with nx:=N,ct:=N,bk:=D.nx } σ H1 else D.nx σ H1
theorem a4q {c:Expr} {body:List Stmt} {tc:TT} {tb:TS} (hp:PassesOwn (model X.prog X.w) X.A X.env X.xe) (hc:PT X c tc) (hb:PSs X body tb):PS X (.While c body [] pos) (a8k tc tb):=by
  intro pins s σ H D I h
  obtain ⟨W,⟨m0,w0⟩,turn⟩:=h
  refine wpAny_While (codeAny_whileLoop (fun n s'=>∃ σ' H',Inv X pins σ' H' s'∧W n σ' H') ?_ m0 ⟨σ,H,I,w0⟩)
  rintro n s1 ⟨σ1,H1,I1,w1⟩
  refine wpAny_passesOwn hp (thn (hc pins s1 σ1 H1 _ I1 (turn n σ1 H1 w1)) fun b s2 z0=>?_)
  obtain ⟨H2,I2,q2⟩:=z0
  cases b with
  | true =>
    obtain ⟨N,hN,q2⟩:=q2
    rw [if_pos rfl]
    refine wpAny_passesOwn hp (thn (hb pins s2 σ1 H2 _ I2 q2) fun f s3 q3=>?_)
    cases f with
    | next =>
      obtain ⟨σ3,H3,I3,n3⟩:=q3
      obtain ⟨m',hm,w3⟩:=hN σ3 H3 n3
      exact ⟨m',hm,σ3,H3,I3,w3⟩
    | cont =>
      obtain ⟨σ3,H3,I3,n3⟩:=q3
      obtain ⟨m',hm,w3⟩:=hN σ3 H3 n3
      exact ⟨m',hm,σ3,H3,I3,w3⟩
    | brk=>exact q3
    | ret v=>exact q3
  | false =>
    rw [if_neg Bool.false_ne_true]
    exact wpAny_execs_nil ⟨σ1,H2,I2,q2⟩
end
structure It where
  go:Nat→Hp→Prop
  yld:Nat→Hp→V→Hp→Prop
  stop:Nat→Hp→Prop
noncomputable def Rx (X:Cx) (pins:List (Addr × Obj)) (H:Hp) (b:Addr):Prop :=
  H b=none∧b≠X.env.locals∧b∉X.fs∧(b∈X.ex∨X.s₀.heap.objs.size≤b)∧(∀ x c,X.env.cells.lookup x=some c→c≠b)∧∀ p∈X.pn++pins,p.1≠b
theorem Inv.a7z {X:Cx} {pins:List (Addr × Obj)} {σ:St} {H H':Hp} {s:Shared} {b:Addr} (I:Inv X pins σ H s) (hb:s.heap.objs.size≤b) (hn:H' b=none):Rx X pins H' b:=by
  refine ⟨hn,Nat.ne_of_gt (Nat.lt_of_lt_of_le I.lt hb),I.acz hb,.inr (Nat.le_trans I.sz hb),fun x c e z=>?_,fun p hp z=>?_⟩
  · obtain ⟨v,q⟩:=I.cell x c e
    exact absurd (Nat.lt_of_lt_of_le q.lt (by rw [z]; exact hb)) (Nat.lt_irrefl _)
  · exact absurd (Nat.lt_of_lt_of_le (Heap.lt_size (I.pin p hp).1) (by rw [z]; exact hb)) (Nat.lt_irrefl _)
structure Turn (P:Program) (w:World) (K:PySem.W.Frag) (tg:Expr) (J:It) (fp:List Addr) (it:Addr) (tn:Nat→Heap→Prop):Prop where
  mem:it∈fp
  obj:∀ i h,tn i h→∀ b∈fp,∃ o,h.get? b=some o∧∀ v,o.data≠.cell v
  keep:∀ i h h',tn i h→(∀ b∈fp,∀ o,h.get? b=some o→h'.get? b=some o)→tn i h'
  item:∀ (X:Cx),X.prog=P→X.w=w→X.K=K→X.calm=true→∀ (i:Nat) (pins:List (Addr × Obj)) (s:Shared) (σ:St) (H:Hp) (E:Value→Shared→Prop),Inv X pins σ H s→(∀ b∈fp,Rx X pins H b)→tn i s.heap→J.go i H →
    wpAny (model P w) X.A (pyNext (.ref it)) (fun r s1=>∃ u,r=some u ∧
      wpAny (model P w) X.A (letOwnedTupleGo tg (.ref it) u) (fun _ s2=>∃ x H',Inv X pins σ H' s2∧Dc x u∧J.yld i H x H'∧tn (i+1) s2.heap∧∀ b∈fp,H' b=none) E s1) E s
  done:∀ (X:Cx),X.prog=P→X.w=w→X.K=K→X.calm=true→∀ (i:Nat) (pins:List (Addr × Obj)) (s:Shared) (σ:St) (H:Hp) (E:Value→Shared→Prop),Inv X pins σ H s→(∀ b∈fp,Rx X pins H b)→tn i s.heap→J.stop i H →
    wpAny (model P w) X.A (pyNext (.ref it)) (fun r s1=>r=none∧Inv X pins σ H s1) E s
  self:∀ (A:Around) (i:Nat) (s:Shared) (Q:Value→Shared→Prop) (E:Value→Shared→Prop),tn i s.heap→Q (.ref it) s→wpAny (model P w) A (pyIter (.ref it)) Q E s
noncomputable abbrev TI:=St→Hp→(It→Hp→Prop)→Prop
noncomputable def PIE (X:Cx) (pins:List (Addr × Obj)) (σ:St) (tg:Expr) (R:It→Hp→Prop) (itv:Value) (s2:Shared):Prop :=
  ∃ (it:Addr) (fp:List Addr) (tn:Nat→Heap→Prop) (J:It) (H':Hp),itv=.ref it∧Inv X pins σ H' s2∧Turn X.prog X.w X.K tg J fp it tn∧tn 0 s2.heap∧(∀ b∈fp,Rx X pins H' b)∧R J H'
noncomputable def PI (X:Cx) (tg iter:Expr) (wi:TI):Prop :=
  ∀ (pins:List (Addr × Obj)) (s:Shared) (σ:St) (H:Hp) (R:It→Hp→Prop),Inv X pins σ H s→wi σ H R →
    wpAny (model X.prog X.w) X.A (eval iter X.env) (fun v s1=>wpAny (model X.prog X.w) X.A (pyIter v) (PIE X pins σ tg R) X.xe s1) X.xe s
theorem a6b {M:Model} {A:Around} {E:Value→Shared→Prop} {s:Shared} {tg:Expr} {it:Addr} {u:Value} {o:Obj} {n:String} {vs:Array Value} {Q:Unit→Shared→Prop} (ho:s.heap.get? it=some o) (hc:o.cls=.type n) (hd:o.data=.fields vs)
    (hn:["enumerate","zip","dict_itemiterator","dict_reverseitemiterator","odict_iterator","itertools.zip_longest","itertools.pairwise"].contains n=false) (hQ:Q () s):wpAny M A (letOwnedTupleGo tg (.ref it) u) Q E s:=by
  unfold letOwnedTupleGo
  cases tg <;> first
    | exact wpAny_pure hQ
    | (cases u <;> first
        | exact wpAny_pure hQ
        | (refine wpAny_bind (wpAny_load ho ?_)
           rw [hc,hd]
           show wpAny M A (if (["enumerate","zip","dict_itemiterator","dict_reverseitemiterator","odict_iterator","itertools.zip_longest","itertools.pairwise"].contains n&&vs[0]? == some (rawInt _))=true then _ else _) Q E s
           rw [if_neg (by intro h; rw [hn,Bool.false_and] at h; cases h)]
           exact wpAny_pure hQ))
noncomputable def Itl (K:PySem.W.Frag) (a:Addr):It :=
  ⟨fun i H=>∃ xs x,SqL K H a xs∧xs[i]? = some x,fun i H x H'=>H'=H∧∀ xs,SqL K H a xs→xs[i]? = some x,fun i H=>∃ xs,SqL K H a xs∧xs.length≤i⟩
noncomputable def Itt (K:PySem.W.Frag) (a:Addr):It :=
  ⟨fun i H=>∃ xs x,SqT K H a xs∧xs[i]? = some x,fun i H x H'=>H'=H∧∀ xs,SqT K H a xs→xs[i]? = some x,fun i H=>∃ xs,SqT K H a xs∧xs.length≤i⟩
noncomputable def Itr (lo:Int) (n:Nat):It:=⟨fun i _=>i<n,fun i H x H'=>H'=H∧x=.int (lo+i),fun i _=>n≤i⟩
theorem Zy {P:Program} {w:World} {K:PySem.W.Frag} {tg:Expr} (a it:Addr):Turn P w K tg (Itl K a) [it] it (fun i h=>h.IsListIter it a i) where
  mem:=by simp
  obj:=fun i h st b hb=>by
    have e:b=it:=by simpa using hb
    subst e
    obtain ⟨o,e,c,d⟩:=st
    exact ⟨o,e,fun v z=>by rw [d] at z; cases z⟩
  keep:=fun i h h' st k=>st.at fun o e=>k it (by simp) o e
  item:=by
    intro X hP hw hK hc i pins s σ H E I hf st hg
    subst hP hw hK
    obtain ⟨xs,x,hq,hx⟩:=hg
    obtain ⟨its,rv,p,hz⟩:=I.list hq
    obtain ⟨u,hu,ru⟩:=rv.get hx
    obtain ⟨f0,f1,f2,f3,f4,f5⟩:=hf it (by simp)
    refine wpAny_pyNext_list_item st p.isList (x:=u) (by simpa using hu) fun h' st' sb=>?_
    have I1:Inv X pins σ H { s with heap:=h' }:=I.turned (t':=s.toks) (fun b o hb e=>(sb.2 b hb).trans e) f0 f1 f3 f4 f5
    obtain ⟨o,e,c,d⟩:=id st'
    exact ⟨u,rfl,a6b (s:={ s with heap:=h' }) e c d (by decide) ⟨x,H,I1,ru,⟨rfl,fun ys hy=>by rw [I.Wc hy hq]; exact hx⟩,st',fun b hb=>(hf b hb).1⟩⟩
  done:=by
    intro X hP hw hK hc i pins s σ H E I hf st hg
    subst hP hw hK
    obtain ⟨xs,hq,hx⟩:=hg
    obtain ⟨its,rv,p,hz⟩:=I.list hq
    obtain ⟨f0,f1,f2,f3,f4,f5⟩:=hf it (by simp)
    have hl:=rv.length
    exact wpAny_pyNext_list_end (I.ok.hd hc) st p.isList (by simp; omega) fun h' eb=>⟨rfl,I.turned (t':=s.toks) (fun b o hb e=>eb b o hb e) f0 f1 f3 f4 f5⟩
  self:=fun _ _ _ _ _ st h=>wpAny_pyIter_listiter st h
theorem Xn {P:Program} {w:World} {K:PySem.W.Frag} {tg:Expr} (a it:Addr):Turn P w K tg (Itt K a) [it] it (fun i h=>h.IsTupleIter it a i) where
  mem:=by simp
  obj:=fun i h st b hb=>by
    have e:b=it:=by simpa using hb
    subst e
    obtain ⟨o,e,c,d⟩:=st
    exact ⟨o,e,fun v z=>by rw [d] at z; cases z⟩
  keep:=fun i h h' st k=>st.at fun o e=>k it (by simp) o e
  item:=by
    intro X hP hw hK hc i pins s σ H E I hf st hg
    subst hP hw hK
    obtain ⟨xs,x,hq,hx⟩:=hg
    obtain ⟨its,rv,p,hz⟩:=I.tuple hq
    obtain ⟨u,hu,ru⟩:=rv.get hx
    obtain ⟨f0,f1,f2,f3,f4,f5⟩:=hf it (by simp)
    refine wpAny_pyNext_tuple_item st (show s.heap.IsTuple a its.toArray from p) (x:=u) (by simpa using hu) fun h' st' sb=>?_
    have I1:Inv X pins σ H { s with heap:=h' }:=I.turned (t':=s.toks) (fun b o hb e=>(sb.2 b hb).trans e) f0 f1 f3 f4 f5
    obtain ⟨o,e,c,d⟩:=id st'
    exact ⟨u,rfl,a6b (s:={ s with heap:=h' }) e c d (by decide) ⟨x,H,I1,ru,⟨rfl,fun ys hy=>by rw [I.Yk hy hq]; exact hx⟩,st',fun b hb=>(hf b hb).1⟩⟩
  done:=by
    intro X hP hw hK hc i pins s σ H E I hf st hg
    subst hP hw hK
    obtain ⟨xs,hq,hx⟩:=hg
    obtain ⟨its,rv,p,hz⟩:=I.tuple hq
    obtain ⟨f0,f1,f2,f3,f4,f5⟩:=hf it (by simp)
    have hl:=rv.length
    exact wpAny_pyNext_tuple_end (I.ok.hd hc) st (show s.heap.IsTuple a its.toArray from p) (by simp; omega) fun h' eb=>⟨rfl,I.turned (t':=s.toks) (fun b o hb e=>eb b o hb e) f0 f1 f3 f4 f5⟩
  self:=fun _ _ _ _ _ st h=>wpAny_pyIter_tupleiter st h
theorem Wz {P:Program} {w:World} {K:PySem.W.Frag} {tg:Expr} (it:Addr) (lo:Int) (n:Nat):Turn P w K tg (Itr lo n) [it] it (fun i h=>IsRangeIter h it (lo+(i:Nat) * 1) ((n:Int) - (i:Nat)) 1) where
  mem:=by simp
  obj:=fun i h st b hb=>by
    have e:b=it:=by simpa using hb
    subst e
    exact ⟨_,st,fun v z=>by
      have z':Data.fields _=Data.cell v:=z
      cases z'⟩
  keep:=fun i h h' st k=>k it (by simp) _ st
  item:=by
    intro X hP hw hK hc i pins s σ H E I hf st hg
    subst hP hw hK
    obtain ⟨f0,f1,f2,f3,f4,f5⟩:=hf it (by simp)
    have W:=Walks.range (prog:=X.prog) (w:=X.w) (I.ok.hd hc) it lo 1 n
    refine W.item i s _ _ hg st fun v h' tk hv st' kk=>?_
    obtain ⟨t,rfl⟩:=hv
    have I1:Inv X pins σ H { s with heap:=h',toks:=tk }:=I.turned (fun b o hb e=>kk b o (by simpa using hb) e) f0 f1 f3 f4 f5
    refine ⟨_,rfl,a6b (s:={ s with heap:=h',toks:=tk }) (n := "range_iterator") st' rfl rfl (by decide) ⟨.int (lo+i),H,I1,⟨t,?_⟩,⟨rfl,rfl⟩,st',fun b hb=>(hf b hb).1⟩⟩
    rw [Int.mul_one]
  done:=by
    intro X hP hw hK hc i pins s σ H E I hf st hg
    subst hP hw hK
    obtain ⟨f0,f1,f2,f3,f4,f5⟩:=hf it (by simp)
    exact wpAny_pyNext_range_end (I.ok.hd hc) st (by have:n≤i:=hg; omega) fun h' eb=>⟨rfl,I.turned (t':=s.toks) (fun b o hb e=>eb b o hb e) f0 f1 f3 f4 f5⟩
  self:=fun _ _ _ _ _ st h=>wpAny_pyIter_rangeiter st h
end L2
namespace L2
open PySem PySem.Spec PyProof.Rows
noncomputable section
variable {X:Cx} {tg:Expr}
theorem a1z {pins:List (Addr × Obj)} {σ:St} {H:Hp} {s:Shared} {R:It→Hp→Prop} {E:Value→Shared→Prop} {lo hi:Int} {t u v:Tok} {tk:Nat} (I:Inv X pins σ H s) (h1:-(2 ^ 62)≤lo) (h2:lo<2 ^ 62) (h3:-(2 ^ 62)≤hi) (h4:hi<2 ^ 62)
    (q:R (Itr lo (hi - lo).toNat) H):wpAny (model X.prog X.w) X.A (pyIter (.ref s.heap.objs.size)) (PIE X pins σ tg R) E { s with heap:=s.heap.push { cls:=.type "range",data:=.fields #[.int lo t,.int hi u,.int 1 v] },toks:=tk }:=by
  refine wpAny_pyIter_range (IsRange.new ..) (small_one h1 h2 h3 h4) ?_
  have I1:Inv X pins σ H { s with heap:=s.heap.push { cls:=.type "range",data:=.fields #[.int lo t,.int hi u,.int 1 v] },toks:=tk }:=I.kept fun b o e=>Heap.get?_push_of_some _ e
  refine ⟨(s.heap.push { cls:=.type "range",data:=.fields #[.int lo t,.int hi u,.int 1 v] }).objs.size,[(s.heap.push { cls:=.type "range",data:=.fields #[.int lo t,.int hi u,.int 1 v] }).objs.size],_,_,H,rfl,
    I1.kept (t':=tk) fun b o e=>Heap.get?_push_of_some _ e,Wz _ lo (hi - lo).toNat,?_,fun b hb=>?_,q⟩
  · have e1:lo+((0:Nat):Int) * 1=lo:=by simp
    have e2:(((hi - lo).toNat:Nat):Int) - ((0:Nat):Int)=Builtin.Range.rangeSize lo hi 1:=by rw [rangeSize_one]; split <;> omega
    show IsRangeIter _ _ (lo+((0:Nat):Int) * 1) ((((hi - lo).toNat:Nat):Int) - ((0:Nat):Int)) 1
    rw [e1,e2]
    exact Heap.get?_push_size _ rfl
  · have e:b=(s.heap.push { cls:=.type "range",data:=.fields #[.int lo t,.int hi u,.int 1 v] }).objs.size:=by simpa using hb
    subst e
    exact I1.a7z (Nat.le_refl _) (I1.hok.fresh (Nat.le_refl _))
noncomputable def aak (ta:TA):TI:=fun σ H R=>ta σ H fun vs H1=>∃ j:Int,vs=[.int j]∧-(2 ^ 62)≤j∧j<2 ^ 62∧R (Itr 0 j.toNat) H1
theorem a1d {a:Expr} {ta:TA} {p pos:Pos} (hg:Gl X "range") (hm:X.mg "range" = none) (ha:PA X [a] ta) (hs:starEach [a] X.env=[(false,eval a X.env)]:=by rfl):PI X tg (.Call (.Name "range" p) [a] [] pos) (aak ta):=by
  intro pins s σ H R I h
  refine Call_ (Nq I hg hm boot_range (PyProof.Rows.callWith_type1 (thn (ha pos pins s σ H _ I h) fun us s1 z0=>?_) hs rfl))
  obtain ⟨vs,H1,I1,r1,q1⟩:=z0
  obtain ⟨j,e,q1,q2,q⟩:=q1
  subst e
  cases r1 with
  | cons r rr =>
    cases rr
    obtain ⟨t,rfl⟩:=r
    exact call_range_1 (a1z I1 (by omega) (by omega) q1 q2 (by simpa using q))
noncomputable def acv (wi:TI) (g:TG) (tb:TS):TS:=fun D σ H=>wi σ H fun J H1=>∃ W:Nat→Nat→St→Hp→Prop,(∃ m,W 0 m σ H1)∧∀ i m σ H,W i m σ H →
  (J.stop i H∧D.nx σ H)∨(J.go i H∧∃ N:St→Hp→Prop,(∀ σ' H',N σ' H'→∃ m',m'<m∧W (i+1) m' σ' H')∧∀ x H',J.yld i H x H'→g x σ H' fun σ2 H2=>tb { D with nx:=N,ct:=N,bk:=D.nx } σ2 H2)
noncomputable def R9 (fp:List Addr) (h:Heap):List (Addr × Obj):=fp.filterMap fun b=>(h.get? b).map fun o=>(b,o)
theorem Es {fp:List Addr} {h:Heap} {b:Addr} {o:Obj} (hb:b∈fp) (e:h.get? b=some o):(b,o)∈R9 fp h:=List.mem_filterMap.mpr ⟨b,hb,by rw [e]; rfl⟩
theorem Zm {fp:List Addr} {h:Heap} {p:Addr × Obj} (hp:p∈R9 fp h):p.1∈fp∧h.get? p.1=some p.2:=by
  obtain ⟨b,hb,e⟩:=List.mem_filterMap.mp hp
  cases q:h.get? b with
  | none=>rw [q] at e; cases e
  | some o =>
    rw [q] at e
    have e':(b,o)=p:=Option.some.inj e
    subst e'
    exact ⟨hb,q⟩
theorem Inv.pinned {pins:List (Addr × Obj)} {σ:St} {H:Hp} {s:Shared} {fp:List Addr} (I:Inv X pins σ H s) (hf:∀ b∈fp,Rx X pins H b) (ho:∀ b∈fp,∃ o,s.heap.get? b=some o∧∀ v,o.data≠.cell v):Inv X (pins++R9 fp s.heap) σ H s :=
  I.Zg fun p hp=>(List.mem_append.mp hp).elim (fun z=>I.pin p (List.mem_append_right _ z)) fun z=>by
    obtain ⟨hb,e⟩:=Zm z
    obtain ⟨f0,f1,f2,_⟩:=hf p.1 hb
    obtain ⟨o,e',d⟩:=ho p.1 hb
    rw [e] at e'; cases e'
    exact ⟨e,f0,f1,f2,d⟩
theorem Inv.Il {pins pl:List (Addr × Obj)} {σ:St} {H:Hp} {s:Shared} (I:Inv X (pins++pl) σ H s):Inv X pins σ H s:=I.Zg fun p hp=>I.pin p (List.mem_append_right _ (List.mem_append_left _ hp))
theorem a94 {iter:Expr} {body:List Stmt} {wi:TI} {g:TG} {tb:TS} {pos:Pos} (hp:PassesOwn (model X.prog X.w) X.A X.env X.xe) (hc:X.calm=true) (hi:PI X tg iter wi) (hg:PG X tg g) (hb:PSs X body tb)
    (hs:∀ x,foldedSetIterable iter X.env x=pure x:=by intro _; rfl):PS X (.For tg iter body [] pos) (acv wi g tb):=by
  intro pins s σ H D I h
  refine wpAny_For (thn (hi pins s σ H _ I h) fun v s1 h1=>thn h1 fun itv s2 h2=>?_) hs
  obtain ⟨it,fp,tn,J,H2,e,I2,T,st2,f2,W,⟨m0,w0⟩,turn⟩:=h2
  subst e
  have stat:∀ {H':Hp},(∀ b∈fp,H' b=none)→∀ b∈fp,Rx X pins H' b:=fun hn b hb=>⟨hn b hb,(f2 b hb).2⟩
  refine codeAny_forLoop_any (fun n s'=>∃ i σ' H',Inv X pins σ' H' s'∧tn i s'.heap∧(∀ b∈fp,H' b=none)∧W i n σ' H') ?_ m0 ⟨0,σ,H2,I2,st2,fun b hb=>(f2 b hb).1,w0⟩
  rintro n s3 ⟨i,σ3,H3,I3,st3,fr3,w3⟩
  rcases turn i n σ3 H3 w3 with ⟨stop,qn⟩ | ⟨go,N,hN,step⟩
  · refine wpAny_passesOwn hp (thn (T.done X rfl rfl rfl hc i pins s3 σ3 H3 X.xe I3 (stat fr3) st3 stop) fun r s4 z0=>?_)
    obtain ⟨hr,I4⟩:=z0
    subst hr
    exact wpAny_execs_nil ⟨σ3,H3,I4,qn⟩
  · refine wpAny_passesOwn hp (thn (T.item X rfl rfl rfl hc i pins s3 σ3 H3 X.xe I3 (stat fr3) st3 go) fun r s4 z0=>?_)
    obtain ⟨u,hr,h4⟩:=z0
    subst hr
    refine wpAny_passesOwn hp (thn h4 fun _ s5 z0=>?_)
    obtain ⟨x,H5,I5,r5,y5,st5,fr5⟩:=z0
    have I5':=I5.pinned (stat fr5) (T.obj _ _ st5)
    refine wpAny_passesOwn hp (thn (hg _ s5 σ3 H5 x u _ I5' r5 (step x H5 y5)) fun _ s6 z0=>?_)
    obtain ⟨σ6,H6,I6,q6⟩:=z0
    refine wpAny_passesOwn hp (thn (hb _ s6 σ6 H6 _ I6 q6) fun f s7 q7=>?_)
    have again:∀ {σ7:St} {H7:Hp},Inv X (pins++R9 fp s5.heap) σ7 H7 s7→N σ7 H7→∃ m,m<n∧∃ i σ' H',Inv X pins σ' H' s7∧tn i s7.heap∧(∀ b∈fp,H' b=none)∧W i m σ' H':=fun {σ7 H7} I7 n7=>by
      obtain ⟨m',hm,w7⟩:=hN σ7 H7 n7
      refine ⟨m',hm,i+1,σ7,H7,I7.Il,T.keep _ _ _ st5 fun b hb o e=>(I7.pin (b,o) (List.mem_append_right _ (List.mem_append_right _ (Es hb e)))).1,fun b hb=>?_,w7⟩
      obtain ⟨o,e,d⟩:=T.obj _ _ st5 b hb
      exact (I7.pin (b,o) (List.mem_append_right _ (List.mem_append_right _ (Es hb e)))).2.1
    cases f with
    | next=>obtain ⟨σ7,H7,I7,n7⟩:=q7; exact again I7 n7
    | cont=>obtain ⟨σ7,H7,I7,n7⟩:=q7; exact again I7 n7
    | brk=>obtain ⟨σ7,H7,I7,q7⟩:=q7; exact ⟨σ7,H7,I7.Il,q7⟩
    | ret v=>obtain ⟨x7,σ7,H7,I7,r7,q7⟩:=q7; exact ⟨x7,σ7,H7,I7.Il,r7,q7⟩
end
end L2
namespace L2
open PySem PySem.Spec PyProof.Rows
noncomputable abbrev R2:=V→V→Hp→VK→Prop
noncomputable def OpR (X:Cx) (f:Value→Value→Sem Value) (r:R2):Prop :=
  ∀ (pins:List (Addr × Obj)) (s:Shared) (σ:St) (H:Hp) (x y:V) (v u:Value) (Q:VK),Inv X pins σ H s→Dc x v→Dc y u→r x y H Q →
    wpAny (model X.prog X.w) X.A (f v u) (EP X pins σ Q) X.xe s
noncomputable def UnR (X:Cx) (f:Value→Sem Value) (r:V→Hp→VK→Prop):Prop :=
  ∀ (pins:List (Addr × Obj)) (s:Shared) (σ:St) (H:Hp) (x:V) (v:Value) (Q:VK),Inv X pins σ H s→Dc x v→r x H Q →
    wpAny (model X.prog X.w) X.A (f v) (EP X pins σ Q) X.xe s
noncomputable def Hj (X:Cx) (f:Value) (r:List V→Hp→VK→Prop):Prop :=
  ∀ (pins:List (Addr × Obj)) (s:Shared) (σ:St) (H:Hp) (xs:List V) (us:List Value) (Q:VK),Inv X pins σ H s→yh xs us→r xs H Q →
    wpAny (model X.prog X.w) X.A (call f us) (EP X pins σ Q) X.xe s
noncomputable def tOp (r:R2) (ta tb:TE):TE:=fun σ H Q=>ta σ H fun x H1=>tb σ H1 fun y H2=>r x y H2 Q
noncomputable def tUn (r:V→Hp→VK→Prop) (ta:TE):TE:=fun σ H Q=>ta σ H fun x H1=>r x H1 Q
noncomputable def rI (C:Int→Int→Prop) (g:Int→Int→V):R2:=fun x y H Q=>∃ i j,x=.int i∧y=.int j∧C i j∧Q (g i j) H
noncomputable def rI0 (g:Int→Int→V):R2:=fun x y H Q=>∃ i j,x=.int i∧y=.int j∧Q (g i j) H
noncomputable def rU (g:Int→V):V→Hp→VK→Prop:=fun x H Q=>∃ i,x=.int i∧Q (g i) H
noncomputable section
variable {X:Cx} {a b c:Expr} {ta tb tc:TE} {pos:Pos}
theorem abj (ha:PE X a ta) (hb:PE X b tb) {pins:List (Addr × Obj)} {s:Shared} {σ:St} {H:Hp} {R:V→V→Hp→Prop} (I:Inv X pins σ H s)
    (h:ta σ H fun x H1=>tb σ H1 fun y H2=>R x y H2) {Q:Value→Shared→Prop} {f:Value→Value→Sem Value}
    (hf:∀ v u s2 x y H2,Inv X pins σ H2 s2→Dc x v→Dc y u→R x y H2→wpAny (model X.prog X.w) X.A (f v u) Q X.xe s2) :
    wpAny (model X.prog X.w) X.A (eval a X.env) (fun v s₁=>wpAny (model X.prog X.w) X.A (eval b X.env) (fun u s₂=>wpAny (model X.prog X.w) X.A (f v u) Q X.xe s₂) X.xe s₁) X.xe s:=by
  refine thn (ha pins s σ H _ I h) fun v s1 z0=>?_
  obtain ⟨x,H1,I1,r1,q1⟩:=z0
  refine thn (hb pins s1 σ H1 _ I1 q1) fun u s2 z0=>?_
  obtain ⟨y,H2,I2,r2,q2⟩:=z0
  exact hf v u s2 x y H2 I2 r1 r2 q2
theorem aaf {op:Operator} {r:R2} (ho:OpR X (binaryOp op) r) (ha:PE X a ta) (hb:PE X b tb):PE X (.BinOp a op b pos) (tOp r ta tb):=by
  intro pins s σ H Q I h
  exact wpAny_BinOp (abj ha hb I h fun v u s2 x y H2 I2 rx ry q=>ho pins s2 σ H2 x y v u Q I2 rx ry q)
theorem a9l {op:UnaryOp} {r:V→Hp→VK→Prop} (ho:UnR X (unaryOp op) r) (ha:PE X a ta):PE X (.UnaryOp op a pos) (tUn r ta):=by
  intro pins s σ H Q I h
  exact UnaryOp_ (thn (ha pins s σ H _ I h) fun v s1 z7=>by obtain ⟨x,H1,I1,r1,q1⟩:=z7; exact ho pins s1 σ H1 x v Q I1 r1 q1)
theorem opI {f:Value→Value→Sem Value} {C:Int→Int→Prop} {g:Int→Int→Int}
    (rule:∀ (i j:Int) (t u:Tok) (s:Shared) (Q:Value→Shared→Prop) (E:Value→Shared→Prop),C i j→Q (.int (g i j) s.toks) { s with toks:=s.toks+1 }→wpAny (model X.prog X.w) X.A (f (.int i t) (.int j u)) Q E s) :
    OpR X f (rI C fun i j=>.int (g i j)):=by
  intro pins s σ H x y v u Q I rx ry h
  obtain ⟨i,j,rfl,rfl,hc,q⟩:=h
  obtain ⟨t,rfl⟩:=rx
  obtain ⟨t',rfl⟩:=ry
  exact rule i j t t' s _ _ hc ⟨.int (g i j),H,I.tok _,⟨_,rfl⟩,q⟩
theorem abx {f:Value→Value→Sem Value} {g:Int→Int→Int}
    (rule:∀ (i j:Int) (t u:Tok) (s:Shared) (Q:Value→Shared→Prop) (E:Value→Shared→Prop),Q (.int (g i j) s.toks) { s with toks:=s.toks+1 }→wpAny (model X.prog X.w) X.A (f (.int i t) (.int j u)) Q E s) :
    OpR X f (rI0 fun i j=>.int (g i j)):=by
  intro pins s σ H x y v u Q I rx ry h
  obtain ⟨i,j,rfl,rfl,q⟩:=h
  obtain ⟨t,rfl⟩:=rx
  obtain ⟨t',rfl⟩:=ry
  exact rule i j t t' s _ _ ⟨.int (g i j),H,I.tok _,⟨_,rfl⟩,q⟩
theorem abn {f:Value→Value→Sem Value} {g:Int→Int→Bool}
    (rule:∀ (i j:Int) (t u:Tok) (s:Shared) (Q:Value→Shared→Prop) (E:Value→Shared→Prop),Q (.bool (g i j)) s→wpAny (model X.prog X.w) X.A (f (.int i t) (.int j u)) Q E s) :
    OpR X f (rI0 fun i j=>.bl (g i j)):=by
  intro pins s σ H x y v u Q I rx ry h
  obtain ⟨i,j,rfl,rfl,q⟩:=h
  obtain ⟨t,rfl⟩:=rx
  obtain ⟨t',rfl⟩:=ry
  exact rule i j t t' s _ _ ⟨.bl (g i j),H,I,rfl,q⟩
noncomputable def acg (i j:Int):Prop:=0≤j∧j≤1000000∧i.natAbs<2 ^ 64
noncomputable def abd (i j:Int):Prop:=(-(2 ^ 64)<i∧i<2 ^ 64)∨(-(2 ^ 64)<j∧j<2 ^ 64)
theorem abd.ok {i j:Int} (h:abd i j):IntMulOk i j:=by
  rcases h with ⟨h1,h2⟩ | ⟨h1,h2⟩
  · exact .of_left (intBits_le_64 h1 h2)
  · exact .of_right (intBits_le_64 h1 h2)
theorem a93:OpR X (binaryOp .Add) (rI0 fun i j=>.int (i+j)):=abx fun _ _ _ _ _ _ _ q=>add_int q
theorem a8a:OpR X (binaryOp .Sub) (rI0 fun i j=>.int (i - j)):=abx fun _ _ _ _ _ _ _ q=>sub_int q
theorem a88:OpR X (binaryOp .Mult) (rI abd fun i j=>.int (i * j)):=opI fun _ _ _ _ _ _ _ hc q=>mul_int q hc.ok
theorem a8e:OpR X (binaryOp .Mod) (rI (fun _ j=>0<j) fun i j=>.int (i%j)):=opI fun i j _ _ _ _ _ hc q=>by
  have h1:(0:Int)<j:=hc
  exact mod_int' (by omega) (by rw [Int.fmod_eq_emod_of_nonneg i (by omega)]; exact q)
theorem a9m:OpR X (binaryOp .Pow) (rI acg fun i j=>.int (i ^ j.toNat)):=opI fun _ _ _ _ _ _ _ hc q=>pow_int_small hc.1 hc.2.1 hc.2.2 q
theorem unI {f:Value→Sem Value} {g:Int→Int}
    (rule:∀ (i:Int) (t:Tok) (s:Shared) (Q:Value→Shared→Prop) (E:Value→Shared→Prop),Q (.int (g i) s.toks) { s with toks:=s.toks+1 }→wpAny (model X.prog X.w) X.A (f (.int i t)) Q E s) :
    UnR X f (rU fun i=>.int (g i)):=by
  intro pins s σ H x v Q I rx h
  obtain ⟨i,rfl,q⟩:=h
  obtain ⟨t,rfl⟩:=rx
  exact rule i t s _ _ ⟨.int (g i),H,I.tok _,⟨_,rfl⟩,q⟩
theorem a5l:UnR X (unaryOp .USub) (rU fun i=>.int (-i)):=unI fun _ _ _ _ _ q=>neg_int q
end
noncomputable section
variable {X:Cx} {a b c:Expr} {ta tb tc:TE} {pos:Pos}
theorem a8m {pins:List (Addr × Obj)} {σ:St} {H:Hp} {s:Shared} {Q:VK} {k k':Bool} (I:Inv X pins σ H s) (q:Q (.bl k) H) (e:k=k'):EP X pins σ Q (.bool k') s:=by
  subst e
  exact ⟨.bl k,H,I,rfl,q⟩
theorem abg:OpR X (compareOp .Lt) (rI0 fun i j=>.bl (decide (i<j))):=abn fun _ _ _ _ _ _ _ q=>lt_int q
theorem aag:OpR X (compareOp .LtE) (rI0 fun i j=>.bl (decide (i≤j))):=abn fun _ _ _ _ _ _ _ q=>le_int q
theorem aay:OpR X (compareOp .Gt) (rI0 fun i j=>.bl (decide (j<i))):=abn fun _ _ _ _ _ _ _ q=>gt_int q
theorem a6p:OpR X (compareOp .IsNot) (fun x y H Q=>y=.non∧Q (.bl (!decide (x=.non))) H):=by
  intro pins s σ H x y v u Q I rx ry h
  obtain ⟨rfl,q⟩:=h
  cases ry
  refine isnot_none_gen (a8m I q ?_)
  cases x <;> first
    | (cases rx; rfl)
    | (obtain ⟨t,rfl⟩:=rx; rfl)
theorem OpR.or {f:Value→Value→Sem Value} {r r':R2} (h:OpR X f r) (h':OpR X f r'):OpR X f (fun x y H Q=>r x y H Q∨r' x y H Q):=by
  intro pins s σ H x y v u Q I rx ry q
  rcases q with q | q
  · exact h pins s σ H x y v u Q I rx ry q
  · exact h' pins s σ H x y v u Q I rx ry q
theorem qw (b:Expr) {op:CmpOp} (h:op≠.In:=by decide) (h2:op≠.NotIn:=by decide):behindInMarks op b=false:=by
  have e1:(op==CmpOp.In)=false:=by cases op <;> first | rfl | exact absurd rfl h
  have e2:(op==CmpOp.NotIn)=false:=by cases op <;> first | rfl | exact absurd rfl h2
  cases b <;> simp [behindInMarks,e1,e2]
theorem a7b {op:CmpOp} {r:R2} (ho:OpR X (compareOp op) r) (ha:PE X a ta) (hb:PE X b tb) (hm:behindInMarks op b=false):PE X (.Compare a [op] [b] pos) (tOp r ta tb):=by
  intro pins s σ H Q I h
  exact wpAny_Compare1 (abj ha hb I h fun v u s2 x y H2 I2 rx ry q=>ho pins s2 σ H2 x y v u Q I2 rx ry q) hm
noncomputable def a90 (t:TE):TT:=fun σ H Q=>t σ H fun x H'=>∃ k,x=.bl k∧Q k H'
theorem a6o {op:CmpOp} {r:R2} (ho:OpR X (compareOp op) r) (ha:PE X a ta) (hb:PE X b tb) (hm:behindInMarks op b=false):PT X (.Compare a [op] [b] pos) (a90 (tOp r ta tb)):=by
  intro pins s σ H Q I h
  refine wpAny_isTrue_Compare1 (thn (ha pins s σ H _ I h) fun v s1 ⟨x,H1,I1,r1,q1⟩=>thn (hb pins s1 σ H1 _ I1 q1) fun u s2 ⟨y,H2,I2,r2,q2⟩ =>
    thn (ho pins s2 σ H2 x y v u _ I2 r1 r2 q2) fun c s3 ⟨z,H3,I3,r3,k,e,q3⟩=>?_) hm
  subst e
  cases r3
  exact wpAny_truthy_bool ⟨H3,I3,q3⟩
theorem Nh:(sizeLine:Nat)<2 ^ 63:=by rw [sizeLine_eq]; decide
theorem Wr:OpR X (binaryOp .Add) (fun x y H Q=>∃ i j,x=.str i∧y=.str j∧i.length+j.length≤sizeLine∧Q (.str (i++j)) H):=by
  intro pins s σ H x y v u Q I rx ry h
  obtain ⟨i,j,rfl,rfl,hz,q⟩:=h
  obtain ⟨t,rfl⟩:=rx
  obtain ⟨t',rfl⟩:=ry
  exact add_str (fun t' tk=>⟨.str (i++j),H,I.tok _,⟨_,rfl⟩,q⟩) hz
theorem a7w {x:V} {us:List Value} (r:yh [x] us):∃ u,us=[u]∧Dc x u:=by
  cases r with
  | cons r1 r2=>cases r2; exact ⟨_,rfl,r1⟩
end
end L2
namespace L2
open PySem PySem.Spec PyProof.Rows
structure ad4 (h:Heap) (x dx C:Addr) (mA:Str→Option Value):Prop where
  obj:h.get? x=some (PySem.W.instObj C dx)
  ns:h.Ns1 dx mA
  ne:dx≠x
noncomputable section
variable {prog:Program} {w:World} {A:Around} {E:Value→Shared→Prop} {s:Shared} {K:PySem.W.Frag} {x dx C f:Addr} {mA:Str→Option Value} {name:Str} {v:Value}
end
theorem Ry.some_of {v:V} {o:Option Value} (r:Ry (some v) o):∃ u,o=some u∧Dc v u:=by
  cases o with
  | none=>exact (show False from r).elim
  | some u=>exact ⟨u,rfl,r⟩
theorem Ry.none_of {o:Option Value} (r:Ry none o):o=none:=by
  cases o with
  | none=>rfl
  | some u=>exact (show False from r).elim
noncomputable section
variable {P:Program} {w:World} {H H':Hp} {h h':Heap} {a C dx:Addr} {fs fs':List (Str × V)}
end
structure Cls (K:PySem.W.Frag) (C:Addr):Prop where
  pg:PySem.W.plainGet K C Str.empty=true
  hd:PySem.W.hasDictIn K C=true
  po:PySem.W.plainOver K C=true
  sa:PySem.W.findIn K (.ref C) "__setattr__" = some (some (.builtin "object.__setattr__"))
theorem Cls.get {K:PySem.W.Frag} {C:Addr} (c:Cls K C) (f:Str):PySem.W.plainGet K C f=true:=c.pg
structure Con (K:PySem.W.Frag) (C:Addr) (f:Str) (v:V) (u:Value):Prop where
  at_:PySem.W.findIn K (.ref C) f=some (some u)
  rel:Dc v u
  get:PySem.W.specialIn K u "__get__" = some none
  cp:PySem.W.copiedNames.contains f=false
structure Meth (K:PySem.W.Frag) (C:Addr) (m:Str) (f:Addr):Prop where
  at_:PySem.W.findIn K (.ref C) m=some (some (.ref f))
  fn:PySem.W.isFn K (.ref f)=true
  kp:PySem.W.keepIn K (.ref f)=true
noncomputable section
variable {X:Cx} {pins:List (Addr × Obj)} {σ:St} {H:Hp} {s:Shared} {a C dx:Addr} {fs:List (Str × V)} {f:Str} {v:V} {A:Around} {E:Value→Shared→Prop}
end
noncomputable section
variable {X:Cx} {o e value:Expr} {f:Str} {pos pos' tpos:Pos} {ta tv:TE}
end
noncomputable section
variable {X:Cx} {pins:List (Addr × Obj)} {σ:St} {H:Hp} {s:Shared} {A:Around} {E:Value→Shared→Prop} {Q:Value→Shared→Prop} {c:Value} {b:Bool}
inductive a1g (K:PySem.W.Frag) (H:Hp):V→Value→Prop where
  | non:a1g K H .non (.type "NoneType")
  | bl (x:Bool):a1g K H (.bl x) (.type "bool")
  | int (i:Int):a1g K H (.int i) (.type "int")
  | str (x:Str):a1g K H (.str x) (.type "str")
  | flt (x:UInt64):a1g K H (.flt x) (.type "float")
  | lst {a:Addr} {xs:List V} (e:H a=some (.lst xs)):a1g K H (.ref a) (.type "list")
  | frz {a:Addr} {o:Obj} {xs:List V} (e:H a=some (.frz o (.lst xs))):a1g K H (.ref a) (.type "list")
  | tup {a:Addr} {xs:List V} (e:H a=some (.tup xs)):a1g K H (.ref a) (.type "tuple")
  | dK {a:Addr} {kvs:List (Key × V)} (e:H a=some (.dK kvs)):a1g K H (.ref a) (.type "dict")
  | dT {a:Addr} {kvs:List (List Key × V)} (e:H a=some (.dT kvs)):a1g K H (.ref a) (.type "dict")
  | ins {a C dx:Addr} {fs:List (Str × V)} (e:H a=some (.ins C dx fs)) (cl:Cls K C) (ha:PySem.W.findIn K (.ref C) "__class__" = some (some (.builtin "object.__class__")))
      (hn:PySem.W.specialIn K (.builtin "object.__class__") "__get__" = some (some (.builtin "getset_descriptor.__get__"))) (htk:PySem.W.takesIn K (.builtin "object.__class__")=some true)
      (hm:PySem.W.mroIn K C (.type "object")=some true):a1g K H (.ref a) (.ref C)
end
end L2
namespace L2
open PySem PySem.Spec PyProof.Rows
structure Jl (k:Nat) (A:Around):Prop where
  hd:A.handled=none
  dp:A.depth+3 * k+5<recursionLimit
  un:A.units+16 * k+200<cLine
theorem Jl.mono {j k:Nat} {A:Around} (r:Jl k A) (h:j≤k):Jl j A:=⟨r.hd,by have:=r.dp; omega,by have:=r.un; omega⟩
theorem Jl.deeper {k:Nat} {A:Around} (r:Jl (k+1) A) (env:Env):Jl k (A.deeper env) :=
  ⟨r.hd,by have:=r.dp; show A.depth+1+3 * k+5<_; omega,by have:=r.un; show A.units+3+16 * k+200<_; omega⟩
theorem Jl.in1 {k:Nat} {A:Around} (r:Jl (k+1) A):Jl k A.in1 :=
  ⟨r.hd,by have:=r.dp; show A.depth+3 * k+5<_; omega,by have:=r.un; show A.units+1+16 * k+200<_; omega⟩
theorem Jl.depth {k:Nat} {A:Around} (r:Jl k A):A.depth<recursionLimit:=by have:=r.dp; omega
theorem Jl.units {k:Nat} {A:Around} (r:Jl k A):A.units+64<cLine:=by have:=r.un; omega
noncomputable def a7y:TA:=fun _ H Q=>Q [] H
noncomputable def Ws (ta:TE) (tr:TA):TA:=fun σ H Q=>ta σ H fun x H1=>tr σ H1 fun xs H2=>Q (x::xs) H2
noncomputable section
variable {X:Cx} {e:Expr} {es:List Expr} {te:TE} {t:TA} {pos:Pos}
theorem Bd:PA X [] a7y:=fun _ _ _ _ H Q I h=>Calls.spliced_nil ⟨[],H,I,.nil,h⟩
theorem vp (ha:PE X e te) (hr:PA X es t) (hs:starEach (e::es) X.env=(false,eval e X.env)::starEach es X.env:=by rfl):PA X (e::es) (Ws te t):=by
  intro pos pins s σ H Q I h
  rw [hs]
  show wpAny _ _ (spliced ((false,eval e X.env)::backTo pos (starEach es X.env))) _ _ s
  refine Calls.spliced_cons (thn (ha pins s σ H _ I h) fun u s1 z0=>?_)
  obtain ⟨x,H1,I1,r1,q1⟩:=z0
  exact thn (hr pos pins s1 σ H1 _ I1 q1) fun us s2 ⟨xs,H2,I2,r2,q2⟩=>⟨x::xs,H2,I2,.cons r1 r2,q2⟩
noncomputable def acp (t:TA):TE:=fun σ H Q=>t σ H fun xs H1=>xs.length≤sizeLine∧∀ p,H1 p=none→Q (.ref p) (upd H1 p (.tup xs))
noncomputable def acd (t:TA):TE:=fun σ H Q=>t σ H fun xs H1=>xs.length≤sizeLine∧∀ p,H1 p=none→Q (.ref p) (upd H1 p (.lst xs))
theorem a8f {x1} (h:PA X es t):PE X (.Tuple es x1 pos) (acp t):=by
  intro pins s σ H Q I hq
  refine wpAny_Tuple_spliced (thn (h pos pins s σ H _ I hq) fun us s1 ⟨xs,H1,I1,r,z,q⟩=>⟨by rw [← r.length]; exact z,?_⟩)
  have hf:H1 s1.heap.objs.size=none:=I1.hok.fresh (Nat.le_refl _)
  refine ⟨.ref s1.heap.objs.size,upd H1 s1.heap.objs.size (.tup xs),I1.laid (t':=s1.toks) (fun b u e=>Heap.get?_push_of_some _ e) (Nat.le_refl _) ?_,rfl,q _ hf⟩
  exact ⟨z,us,r,⟨_,Heap.get?_push_size _ rfl,rfl,rfl,_,rfl⟩⟩
theorem a0y (h:PA X es t):PE X (.List es pos) (acd t):=by
  intro pins s σ H Q I hq
  refine wpAny_List_spliced (thn (h pos pins s σ H _ I hq) fun us s1 ⟨xs,H1,I1,r,z,q⟩=>⟨by rw [← r.length]; exact z,?_⟩)
  have hf:H1 s1.heap.objs.size=none:=I1.hok.fresh (Nat.le_refl _)
  refine ⟨.ref s1.heap.objs.size,upd H1 s1.heap.objs.size (.lst xs),I1.laid (t':=s1.toks) (fun b u e=>Heap.get?_push_of_some _ e) (Nat.le_refl _) ?_,rfl,q _ hf⟩
  exact ⟨z,us,0,r,Heap.get?_push_size _ rfl⟩
end
noncomputable abbrev Sp:=List V→Hp→VK→XK→Prop
noncomputable abbrev CXT:=List Env→Hp→Shared→XK→Value→Shared→Prop
structure a6n (P:Program) (w:World) (K:PySem.W.Frag) (mg:Str→Option Value) (base:Heap) (A:Around) (outer:List Env) (s:Shared) (H:Hp):Prop where
  frames:A.frames=some outer
  mod:Mod K mg base
  bs:∀ b o,base.get? b=some o→s.heap.get? b=some o∧H b=none
  bsz:base.objs.size≤s.heap.objs.size
  Xy:s.heap.FunFrames base outer
  frf:∀ b∈frs outer,H b=none
  hok:HOk P w H s.heap
  bare:AllBare s.gens
noncomputable def CE (outer:List Env) (P:Program) (w:World) (H:Hp) (s:Shared) (Q:VK) (u:Value) (s':Shared):Prop :=
  ∃ v H',s'.os=s.os∧AllBare s'.gens∧Un (frs outer) [] H H' s.heap s'.heap∧HOk P w H' s'.heap∧Dc v u∧Q v H'
noncomputable def CR (CX:CXT) (outer:List Env) (P:Program) (w:World) (H:Hp) (s:Shared) (Q:VK) (E:XK) (r:Result) (s':Shared):Prop :=
  match r with
  | .ok (.ret u)=>CE outer P w H s Q u s'
  | .ok _=>False
  | .error e=>CX outer H s E e s'
structure Dh (P:Program) (w:World) (K:PySem.W.Frag) (mg:Str→Option Value) (base:Heap) (CX:CXT) (k:Nat) (f:Addr) (fd:FuncData) (ps:List Str) (sp:Sp):Prop where
  len:∀ vs H Q E,sp vs H Q E→vs.length=ps.length
  run:∀ (A:Around) (outer:List Env) (s:Shared) (H:Hp) (args:Args) (us:List Value) (vs:List V) (Q:VK) (E:XK),Jl k A→a6n P w K mg base A outer s H→BindsTo s fd args (ps.zip us)→yh vs us→sp vs H Q E →
    codeAny (model P w) A (.call (.ref f) args) (CR CX outer P w H s Q E) s
theorem Dh.mono {P:Program} {w:World} {K:PySem.W.Frag} {mg:Str→Option Value} {base:Heap} {CX:CXT} {j k:Nat} {f:Addr} {fd:FuncData} {ps:List Str} {sp:Sp} (F:Dh P w K mg base CX j f fd ps sp) (h:j≤k) :
    Dh P w K mg base CX k f fd ps sp:=⟨F.len,fun A outer s H args us vs Q E hr=>F.run A outer s H args us vs Q E (hr.mono h)⟩
theorem Dh.imp {P:Program} {w:World} {K:PySem.W.Frag} {mg:Str→Option Value} {base:Heap} {CX:CXT} {k:Nat} {f:Addr} {fd:FuncData} {ps:List Str} {sp sp':Sp} (F:Dh P w K mg base CX k f fd ps sp)
    (h:∀ vs H Q E,sp' vs H Q E→sp vs H Q E):Dh P w K mg base CX k f fd ps sp' :=
  ⟨fun vs H Q E q=>F.len vs H Q E (h _ _ _ _ q),fun A outer s H args us vs Q E hr he hb hv hs=>F.run A outer s H args us vs Q E hr he hb hv (h _ _ _ _ hs)⟩
theorem a6n.in1 {P:Program} {w:World} {K:PySem.W.Frag} {mg:Str→Option Value} {base:Heap} {A:Around} {outer:List Env} {s:Shared} {H:Hp} (e:a6n P w K mg base A outer s H) :
    a6n P w K mg base A.in1 outer s H:=⟨e.frames,e.mod,e.bs,e.bsz,e.Xy,e.frf,e.hok,e.bare⟩
noncomputable section
variable {X:Cx} {pins:List (Addr × Obj)} {σ:St} {H:Hp} {s s':Shared}
theorem Inv.env0 (I:Inv X pins σ H s):a6n X.prog X.w X.K X.mg X.base X.A X.stack s H :=
  ⟨I.ok.frames,I.ok.mod,I.bs,Nat.le_trans I.ok.bsz I.sz,I.stack,I.Yc,I.hok,I.bare⟩
theorem Inv.after {Q:VK} {u:Value} (I:Inv X pins σ H s) (h:CE X.stack X.prog X.w H s Q u s'):EP X pins σ Q u s':=by
  obtain ⟨v,H',os,bare,un,hok,r,q⟩:=h
  obtain ⟨hh,g,d,t,os'⟩:=s'
  obtain rfl:os'=s.os:=os
  exact ⟨v,H',I.call (h':=hh) (g':=g) (d':=d) (t':=t) (ch:=[]) un hok bare (fun b z=>absurd z (by simp)),r,q⟩
end
noncomputable def aap (sp:Sp) (dvs:List V) (E:XK) (t:TA):TE:=fun σ H Q=>t σ H fun vs H1=>sp (vs++dvs) H1 Q E
noncomputable def Ph (K:PySem.W.Frag) (fd:FuncData) (ps:List Str) (ds:List Value):Prop :=
  ∀ (s:Shared) (us:List Value),K.In s.heap→(us++ds).length=ps.length→BindsTo s fd ⟨us,[]⟩ (ps.zip (us++ds))
theorem Ph.all {K:PySem.W.Frag} {fd:FuncData} {ps:List Str} (h:∀ us:List Value,us.length=ps.length→bindArgs fd ⟨us,[]⟩=pure (ps.zip us)):Ph K fd ps []:=fun s us _ hl=>by
  rw [List.append_nil] at hl ⊢
  exact .of_eq (h us hl)
noncomputable def a1m (CX:CXT) (X:Cx) (E:XK):Prop:=∀ (pins:List (Addr × Obj)) (σ:St) (H:Hp) (s:Shared) (e:Value) (s':Shared),Inv X pins σ H s→CX X.stack H s E e s'→X.xe e s'
noncomputable section
variable {X:Cx} {CX:CXT} {k:Nat} {f C:Addr} {fd:FuncData} {ps:List Str} {sp:Sp} {dvs:List V} {ds:List Value} {E:XK} {x m:Str} {p pos apos:Pos} {e o:Expr} {es:List Expr} {ta:TE} {t:TA}
theorem aa3 {pins:List (Addr × Obj)} {σ:St} {H:Hp} {s:Shared} {Q:VK} {us:List Value} {vs:List V} (F:Dh X.prog X.w X.K X.mg X.base CX k f fd ps sp) (hr:Jl k X.A) (hb:Ph X.K fd ps ds) (hd:yh dvs ds) (hx:a1m CX X E)
    (I:Inv X pins σ H s) (r:yh vs us) (h:sp (vs++dvs) H Q E):wpAny (model X.prog X.w) X.A (call (.ref f) us) (EP X pins σ Q) X.xe s:=by
  have r2:yh (vs++dvs) (us++ds):=r.append hd
  have hl:(us++ds).length=ps.length:=by rw [← r2.length]; exact F.len _ _ _ _ h
  refine wpAny_call (codeAny_mono (F.run X.A X.stack s H ⟨us,[]⟩ (us++ds) (vs++dvs) Q E hr I.env0 (hb s us I.kIn hl) r2 h) fun r s' hq=>?_)
  cases r with
  | error e=>exact hx pins σ H s e s' I hq
  | ok fl =>
    cases fl with
    | ret u=>exact I.after hq
    | next=>exact False.elim hq
    | brk=>exact False.elim hq
    | cont=>exact False.elim hq
theorem Yy (F:Dh X.prog X.w X.K X.mg X.base CX k f fd ps sp) (hr:Jl k X.A) (hg:Gl X x) (hm:X.mg x=some (.ref f)) (hk:PySem.W.keepIn X.K (.ref f)=true) (hb:Ph X.K fd ps ds) (hd:yh dvs ds) (hx:a1m CX X E)
    (ha:PA X (e::es) t) (hdb:(x==("__debug__" : Str))=false:=by decide) (he:starEach (e::es) X.env=(false,eval e X.env)::starEach es X.env:=by rfl) (hpl:(backTo pos (starEach es X.env)).any (·.1)=false:=by rfl) :
    PE X (.Call (.Name x p) (e::es) [] pos) (aap sp dvs E t):=by
  intro pins s σ H Q I h
  refine wpAny_Call_Name_kw (a7s I hg hm ?_ hdb)
  refine PySem.W.callWith_K (h₀:=X.base) I.ok.mod.kin hk (thn (ha pos pins s σ H _ I h) fun us s1 ⟨vs,H1,I1,r,q⟩=>⟨I1.kIn,?_⟩) he hpl
  exact aa3 F hr hb hd hx I1 r q
structure Mk (K:PySem.W.Frag) (C f:Addr):Prop where
  makes:PySem.W.makesIn K C=true
  init:PySem.W.findIn K (.ref C) "__init__" = some (some (.ref f))
  fn:PySem.W.isFn K (.ref f)=true
  kp:PySem.W.keepIn K (.ref C)=true
end
noncomputable section
variable {X:Cx} {CX:CXT} {k:Nat} {f C:Addr} {fd:FuncData} {ps ks:List Str} {sp:Sp} {E:XK} {x m:Str} {p pos apos kpos:Pos} {e o:Expr} {es:List Expr} {kws:List Keyword} {te ta:TE} {t tk:TA} {nm:Option Str}
structure ac3 (K:PySem.W.Frag) (fd:FuncData) (ps ks:List Str) (g:List Value→List Value→List Value) (gV:List V→List V→List V):Prop where
  to:∀ (s:Shared) (us ws:List Value),K.In s.heap→(g us ws).length=ps.length→BindsTo s fd ⟨us,ks.zip ws⟩ (ps.zip (g us ws))
  rel:∀ {vs:List V} {us:List Value} {zs:List V} {ws:List Value},yh vs us→yh zs ws→yh (gV vs zs) (g us ws)
variable {g:List Value→List Value→List Value} {gV:List V→List V→List V}
end
structure m6 (N P:List Str) (sc:Scope):Prop where
  kind:sc.kind=.function
  co:sc.isCoroutine=false
  gen:sc.isGenerator=false
  nd:N.Nodup
  pre:N.take P.length=P
  par:∀ x∈P,sc.names.lookup x=some .local∨sc.names.lookup x=some .cell
  nofree:∀ y∈sc.names,y.2≠.free
theorem Qt {kindOf:Str→Option NameKind} {x:Str}:∀ {binds:List (Str × Value)} {m:Str→Option Value},(∀ v,(x,v)∉binds)→bindL kindOf binds m x=m x
  | [],_,_=>rfl
  | (n,v)::r,m,h=>by
    unfold bindL
    rw [Qt fun w hw=>h w (List.mem_cons_of_mem _ hw)]
    split
    · have:x≠n:=by rintro rfl; exact h v List.mem_cons_self
      simp [this]
    · rfl
theorem Rr {kindOf:Str→Option NameKind} {x:Str}:∀ {binds:List (Str × Value)} {m:Str→Option Value},(∀ v,(x,v)∉binds)→bindC kindOf binds m x=m x
  | [],_,_=>rfl
  | (n,v)::r,m,h=>by
    unfold bindC
    rw [Rr fun w hw=>h w (List.mem_cons_of_mem _ hw)]
    split
    · rfl
    · have:x≠n:=by rintro rfl; exact h v List.mem_cons_self
      simp [this]
theorem Qc {kindOf:Str→Option NameKind} {x:Str} {v:Value}:∀ {P:List Str} {vs:List Value} {i:Nat} {m:Str→Option Value},P.Nodup→P[i]? = some x→vs[i]? = some v→kindOf x=some .local →
    bindL kindOf (P.zip vs) m x=some v
  | [],_,_,_,_,h,_,_=>by simp at h
  | _::_,[],_,_,_,_,h,_=>by simp at h
  | p::P,w::vs,0,m,nd,h1,h2,hk=>by
    simp at h1 h2; subst h1; subst h2
    show bindL kindOf ((p,w)::P.zip vs) m p=_
    unfold bindL
    rw [Qt fun v hv=>(List.nodup_cons.mp nd).1 (List.of_mem_zip hv).1,if_pos hk]
    simp
  | p::P,w::vs,i+1,m,nd,h1,h2,hk=>by
    show bindL kindOf ((p,w)::P.zip vs) m x=_
    unfold bindL
    exact Qc (i:=i) (List.nodup_cons.mp nd).2 (by simpa using h1) (by simpa using h2) hk
theorem Rm {kindOf:Str→Option NameKind} {x:Str} {v:Value}:∀ {P:List Str} {vs:List Value} {i:Nat} {m:Str→Option Value},P.Nodup→P[i]? = some x→vs[i]? = some v→kindOf x≠some .local →
    bindC kindOf (P.zip vs) m x=some v
  | [],_,_,_,_,h,_,_=>by simp at h
  | _::_,[],_,_,_,_,h,_=>by simp at h
  | p::P,w::vs,0,m,nd,h1,h2,hk=>by
    simp at h1 h2; subst h1; subst h2
    show bindC kindOf ((p,w)::P.zip vs) m p=_
    unfold bindC
    rw [Rr fun v hv=>(List.nodup_cons.mp nd).1 (List.of_mem_zip hv).1,if_neg hk]
    simp
  | p::P,w::vs,i+1,m,nd,h1,h2,hk=>by
    show bindC kindOf ((p,w)::P.zip vs) m x=_
    unfold bindC
    exact Rm (i:=i) (List.nodup_cons.mp nd).2 (by simpa using h1) (by simpa using h2) hk
noncomputable def start (N:List Str) (vs:List V):St:=vs.map some++List.replicate (N.length - vs.length) none
noncomputable def a5m (CX:CXT) (P:Program) (w:World) (K:PySem.W.Frag) (mg:Str→Option Value) (base:Heap) (N:List Str) (qual:Str) (scope:Scope) (f:Addr) (cd:Value) (A:Around) (outer:List Env) (s:Shared) (H:Hp) (E:XK):Cx where
  prog:=P
  w:=w
  K:=K
  mg:=mg
  base:=base
  A:=A.deeper (envOfC qual scope s.heap.objs.size f cd)
  N:=N
  s₀:=s
  H₀:=H
  env:=envOfC qual scope s.heap.objs.size f cd
  outer:=outer
  stack:=envOfC qual scope s.heap.objs.size f cd::outer
  ex:=[]
  calm:=true
  fn:=fun _=>true
  pn:=[]
  xe:=fun e s'=>wpAny (model P w) (A.deeper (envOfC qual scope s.heap.objs.size f cd)) (leaving (envOfC qual scope s.heap.objs.size f cd) e) (fun _ s''=>CX outer H s E e s'') (fun e' s''=>CX outer H s E e' s'') s'
theorem Vb {sc:Scope} {n:Nat} {x:Str} (h:sc.names.lookup x=some .cell):∃ c,(cellsFrom n sc.names []).lookup x=some c:=by
  have q:=PySem.W.cellsFrom_some sc.names n [] (.inl h)
  exact Option.isSome_iff_exists.mp q
theorem Zr {CX:CXT} {P:Program} {w:World} {K:PySem.W.Frag} {mg:Str→Option Value} {base:Heap} {N ps:List Str} {qual:Str} {scope:Scope} {f:Addr} {cd:Value} {A:Around} {outer:List Env} {s s1:Shared} {H:Hp} {E:XK} {us:List Value} {vs:List V}
    (S:m6 N ps scope) (hd:A.handled=none) (e0:a6n P w K mg base A outer s H) (hl:vs.length=ps.length) (r:yh vs us)
    (x:InCallC s s.heap.objs.size (bindL (envOfC qual scope s.heap.objs.size f cd).kindOf (ps.zip us) fun _=>none) (cellsFrom (s.heap.objs.size+1) scope.names []) (bindC (envOfC qual scope s.heap.objs.size f cd).kindOf (ps.zip us) fun _=>none) s1) :
    Inv (a5m CX P w K mg base N qual scope f cd A outer s H E) [] (start N vs) H s1:=by
  have hpl:ps.length≤N.length:=by have:=congrArg List.length S.pre; rw [List.length_take] at this; omega
  obtain ⟨h1,tk,rfl,hk⟩:=x.done
  have noA:∀ b:Addr,b∉(a5m CX P w K mg base N qual scope f cd A outer s H E).ex:=fun b z=>absurd (show b∈([]:List Addr) from z) (by simp)
  refine ⟨⟨e0.mod,S.kind,rfl,rfl,Nat.le_refl _,fun y z c h1 h2=>?_,fun y hy=>?_,fun y c _ h=>?_,fun _=>hd,Around.frames_deeper e0.frames,.inr ⟨rfl,rfl⟩,fun b z=>absurd z (noA b),e0.bs,e0.bsz,fun b _ _=>noA b,fun b z=>absurd z (noA b),e0.Xy,e0.frf⟩,
    rfl,e0.bare,Un.kept hk,⟨_,x.toInCall.ns,fun i y v h1 h2 h3=>?_⟩,fun y c h=>⟨_,x.cell y c h⟩,e0.hok.fresh (Nat.le_refl _),fun y c h=>?_,fun p hp=>absurd (show p∈([]:List (Addr × Obj)) from hp) (by simp),e0.hok.kept hk,?_⟩
  · exact name_of_addr x.apart (PySem.mem_of_lookup h1) (PySem.mem_of_lookup h2)
  · have hy:scope.names.lookup y=some .cell∨scope.names.lookup y=some .free:=hy
    rcases hy with hy | hy
    · exact Vb hy
    · exact absurd rfl (S.nofree _ (PySem.mem_of_lookup hy))
  · exact Nat.le_of_lt (x.above y c (PySem.mem_of_lookup h))
  · have hi:i<vs.length:=by
      unfold start at h2
      by_cases hi:i<vs.length
      · exact hi
      · rw [List.getElem?_append_right (by simpa using hi)] at h2
        rw [List.getElem?_replicate] at h2
        split at h2 <;> cases h2
    have ha:vs[i]? = some v:=by
      unfold start at h2
      rw [List.getElem?_append_left (by simpa using hi),List.getElem?_map] at h2
      cases e:vs[i]? with
      | none=>rw [e] at h2; cases h2
      | some a=>rw [e] at h2; cases h2; rfl
    obtain ⟨u,hu,rv⟩:=r.get ha
    have hp:ps[i]? = some y:=by
      rw [← S.pre,List.getElem?_take_of_lt (by omega)]; exact h1
    have ndP:ps.Nodup:=by rw [← S.pre]; exact S.nd.sublist (List.take_sublist _ _)
    refine ⟨u,rv,?_⟩
    rcases S.par y (List.mem_of_getElem? hp) with k | k
    · exact .inl ⟨k,Qc ndP hp hu k⟩
    · obtain ⟨c,e⟩:=Vb (n:=s.heap.objs.size+1) k
      refine .inr ⟨.inl k,c,e,?_⟩
      have q:=x.cell y c e
      rw [Rm ndP hp hu (by show scope.names.lookup y≠_; rw [k]; decide)] at q
      exact q
  · exact e0.hok.fresh (Nat.le_of_lt (x.above y c (PySem.mem_of_lookup h)))
  · unfold start
    show _=N.length
    rw [List.length_append,List.length_map,List.length_replicate]
    omega
theorem a1v {CX:CXT} {P:Program} {w:World} {K:PySem.W.Frag} {mg:Str→Option Value} {base:Heap} {k:Nat} {f:Addr} {name qual:Str} {params:Arguments} {body:List Stmt} {scope:Scope} {dV kV doc pm cdv ct oc:Value} {an od:Option Addr}
    {osl:Array (Option Value)} {N ps:List Str} {sp:Sp} (lk:K.lookup f=some ⟨oc,od,.func (PySem.W.fnOf name qual params body scope dV kV doc pm an cdv ct),osl⟩) (hcd:PySem.W.codeIn K cdv qual=true) (S:m6 N ps scope)
    (len:∀ vs H Q E,sp vs H Q E→vs.length=ps.length)
    (hbody:∀ (A:Around) (outer:List Env) (s:Shared) (H:Hp) (vs:List V) (Q:VK) (E:XK),Jl k (A.deeper (envOfC qual scope s.heap.objs.size f cdv))→sp vs H Q E →
      ∃ t,PSs (a5m CX P w K mg base N qual scope f cdv A outer s H E) body t∧t { nx:=fun _ H'=>Q .non H',rt:=Q } (start N vs) H) :
    Dh P w K mg base CX (k+1) f (PySem.W.fnOf name qual params body scope dV kV doc pm an cdv ct) ps sp:=by
  refine ⟨len,fun A outer s H args us vs Q E hr e0 hb r hsp=>?_⟩
  have hl:=len _ _ _ _ hsp
  have KX:K.In s.heap:=e0.mod.kin.keeps fun b o e=>(e0.bs b o e).1
  have lim:s.heap.NoLimit:=e0.mod.nolimit.keeps fun b o e=>(e0.bs b o e).1
  have hkind:∀ y∈ps.zip us,scope.names.lookup y.1=some .local∨(scope.names.lookup y.1=some .cell∧((cellsFrom (s.heap.objs.size+1) scope.names []).lookup y.1).isSome=true):=fun ⟨n,v⟩ hy=>by
    rcases S.par n (List.of_mem_zip hy).1 with q | q
    · exact .inl q
    · exact .inr ⟨q,PySem.W.cellsFrom_some _ _ _ (.inl q)⟩
  refine codeAny_call_function hr.depth (KX _ _ lk) rfl S.co S.gen rfl (PySem.W.codeRec_of KX hcd) (hb _ _ _ _ ?_)
  refine wpAny_newFunctionEnv_cells S.kind hkind fun env he s1 x=>?_
  subst he
  refine ⟨lim.keeps x.toInCall.keep,codeAny_func ?_⟩
  obtain ⟨t,ht,hq⟩:=hbody A outer s H vs Q E (hr.deeper _) hsp
  have I:Inv (a5m CX P w K mg base N qual scope f cdv A outer s H E) [] (start N vs) H s1:=Zr S hr.hd e0 hl r x
  refine wpAny_mono (ht [] s1 (start N vs) H _ I hq) (fun fl s' hs=>?_) fun e s' hs=>hs
  have fin:∀ {σ':St} {H':Hp} {v:V} {u:Value},Inv (a5m CX P w K mg base N qual scope f cdv A outer s H E) [] σ' H' s'→Dc v u→Q v H'→CE outer P w H s Q u s' :=
    fun {σ' H' v u} J rv q=>⟨v,H',J.os,J.bare,J.base,J.hok,rv,q⟩
  cases fl with
  | ret u =>
    obtain ⟨v,σ',H',J,rv,q⟩:=hs
    exact fin J rv q
  | next =>
    obtain ⟨σ',H',J,q⟩:=hs
    exact fin (v:=V.non) (u:=Value.none) J rfl q
  | brk =>
    obtain ⟨_,_,_,q⟩:=hs
    exact False.elim q
  | cont =>
    obtain ⟨_,_,_,q⟩:=hs
    exact False.elim q
end L2
namespace L2
open PySem PySem.Spec PyProof.Rows
noncomputable section
variable {X:Cx} {x:Str} {p pos:Pos} {e:Expr} {es:List Expr} {t:TA} {id T:String} {r:List V→Hp→VK→Prop}
noncomputable def tCB (r:List V→Hp→VK→Prop) (t:TA):TE:=fun σ H Q=>t σ H fun vs H1=>r vs H1 Q
theorem Ca (hc:Hj X (.builtin id) r) (hg:Gl X x) (hm:X.mg x=none) (hv:bootBuiltins x=some (.builtin id)) (ha:PA X (e::es) t) (hn:x ≠ "__name__" := by decide) (hdb:(x==("__debug__" : Str))=false:=by decide)
    (he:starEach (e::es) X.env=(false,eval e X.env)::starEach es X.env:=by rfl) (hpl:(backTo pos (starEach es X.env)).any (·.1)=false:=by rfl):PE X (.Call (.Name x p) (e::es) [] pos) (tCB r t):=by
  intro pins s σ H Q I h
  refine wpAny_Call_Name_kw (Nq I hg hm hv ?_ hn hdb)
  exact PyProof.Rows.callWith_builtin1 (thn (ha pos pins s σ H _ I h) fun us s1 z7=>by obtain ⟨vs,H1,I1,r1,q1⟩:=z7; exact hc pins s1 σ H1 vs us Q I1 r1 q1) he hpl
theorem Av (hc:Hj X (.type T) r) (hg:Gl X x) (hm:X.mg x=none) (hv:bootBuiltins x=some (.type T)) (ha:PA X (e::es) t) (hn:x ≠ "__name__" := by decide) (hdb:(x==("__debug__" : Str))=false:=by decide)
    (he:starEach (e::es) X.env=(false,eval e X.env)::starEach es X.env:=by rfl) (hpl:(backTo pos (starEach es X.env)).any (·.1)=false:=by rfl):PE X (.Call (.Name x p) (e::es) [] pos) (tCB r t):=by
  intro pins s σ H Q I h
  refine wpAny_Call_Name_kw (Nq I hg hm hv ?_ hn hdb)
  exact PyProof.Rows.callWith_type1 (thn (ha pos pins s σ H _ I h) fun us s1 z7=>by obtain ⟨vs,H1,I1,r1,q1⟩:=z7; exact hc pins s1 σ H1 vs us Q I1 r1 q1) he hpl
end
end L2
end
noncomputable section
set_option linter.all false
set_option maxRecDepth 100000
namespace HT
open PySem PyProof.Rows
noncomputable section
open PySem.SeqAt
open PySem.AutoSeq1 (wpAny_loadPart')
open PySem.MeetsSeq PySem.MeetsSeq2 PySem.MeetsSeq3
end
noncomputable section
variable {prog:Program} {w:World} {A:Around} {E:Value→Shared→Prop} {s:Shared}
theorem a71 {t b:Addr} {vs ws:List Value} {Q:Value→Shared→Prop} (ht:IsTup s.heap t vs.toArray) (hb:IsTup s.heap b ws.toArray) (hv:vs≠[])
    (h1:ws=[]→Q (.ref t) s) (h2:ws≠[]→Q (.ref s.heap.objs.size) { s with heap:=s.heap.push { cls:=.type "tuple",data:=.seq (vs++ws).toArray } })
    (hsz:vs.length+ws.length≤sizeLine):wpAny (model prog w) A (binaryOp .Add (.ref t) (.ref b)) Q E s:=by
  obtain ⟨⟨cls,dd,data,sl⟩,ho,hc,n,hd⟩:=id ht
  obtain ⟨⟨cls2,dd2,data2,sl2⟩,ho2,hc2,n2,hd2⟩:=id hb
  simp only at hc hd hc2 hd2
  subst hc hd hc2 hd2
  have e:vs.toArray++ws.toArray=(vs++ws).toArray:=by simp
  by_cases hw:ws=[]
  · exact concat_meets ⟨_,ho,rfl⟩ ⟨_,ho2,rfl⟩ noFill_tuple_add seq_tuple_add PySem.F.slot_tuple_add PySem.F.entry_tuple_add (PySem.F.args_tuple_add_2 _ _)
      (tuple_addW1 t b vs.toArray ws.toArray n n2 dd dd2 sl sl2 (by simpa using hv) (by simp [hw])) ⟨ho,ho2,h1 hw⟩
  · refine concat_meets ⟨_,ho,rfl⟩ ⟨_,ho2,rfl⟩ noFill_tuple_add seq_tuple_add PySem.F.slot_tuple_add PySem.F.entry_tuple_add (PySem.F.args_tuple_add_2 _ _)
      (tuple_addW2 t b vs.toArray ws.toArray n n2 dd dd2 sl sl2 (by simpa using hv) (by simpa using hw) (by rw [List.size_toArray,List.size_toArray]; exact hsz)) ⟨ho,ho2,?_⟩
    rw [e]
    exact h2 hw
noncomputable def sIx (n d:Nat):Option Int→Nat
  | none=>d
  | some v=>if v<0 then (v+(n:Int)).toNat else min v.toNat n
theorem a8x (n d:Nat) (hd:d≤n) (o:Option Int):sIx n d o≤n:=by
  cases o with
  | none=>exact hd
  | some v =>
    show (if v<0 then (v+(n:Int)).toNat else min v.toNat n)≤n
    by_cases hv:v<0
    · rw [if_pos hv]; omega
    · rw [if_neg hv]; exact Nat.min_le_right _ _
theorem Yp (v:Int) (n d:Nat):(if v<0 then max (v+(n:Int)) 0 else min v (n:Int))=((sIx n d (some v):Nat):Int):=by
  show (if v<0 then max (v+(n:Int)) 0 else min v (n:Int))=(((if v<0 then (v+(n:Int)).toNat else min v.toNat n):Nat):Int)
  by_cases hv:v<0
  · simp only [if_pos hv]; omega
  · simp only [if_neg hv]; omega
theorem Wt (lo hi:Option Int) (n:Nat):Builtin.Slice.sliceAdjust lo hi 1 (n:Int)=(((sIx n 0 lo:Nat):Int),((sIx n n hi:Nat):Int)):=by
  have h1:¬ ((1:Int)<0):=by omega
  unfold Builtin.Slice.sliceAdjust
  simp only [h1,if_false]
  refine Prod.ext ?_ ?_
  · cases lo with
    | none=>rfl
    | some v=>exact Yp v n 0
  · cases hi with
    | none=>rfl
    | some v=>exact Yp v n n
theorem Xe (i j:Nat):Builtin.Slice.slicePlaces (i:Int) (j:Int) 1=j - i:=by
  unfold Builtin.Slice.slicePlaces
  have h1:(1:Int) > 0:=by omega
  simp only [h1,if_true,Int.ediv_one]
  split <;> omega
theorem Eu {v:Value} {o:Option Int} {Q:Option Int→Shared→Prop} (p:IsPart v o) (h:Q o s):wpAny (model prog w) A (Builtin.Slice.slicePartIndex v) Q E s:=by
  cases p with
  | none=>exact slicePart_none h
  | int i t=>exact slicePart_int h
theorem Jz {sl:Addr} {vl vu:Value} {lo hi:Option Int} {n:Nat} {Q:Int × Int × Nat→Shared→Prop} (hs:s.heap.IsSliceOf sl vl vu .none) (pl:IsPart vl lo) (pu:IsPart vu hi)
    (h:Q (((sIx n 0 lo:Nat):Int),1,sIx n n hi - sIx n 0 lo) s):wpAny (model prog w) A (Builtin.Slice.sliceApplied (.ref sl) (pure (n:Int))) Q E s:=by
  obtain ⟨os,hos,hcs,hds⟩:=id hs
  unfold Builtin.Slice.sliceApplied Builtin.Slice.sliceFields
  refine wpAny_bind (wpAny_bind (wpAny_field hos hds (x:=vl) rfl (wpAny_bind (wpAny_field hos hds (x:=vu) rfl (wpAny_bind (wpAny_field hos hds (x:=.none) rfl (wpAny_pure ?_)))))))
  refine wpAny_bind (slicePart_none ?_)
  show wpAny _ _ (if ((1:Int)==0)=true then _ else _) _ _ s
  rw [if_neg (by decide)]
  refine wpAny_bind (Eu pl (wpAny_bind (Eu pu (wpAny_bind (wpAny_pure ?_)))))
  show wpAny _ _ (match Builtin.Slice.sliceAdjust lo hi 1 (n:Int) with | (lo,hi)=>pure (lo,(1:Int),Builtin.Slice.slicePlaces lo hi 1)) _ _ s
  rw [Wt lo hi n]
  show wpAny _ _ (pure (((sIx n 0 lo:Nat):Int),(1:Int),Builtin.Slice.slicePlaces ((sIx n 0 lo:Nat):Int) ((sIx n n hi:Nat):Int) 1)) _ _ s
  rw [Xe]
  exact wpAny_pure h
theorem a3s (xs:Array Value) (i k:Nat):((List.range k).filterMap fun (m:Nat)=>xs[((i:Int)+(m:Int) * 1).toNat]?).toArray=((xs.toList.drop i).take k).toArray:=by
  have e:(fun (m:Nat)=>xs[((i:Int)+(m:Int) * 1).toNat]?)=fun m=>xs[i+m]?:=by
    funext m
    have:((i:Int)+(m:Int) * 1).toNat=i+m:=by omega
    rw [this]
  rw [e]
  have:=pick_run xs i k
  rw [List.filterMap_map] at this
  have e2:((fun x=>xs[x]?) ∘ fun x=>i+x)=fun m=>xs[i+m]?:=rfl
  rw [e2] at this
  rw [this]
theorem J7 {t sl:Addr} {items:Array Value} {vl vu:Value} {lo hi:Option Int} {Q:Value→Shared→Prop} (ht:IsTup s.heap t items) (hs:s.heap.IsSliceOf sl vl vu .none) (pl:IsPart vl lo) (pu:IsPart vu hi)
    (hw:¬ (sIx items.size 0 lo=0∧sIx items.size items.size hi=items.size))
    (h:Q (.ref s.heap.objs.size) { s with heap:=s.heap.push { cls:=.type "tuple",data:=.seq ((items.toList.drop (sIx items.size 0 lo)).take (sIx items.size items.size hi - sIx items.size 0 lo)).toArray } })
    (hsz:items.size≤sizeLine):wpAny (model prog w) A (getItem (.ref t) (.ref sl)) Q E s:=by
  have htake:sizeOk (.seq ((items.toList.drop (sIx items.size 0 lo)).take (sIx items.size items.size hi - sIx items.size 0 lo)).toArray):=by
    show ((items.toList.drop (sIx items.size 0 lo)).take (sIx items.size items.size hi - sIx items.size 0 lo)).toArray.size≤sizeLine
    rw [List.size_toArray,List.length_take,List.length_drop,Array.length_toList]
    omega
  have hj:sIx items.size items.size hi≤items.size:=a8x _ _ (Nat.le_refl _) hi
  obtain ⟨os,hos,hcs,hds⟩:=id hs
  have hTs:s.TypeIs (.ref sl) "slice" := ⟨os,hos,hcs⟩
  unfold getItem
  try with_reducible refine wpAny_holding ?_
  first | refine wpAny_bind (wpAny_pure ?_) | skip
  refine wpAny_bind (wpAny_sequenceKey ht.typeIs (by decide) ?_)
  refine wpAny_bind (wpAny_callSpecial?_slot (name:=Str.ofString "__getitem__") ht.typeIs PyProof.Rows.slot_tuple_getitem
    (wpAny_call_entry PyProof.Rows.slot_tuple_getitem ht.typeIs entry_tuple_getitem ?_ (args_tuple_getitem _ _)))
  show wpAny _ _ (Builtin.Tuple.tupleItemsOf (.ref t) >>= _) _ _ s
  refine wpAny_bind (tupleItemsOf_ ht ?_)
  refine wpAny_bind (wpAny_typeOf hTs ?_)
  rw [if_pos (by decide)]
  refine wpAny_bind (Jz hs pl pu ?_)
  have hno:¬ ((((sIx items.size 0 lo:Nat):Int)==0&&(1:Int)==1&&(sIx items.size items.size hi - sIx items.size 0 lo)==items.size)=true):=by
    intro q
    rw [Bool.and_eq_true,Bool.and_eq_true] at q
    have q1:((sIx items.size 0 lo:Nat):Int)=0:=eq_of_beq q.1.1
    have q2:sIx items.size items.size hi - sIx items.size 0 lo=items.size:=eq_of_beq q.2
    exact hw ⟨by omega,by omega⟩
  show wpAny _ _ (if (((sIx items.size 0 lo:Nat):Int)==0&&(1:Int)==1&&(sIx items.size items.size hi - sIx items.size 0 lo)==items.size)=true then _ else _) _ _ s
  rw [if_neg hno,a3s]
  first
    | exact wpAny_bind (m:=Builtin.Tuple.tupleExact _) (wpAny_newObj_type (wpAny_pure ⟨_,rfl,wpAny_pure h⟩) htake)
    | exact wpAny_bind (m:=Builtin.Tuple.tupleExact _) (wpAny_newObj_type (wpAny_bind (wpAny_pure (wpAny_pure ⟨_,rfl,wpAny_pure h⟩))) htake)
    | exact wpAny_bind (wpAny_bind (m:=Builtin.Tuple.tupleExact _) (wpAny_newObj_type (wpAny_pure (wpAny_pure ⟨_,rfl,wpAny_pure h⟩)) htake))
    | exact wpAny_bind (wpAny_bind (m:=Builtin.Tuple.tupleExact _) (wpAny_newObj_type (wpAny_pure ⟨_,rfl,wpAny_pure h⟩) htake))
end
end HT
namespace L2
open PySem PySem.Spec PyProof.Rows
noncomputable abbrev TO:=St→Hp→(Option Int→Hp→Prop)→Prop
noncomputable def PO (X:Cx) (e:Option Expr) (t:TO):Prop :=
  ∀ (pins:List (Addr × Obj)) (s:Shared) (σ:St) (H:Hp) (Q:Option Int→Hp→Prop),Inv X pins σ H s→t σ H Q →
    wpAny (model X.prog X.w) X.A (evalPart e X.env) (fun u s'=>∃ o H',Inv X pins σ H' s'∧IsPart u o∧Q o H') X.xe s
noncomputable def aas (t:TE):TO:=fun σ H Q=>t σ H fun x H1=>∃ i,x=.int i∧Q (some i) H1
noncomputable section
variable {X:Cx} {e:Expr} {te:TE} {lo hi:Option Expr} {tl th:TO} {pos p2:Pos}
theorem a70 (h:PE X e te):PO X (some e) (aas te):=by
  intro pins s σ H Q I hw
  rw [evalPart_some]
  refine thn (h pins s σ H _ I hw) fun u s1 z0=>?_
  obtain ⟨x,H1,I1,r1,q1⟩:=z0
  obtain ⟨i,rfl,q⟩:=q1
  obtain ⟨t,rfl⟩:=r1
  exact ⟨some i,H1,I1,.int i t,q⟩
noncomputable def SlR (X:Cx) (r:V→Option Int→Option Int→Hp→VK→Prop):Prop :=
  ∀ (pins:List (Addr × Obj)) (s:Shared) (σ:St) (H:Hp) (x:V) (v vl vu:Value) (lo hi:Option Int) (sl:Addr) (Q:VK),Inv X pins σ H s→Dc x v→s.heap.IsSliceOf sl vl vu .none→IsPart vl lo→IsPart vu hi→r x lo hi H Q →
    ∃ T id,typeLookup (.type T) "__getitem__" = pure (some (.builtin id))∧s.TypeIs v T∧wpAny (model X.prog X.w) X.A (getItem v (.ref sl)) (EP X pins σ Q) X.xe s
theorem SlR.or {r r':V→Option Int→Option Int→Hp→VK→Prop} (h:SlR X r) (h':SlR X r'):SlR X (fun x lo hi H Q=>r x lo hi H Q∨r' x lo hi H Q):=by
  intro pins s σ H x v vl vu lo hi sl Q I rx hs pl pu q
  rcases q with q | q
  · exact h pins s σ H x v vl vu lo hi sl Q I rx hs pl pu q
  · exact h' pins s σ H x v vl vu lo hi sl Q I rx hs pl pu q
noncomputable def tSl (r:V→Option Int→Option Int→Hp→VK→Prop) (te:TE) (tl th:TO):TE:=fun σ H Q=>te σ H fun x H1=>tl σ H1 fun l H2=>th σ H2 fun u H3=>r x l u H3 Q
theorem a3k {r:V→Option Int→Option Int→Hp→VK→Prop} (hr:SlR X r) (he:PE X e te) (hl:PO X lo tl) (hu:PO X hi th):PE X (.Subscript e (.Slice lo hi none p2) pos) (tSl r te tl th):=by
  intro pins s σ H Q I h
  refine Subscript_ (thn (he pins s σ H _ I h) fun v s1 z0=>?_)
  obtain ⟨x,H1,I1,r1,q1⟩:=z0
  refine wpAny_Slice (thn (hl pins s1 σ H1 _ I1 q1) fun vl s2 ⟨l,H2,I2,pl,q2⟩=>thn (hu pins s2 σ H2 _ I2 q2) fun vu s3 ⟨u,H3,I3,pu,q3⟩=>?_)
  rw [evalPart_none]
  refine wpAny_pure ?_
  have I4:Inv X pins σ H3 { s3 with heap:=s3.heap.push { cls:=.type "slice",data:=.fields #[vl,vu,.none] } }:=I3.kept (t':=s3.toks) fun b ob q=>Heap.get?_push_of_some _ q
  obtain ⟨T,id,hT,ht,hg⟩:=hr pins { s3 with heap:=s3.heap.push { cls:=.type "slice",data:=.fields #[vl,vu,.none] } } σ H3 x v vl vu l u s3.heap.objs.size Q I4 r1 (Heap.IsSliceOf.new ..) pl pu q3
  show wpAny (model X.prog X.w) X.A (subscriptTail e (.Slice lo hi none p2) v (.ref s3.heap.objs.size)) (EP X pins σ Q) X.xe { s3 with heap:=s3.heap.push { cls:=.type "slice",data:=.fields #[vl,vu,.none] } }
  exact tail_any (ops:=[.ref s3.heap.objs.size,v]) ht hT hg (by with_unfolding_all rfl)
noncomputable def a1p (xs:List V) (lo hi:Option Int):List V:=(xs.drop (HT.sIx xs.length 0 lo)).take (HT.sIx xs.length xs.length hi - HT.sIx xs.length 0 lo)
theorem Kq (xs:List V) (lo hi:Option Int):(a1p xs lo hi).length≤xs.length:=by
  unfold a1p
  rw [List.length_take,List.length_drop]
  omega
noncomputable def acs (K:PySem.W.Frag):V→Option Int→Option Int→Hp→VK→Prop:=fun x lo hi H Q=>∃ a xs,x=.ref a∧SqT K H a xs ∧
  ¬ (HT.sIx xs.length 0 lo=0∧HT.sIx xs.length xs.length hi=xs.length)∧∀ p,H p=none→Q (.ref p) (upd H p (.tup (a1p xs lo hi)))
theorem a8o:SlR X (acs X.K):=by
  intro pins s σ H x v vl vu lo hi sl Q I rx hs pl pu h
  obtain ⟨a,xs,rfl,hx,hw,q⟩:=h
  cases rx
  obtain ⟨its,r,ht,hz⟩:=I.tuple hx
  have hlen:its.toArray.size=xs.length:=by rw [List.size_toArray]; exact r.length.symm
  refine ⟨"tuple",_,PyProof.Rows.slot_tuple_getitem.lookup,ht.typeIs,?_⟩
  refine HT.J7 ht hs pl pu (by rw [hlen]; exact hw) ?_ (by rw [hlen]; exact hz)
  rw [hlen]
  refine ⟨.ref s.heap.objs.size,_,I.laid (t':=s.toks) (o:=.tup (a1p xs lo hi)) (fun b ob q=>Heap.get?_push_of_some _ q) (Nat.le_refl _) ?_,rfl,q _ (I.hok.fresh (Nat.le_refl _))⟩
  exact ⟨Nat.le_trans (Kq xs lo hi) hz,_,(r.drop (HT.sIx xs.length 0 lo)).take (HT.sIx xs.length xs.length hi - HT.sIx xs.length 0 lo),a1o.new _ _⟩
noncomputable def aau (K:PySem.W.Frag):R2:=fun x y H Q=>∃ a b xs ys,x=.ref a∧y=.ref b∧SqT K H a xs∧SqT K H b ys∧xs≠[]∧xs.length+ys.length≤sizeLine ∧
  (ys=[]→Q (.ref a) H)∧(ys≠[]→∀ p,H p=none→Q (.ref p) (upd H p (.tup (xs++ys))))
theorem yh.Um {xs:List V} {us:List Value} (r:yh xs us):us=[]↔xs=[]:=by
  cases r with
  | nil=>simp
  | cons _ _=>simp
theorem a6m:OpR X (binaryOp .Add) (aau X.K):=by
  intro pins s σ H x y v u Q I rx ry h
  obtain ⟨a,b,xs,ys,rfl,rfl,ha,hb,hx,hz,q1,q2⟩:=h
  cases rx
  cases ry
  obtain ⟨its,r1,p1,_⟩:=I.tuple ha
  obtain ⟨its2,r2,p2,_⟩:=I.tuple hb
  refine HT.a71 p1 p2 (fun z=>hx (r1.Um.mp z)) (fun z=>⟨.ref a,H,I,rfl,q1 (r2.Um.mp z)⟩) (fun z=>?_) (by rw [← r1.length,← r2.length]; exact hz)
  refine ⟨.ref s.heap.objs.size,_,I.laid (t':=s.toks) (o:=.tup (xs++ys)) (fun b ob q=>Heap.get?_push_of_some _ q) (Nat.le_refl _) ?_,rfl,q2 (fun w=>z (r2.Um.mpr w)) _ (I.hok.fresh (Nat.le_refl _))⟩
  exact ⟨by rw [List.length_append]; exact hz,_,r1.append r2,a1o.new _ _⟩
end
end L2
namespace L2
open PySem PySem.Spec PyProof.Rows
noncomputable def ixN (n:Nat) (i:Int):Option Nat:=if 0≤i then (if i<n then some i.toNat else none) else if -(n:Int)≤i then some (i+n).toNat else none
noncomputable def atI {α:Type} (xs:List α) (i:Int):Option α:=(ixN xs.length i).bind fun j=>xs[j]?
theorem Z0 {n:Nat} {i:Int} {j:Nat} (h:ixN n i=some j):seqIndex? i n=some j∧j<n∧-(n:Int)≤i∧i<n:=by
  unfold ixN at h
  by_cases h0:0≤i
  · rw [if_pos h0] at h
    by_cases h1:i<n
    · rw [if_pos h1] at h
      have e:i.toNat=j:=Option.some.inj h
      exact ⟨by rw [seqIndex_of h0 h1,e],by omega,by omega,h1⟩
    · rw [if_neg h1] at h; cases h
  · rw [if_neg h0] at h
    by_cases h1:-(n:Int)≤i
    · rw [if_pos h1] at h
      have e:(i+n).toNat=j:=Option.some.inj h
      exact ⟨by rw [seqIndex_neg (by omega) h1,e],by omega,h1,by omega⟩
    · rw [if_neg h1] at h; cases h
theorem T6 {α:Type} {xs:List α} {i:Int} {v:α} (h:atI xs i=some v):∃ j,seqIndex? i xs.length=some j∧xs[j]? = some v∧j<xs.length∧-(xs.length:Int)≤i∧i<xs.length:=by
  unfold atI at h
  cases e:ixN xs.length i with
  | none=>rw [e] at h; cases h
  | some j =>
    rw [e] at h
    obtain ⟨h1,h2,h3,h4⟩:=Z0 e
    exact ⟨j,h1,h,h2,h3,h4⟩
noncomputable def U8 (b:Expr):Prop:=∀ o i,subscripted b false o i=operate [o,i] (getItem o i)
noncomputable def IxR (X:Cx) (r:R2):Prop :=
  ∀ (value slice:Expr) (pins:List (Addr × Obj)) (s:Shared) (σ:St) (H:Hp) (x y:V) (v u:Value) (Q:VK),Inv X pins σ H s→Dc x v→Dc y u→r x y H Q →
    subscripted slice false v u=operate [v,u] (getItem v u)→wpAny (model X.prog X.w) X.A (subscriptTail value slice v u) (EP X pins σ Q) X.xe s
noncomputable def MtR (X:Cx) (id:String) (r:V→List V→Hp→VK→Prop):Prop :=
  ∀ (pins:List (Addr × Obj)) (s:Shared) (σ:St) (H:Hp) (x:V) (xs:List V) (v:Value) (us:List Value) (Q:VK),Inv X pins σ H s→Dc x v→yh xs us→r x xs H Q →
    wpAny (model X.prog X.w) X.A (call (.builtin id) (v::us)) (EP X pins σ Q) X.xe s
noncomputable section
variable {X:Cx} {a b:Expr} {ta tb:TE} {pos:Pos}
theorem IxR.or {r r':R2} (h:IxR X r) (h':IxR X r'):IxR X (fun x y H Q=>r x y H Q∨r' x y H Q):=by
  intro value slice pins s σ H x y v u Q I rx ry q hs
  rcases q with q | q
  · exact h value slice pins s σ H x y v u Q I rx ry q hs
  · exact h' value slice pins s σ H x y v u Q I rx ry q hs
theorem MtR.or {id:String} {r r':V→List V→Hp→VK→Prop} (h:MtR X id r) (h':MtR X id r'):MtR X id (fun x xs H Q=>r x xs H Q∨r' x xs H Q):=by
  intro pins s σ H x xs v us Q I rx rs q
  rcases q with q | q
  · exact h pins s σ H x xs v us Q I rx rs q
  · exact h' pins s σ H x xs v us Q I rx rs q
theorem a8w {r:R2} (hr:IxR X r) (ha:PE X a ta) (hb:PE X b tb) (hs:U8 b):PE X (.Subscript a b pos) (tOp r ta tb):=by
  intro pins s σ H Q I h
  exact Subscript_ (abj ha hb I h fun v u s2 x y H2 I2 rx ry q=>hr a b pins s2 σ H2 x y v u Q I2 rx ry q (hs _ _))
noncomputable def acq (K:PySem.W.Frag):R2:=fun x y H Q=>∃ p xs i v,x=.ref p∧y=.int i∧SqL K H p xs∧atI xs i=some v∧Q v H
noncomputable def ac7 (K:PySem.W.Frag):R2:=fun x y H Q=>∃ p xs i v,x=.ref p∧y=.int i∧SqT K H p xs∧atI xs i=some v∧Q v H
noncomputable def ac9:R2:=fun x y H Q=>∃ z i c,x=.str z∧y=.int i∧z.length≤sizeLine∧atI z.cps.toList i=some c∧Q (.str ⟨#[c]⟩) H
theorem Zi:IxR X (acq X.K):=by
  intro value slice pins s σ H x y v u Q I rx ry h hs
  obtain ⟨p,xs,i,z,rfl,rfl,hq,he,q⟩:=h
  cases rx
  obtain ⟨t,rfl⟩:=ry
  obtain ⟨its,r,pl,hz⟩:=I.list hq
  obtain ⟨j,h1,h2,h3,h4,h5⟩:=T6 he
  obtain ⟨w,ew,rw'⟩:=r.get h2
  have hl:=r.length
  have hn:=Nh
  have fin:EP X pins σ Q w s:=⟨z,H,I,rw',q⟩
  by_cases h0:0≤i
  · have hj:i.toNat=j:=by
      rw [seqIndex_of h0 h5] at h1
      exact Option.some.inj h1
    exact item_listR pl.isList h0 (by omega) (by rw [hj]; simpa using ew) fin hs
  · have hj:(i+(its.toArray.size:Int)).toNat=j:=by
      rw [seqIndex_neg (by omega) h4] at h1
      rw [List.size_toArray,← hl]
      exact Option.some.inj h1
    exact subscriptTail_builtinR (x:=w) pl.isList.typeIs slot_list_getitem.lookup
      (wpAny_getItem_list_neg (Q:=fun r s'=>r=w∧EP X pins σ Q r s') pl.isList (by omega) (by rw [List.size_toArray] <;> omega) (by omega) (by rw [hj]; simpa using ew) ⟨rfl,fin⟩) hs
theorem a9a:IxR X (ac7 X.K):=by
  intro value slice pins s σ H x y v u Q I rx ry h hs
  obtain ⟨p,xs,i,z,rfl,rfl,hq,he,q⟩:=h
  cases rx
  obtain ⟨t,rfl⟩:=ry
  obtain ⟨its,r,pl,hz⟩:=I.tuple hq
  obtain ⟨j,h1,h2,h3,h4,h5⟩:=T6 he
  obtain ⟨w,ew,rw'⟩:=r.get h2
  have hl:=r.length
  have hn:=Nh
  have fin:EP X pins σ Q w s:=⟨z,H,I,rw',q⟩
  exact subscriptTail_builtinR (x:=w) pl.typeIs slot_tuple_getitem.lookup
    (getItem_tuple (j:=j) (Q:=fun r s'=>r=w∧EP X pins σ Q r s') pl (by omega) (by omega) (by rw [List.size_toArray,← hl]; exact h1) (by simpa using ew) ⟨rfl,fin⟩) hs
theorem a92:IxR X ac9:=by
  intro value slice pins s σ H x y v u Q I rx ry h hs
  obtain ⟨z,i,c,rfl,rfl,hz,he,q⟩:=h
  obtain ⟨t,rfl⟩:=rx
  obtain ⟨t',rfl⟩:=ry
  obtain ⟨j,h1,h2,h3,h4,h5⟩:=T6 he
  have hl:z.cps.toList.length=z.length:=by simp [Str.length]
  rw [hl] at h1 h4 h5
  have hn:=Nh
  exact tail_any (typeIs_str s z t) slot_str_getitem.lookup (getItem_str (c:=c) (by
    have e1:decide (i < -(2 ^ 63:Int))=false:=decide_eq_false (by omega)
    have e2:decide (i ≥ 2 ^ 63)=false:=decide_eq_false (by omega)
    rw [e1,e2,Bool.or_false]) (by rw [h1]; simpa using h2) ⟨.str ⟨#[c]⟩,H,I.tok _,⟨_,rfl⟩,q⟩) hs
theorem Wq (its:List Value) (n j:Nat) (u:Value):Obj.mapSeq (·.setIfInBounds j u) { cls:=.type "list",data:=.seq its.toArray n } = { cls:=.type "list",data:=.seq (its.set j u).toArray n }:=by
  simp [Obj.mapSeq]
theorem Inv.lst {pins:List (Addr × Obj)} {σ:St} {H:Hp} {s:Shared} {p:Addr} {xs:List V} (I:Inv X pins σ H s) (h:H p=some (.lst xs)) :
    ∃ (its:List Value) (n:Nat),yh xs its∧s.heap.get? p=some { cls:=.type "list",data:=.seq its.toArray n }∧xs.length≤sizeLine:=by
  obtain ⟨z,its,n,r,e⟩:=I.hok p _ h
  exact ⟨its,n,r,e,z⟩
theorem Inv.a9w {pins:List (Addr × Obj)} {σ:St} {H:Hp} {s:Shared} {p:Addr} {xs ys:List V} {its its':List Value} {n n':Nat} {f:Obj→Obj} (I:Inv X pins σ H s) (h:H p=some (.lst xs))
    (ho:s.heap.get? p=some { cls:=.type "list",data:=.seq its.toArray n }) (hf:f { cls:=.type "list",data:=.seq its.toArray n } = { cls:=.type "list",data:=.seq its'.toArray n' }) (r:yh ys its') (hz:ys.length≤sizeLine) (t:Nat) :
    Inv X pins σ (upd H p (.lst ys)) { s with heap:=s.heap.update p f,toks:=t }:=by
  have e:(s.heap.update p f).get? p=some { cls:=.type "list",data:=.seq its'.toArray n' }:=by
    rw [Heap.get?_update_self f ho (by rw [hf] <;> rfl),hf]
  refine I.write (x:=p) (e:=p) (by rw [h]; trivial) (.inl rfl) (fun b u hb q=>(Heap.get?_update_other _ _ (Ne.symm hb)).trans q) ⟨_,e⟩ ?_
  exact ⟨hz,its',n',r,e⟩
noncomputable def a8c:V→V→V→Hp→(Hp→Prop)→Prop:=fun o i v H Q=>∃ p xs k j,o=.ref p∧i=.int k∧H p=some (.lst xs)∧ixN xs.length k=some j∧Q (upd H p (.lst (xs.set j v)))
theorem Ke:abz X a8c:=by
  intro pins s σ H o i v ov iv u Q I ro ri rv h
  obtain ⟨p,xs,k,j,rfl,rfl,hp,hj,q⟩:=h
  cases ro
  obtain ⟨t,rfl⟩:=ri
  obtain ⟨its,n,r,ho,hz⟩:=I.lst hp
  obtain ⟨h1,h2,h3,h4⟩:=Z0 hj
  have hl:=r.length
  have hn:=Nh
  have I':Inv X pins σ (upd H p (.lst (xs.set j v))) { s with heap:=s.heap.update p (Obj.mapSeq (·.setIfInBounds j u)) } :=
    I.a9w hp ho (Wq its n j u) (r.set rv j) (by rw [List.length_set]; exact hz) s.toks
  by_cases h0:0≤k
  · have hk:k.toNat=j:=by
      rw [seqIndex_of h0 h4] at h1
      exact Option.some.inj h1
    exact PySem.W.ki_setAt ho h0 (by omega) (by rw [List.size_toArray,← hl]; exact h4) (by rw [hk]; exact ⟨_,I',q⟩)
  · have hk:(k+(its.toArray.size:Int)).toNat=j:=by
      rw [seqIndex_neg (by omega) h3] at h1
      rw [List.size_toArray,← hl]
      exact Option.some.inj h1
    exact PySem.W.ki_setBack ho (by omega) (by rw [List.size_toArray,← hl]; exact h3) (by omega) (by rw [hk]; exact ⟨_,I',q⟩)
theorem Qu (lo hi:Option Int) (n:Nat):(sliceBounds lo hi none n).1=((HT.sIx n 0 lo:Nat):Int)∧(sliceBounds lo hi none n).2.1=((HT.sIx n n hi:Nat):Int)∧(sliceBounds lo hi none n).2.2=1:=by
  refine ⟨?_,?_,rfl⟩
  · cases lo with
    | none=>simp [sliceBounds,HT.sIx]
    | some i =>
      simp only [sliceBounds,HT.sIx,Option.getD_none,show (1:Int) > 0 by decide,if_true]
      by_cases h:i<0
      · simp only [h,if_true] <;> omega
      · simp only [h,if_false] <;> omega
  · cases hi with
    | none=>simp [sliceBounds,HT.sIx]
    | some i =>
      simp only [sliceBounds,HT.sIx,Option.getD_none,show (1:Int) > 0 by decide,if_true]
      by_cases h:i<0
      · simp only [h,if_true] <;> omega
      · simp only [h,if_false] <;> omega
theorem O5 (its:List Value) (lo hi:Option Int):slicePick its.toArray lo hi none=((its.drop (HT.sIx its.length 0 lo)).take (HT.sIx its.length its.length hi - HT.sIx its.length 0 lo)).toArray:=by
  obtain ⟨h1,h2,h3⟩:=Qu lo hi its.toArray.size
  unfold slicePick
  rw [h1,h2,h3]
  simp only [sliceRange_one,pick_run,List.size_toArray] <;> rfl
noncomputable def ach (K:PySem.W.Frag):V→Option Int→Option Int→Hp→VK→Prop:=fun x lo hi H Q=>∃ a xs,x=.ref a∧SqL K H a xs∧∀ p,H p=none→Q (.ref p) (upd H p (.lst (a1p xs lo hi)))
theorem a6h:SlR X (ach X.K):=by
  intro pins s σ H x v vl vu lo hi sl Q I rx hs pl pu h
  obtain ⟨a,xs,rfl,hx,q⟩:=h
  cases rx
  obtain ⟨its,r,ht,hz⟩:=I.list hx
  have hlen:=r.length
  refine ⟨"list",_,slot_list_getitem.lookup,ht.isList.typeIs,?_⟩
  refine wpAny_getItem_list_slice ht.isList hs pl pu .none (by simp) ?_ (by rw [List.size_toArray] <;> omega)
  rw [O5,← hlen]
  refine ⟨.ref s.heap.objs.size,_,I.laid (t':=s.toks) (o:=.lst (a1p xs lo hi)) (fun b ob q=>Heap.get?_push_of_some _ q) (Nat.le_refl _) ?_,rfl,q _ (I.hok.fresh (Nat.le_refl _))⟩
  exact ⟨Nat.le_trans (Kq xs lo hi) hz,_,0,(r.drop (HT.sIx xs.length 0 lo)).take (HT.sIx xs.length xs.length hi - HT.sIx xs.length 0 lo),Heap.get?_push_size _ rfl⟩
theorem Ea:Hj X (.builtin "len") (fun xs H Q=>∃ p ys,xs=[.ref p]∧(SqL X.K H p ys∨SqT X.K H p ys)∧Q (.int ys.length) H):=by
  intro pins s σ H xs us Q I r h
  obtain ⟨p,ys,rfl,hq,q⟩:=h
  obtain ⟨u,rfl,rx⟩:=a7w r
  cases rx
  have hn:=Nh
  rcases hq with hq | hq
  · obtain ⟨its,r',pl,hz⟩:=I.list hq
    have hlen:=r'.length
    exact Calls.call_len_list pl.isList (by simp only [List.size_toArray] <;> omega) ⟨.int ys.length,H,I.tok _,⟨s.toks+1,by rw [List.size_toArray,hlen]⟩,q⟩
  · obtain ⟨its,r',pl,hz⟩:=I.tuple hq
    have hlen:=r'.length
    exact len_tuple pl (by simp only [List.size_toArray] <;> omega) ⟨.int ys.length,H,I.tok _,⟨s.toks+1,by rw [List.size_toArray,hlen]⟩,q⟩
theorem Qh:Hj X (.builtin "len") (fun xs H Q=>∃ z,xs=[.str z]∧z.length≤sizeLine∧Q (.int z.length) H):=by
  intro pins s σ H xs us Q I r h
  obtain ⟨z,rfl,hz,q⟩:=h
  obtain ⟨u,rfl,t,rfl⟩:=a7w r
  have hn:=Nh
  exact len_str (by omega) ⟨.int z.length,H,I.tok _,⟨_,rfl⟩,q⟩
theorem Hj.or {f:Value} {r r':List V→Hp→VK→Prop} (h:Hj X f r) (h':Hj X f r'):Hj X f (fun xs H Q=>r xs H Q∨r' xs H Q):=by
  intro pins s σ H xs us Q I rs q
  rcases q with q | q
  · exact h pins s σ H xs us Q I rs q
  · exact h' pins s σ H xs us Q I rs q
theorem Iz:Hj X (.type "tuple") (fun xs H Q=>∃ p ys,xs=[.ref p]∧((SqL X.K H p ys∧∀ l,H l=none→Q (.ref l) (upd H l (.tup ys)))∨(SqT X.K H p ys∧Q (.ref p) H))):=by
  intro pins s σ H xs us Q I r h
  obtain ⟨p,ys,rfl,h⟩:=h
  obtain ⟨u,rfl,rx⟩:=a7w r
  cases rx
  rcases h with ⟨hq,q⟩ | ⟨hq,q⟩
  · obtain ⟨its,r',pl,hz⟩:=I.list hq
    have hlen:=r'.length
    refine call_tuple_list pl.isList (fun h' kp=>?_) (by simp only [List.size_toArray] <;> omega)
    have I1:Inv X pins σ H { s with heap:=h' }:=I.kept (t':=s.toks) kp
    have I2:Inv X pins σ (upd H h'.objs.size (.tup ys)) { s with heap:=h'.push { cls:=.type "tuple",data:=.seq its.toArray } } :=
      I1.laid (t':=s.toks) (fun b o e=>Heap.get?_push_of_some _ e) (Nat.le_refl _) (show Ce X.prog X.w _ _ _ (.tup ys) from ⟨hz,its,r',a1o.new _ _⟩)
    exact ⟨.ref h'.objs.size,_,I2,rfl,q _ (I1.hok.fresh (Nat.le_refl _))⟩
  · obtain ⟨its,r',pl,hz⟩:=I.tuple hq
    exact call_tuple_same pl ⟨.ref p,H,I,rfl,q⟩
noncomputable def tyV (K:PySem.W.Frag) (T:String) (x:V) (H:Hp):Prop:=match x with
  | .str _=>T = "str"
  | .int _=>T = "int"
  | .ref p=>(T = "list" ∧ ∃ xs,SqL K H p xs)∨(T = "tuple" ∧ ∃ o,K.lookup p=some o∧o.cls=.type "tuple" ∧ o.dict=none) ∨
      (T = "dict" ∧ ((∃ kvs,H p=some (.dK kvs))∨∃ kvs,H p=some (.dT kvs)))∨(T = "set" ∧ ∃ S n,H p=some (.set S n))
  | _=>False
theorem a5h {pins:List (Addr × Obj)} {σ:St} {H:Hp} {s:Shared} {T:String} {x:V} {v:Value} (I:Inv X pins σ H s) (r:Dc x v) (ty:tyV X.K T x H) :
    s.TypeIs v T∧∀ a,v=.ref a→∃ ob,s.heap.get? a=some ob∧ob.dict=none:=by
  cases x with
  | str z =>
    obtain ⟨t,rfl⟩:=r
    cases (show T = "str" from ty)
    exact ⟨typeIs_str s z t,fun _ e=>nomatch e⟩
  | int i =>
    obtain ⟨t,rfl⟩:=r
    cases (show T = "int" from ty)
    exact ⟨typeIs_int s i t,fun _ e=>nomatch e⟩
  | ref p =>
    cases r
    rcases ty with ⟨rfl,xs,hq⟩ | ⟨rfl,o,hk,hc,hd⟩ | ⟨rfl,hk⟩ | ⟨rfl,S,n,hk⟩
    · obtain ⟨its,_,pl,_⟩:=I.list hq
      refine ⟨pl.isList.typeIs,fun a e=>?_⟩
      cases e
      obtain ⟨o,n,e,c,hd,_⟩:=pl
      exact ⟨o,e,hd⟩
    · refine ⟨⟨o,I.kIn p o hk,hc⟩,fun a e=>?_⟩
      cases e
      exact ⟨o,I.kIn _ o hk,hd⟩
    · have z:∃ o,s.heap.get? p=some o∧o.ExactDict:=by
        rcases hk with ⟨kvs,hk⟩ | ⟨kvs,hk⟩
        · obtain ⟨_,_,_,_,o,_,_,e,ex,_⟩:=I.hok p _ hk
          exact ⟨o,e,ex⟩
        · obtain ⟨_,_,_,_,o,_,_,e,ex,_⟩:=I.hok p _ hk
          exact ⟨o,e,ex⟩
      obtain ⟨o,e,ex⟩:=z
      refine ⟨⟨o,e,ex.1⟩,fun a e2=>?_⟩
      cases e2
      exact ⟨o,e,ex.2.1⟩
    · obtain ⟨o,_,_,_,e,ex,_⟩:=I.hok p _ hk
      refine ⟨⟨o,e,ex.1⟩,fun a e2=>?_⟩
      cases e2
      exact ⟨o,e,ex.2.1⟩
  | _=>exact False.elim ty
noncomputable def ac1 (K:PySem.W.Frag) (T:String) (r:V→List V→Hp→VK→Prop) (to:TE):TE:=fun σ H Q=>to σ H fun x H1=>tyV K T x H1∧r x [] H1 Q
noncomputable def tBM (K:PySem.W.Frag) (T:String) (r:V→List V→Hp→VK→Prop) (to:TE) (t:TA):TE:=fun σ H Q=>to σ H fun x H1=>tyV K T x H1∧t σ H1 fun xs H2=>r x xs H2 Q
variable {o e:Expr} {es:List Expr} {to:TE} {t:TA} {name:Str} {apos cpos:Pos} {T id:String} {r:V→List V→Hp→VK→Prop}
theorem a8j (pa:PlainAttrs T) (slot:Slot T name id) (hty:typeOf (.builtin id)=pure (.type "method_descriptor")) (hm:MtR X id r) (ho:PE X o to)
    (hbase:attributeBase o name X.env (eval o X.env)=eval o X.env:=by rfl) (hline:(apos.endLine==cpos.line)=true:=by rfl):PE X (.Call (.Attribute o name apos) [] [] cpos) (ac1 X.K T r to):=by
  intro pins s σ H Q I h
  refine wpAny_Call_method0_late hbase hline (thn (ho pins s σ H _ I h) fun v s1 z0=>?_)
  obtain ⟨x,H1,I1,r1,ty,q1⟩:=z0
  obtain ⟨h1,h2⟩:=a5h I1 r1 ty
  exact ⟨T,id,pa,slot,hty,h1,h2,Calls.callWith_builtin rfl (PySem.evalArgs_none (hm pins s1 σ H1 x [] v [] Q I1 r1 .nil q1))⟩
theorem Jf (pa:PlainAttrs T) (slot:Slot T name id) (hty:typeOf (.builtin id)=pure (.type "method_descriptor")) (hm:MtR X id r) (ho:PE X o to) (ha:PA X (e::es) t)
    (hbase:attributeBase o name X.env (eval o X.env)=eval o X.env:=by rfl)
    (hfew:((backTo cpos (starEach (e::es) X.env)).all (fun x=>!x.1)&&(backToKw cpos (keywordEach [] X.env)).all (fun x=>x.1.isSome)
      && decide ((e::es).length+([]:List Keyword).length+(if ([]:List Keyword).isEmpty then 0 else 1)<30))=true:=by rfl)
    (hline:(apos.endLine==cpos.line)=true:=by rfl) (hs:starEach (e::es) X.env=(false,eval e X.env)::starEach es X.env:=by rfl) (hplain:(backTo cpos (starEach es X.env)).any (·.1)=false:=by rfl) :
    PE X (.Call (.Attribute o name apos) (e::es) [] cpos) (tBM X.K T r to t):=by
  intro pins s σ H Q I h
  refine wpAny_Call_method_late hbase hfew hline rfl (thn (ho pins s σ H _ I h) fun v s1 z0=>?_)
  obtain ⟨x,H1,I1,r1,ty,q1⟩:=z0
  obtain ⟨h1,h2⟩:=a5h I1 r1 ty
  refine ⟨T,id,pa,slot,hty,h1,h2,?_⟩
  have hA:=ha cpos pins s1 σ H1 _ I1 q1
  rw [hs] at hA ⊢
  refine Calls.callWith_builtin (by show (false||(backTo cpos (starEach es X.env)).any (·.1))=false; rw [hplain] <;> rfl) (Calls.evalArgs_plain ?_)
  exact thn hA fun us s2 ⟨vs,H2,I2,r2,q2⟩=>hm pins s2 σ H2 x vs v us Q I2 r1 r2 q2
end
end L2
namespace L2
open PySem PySem.Spec PyProof.Rows
noncomputable def MtM (X:Cx) (id:String) (r:V→List V→Hp→VK→Prop):Prop :=
  ∀ (pins:List (Addr × Obj)) (s:Shared) (σ:St) (H:Hp) (x:V) (xs:List V) (v:Value) (us:List Value) (Q:VK),Inv X pins σ H s→Dc x v→yh xs us→r x xs H Q →
    wpAny (model X.prog X.w) X.A (call (.builtin id) (v::us)) (EP X pins σ Q) X.xe s
theorem yh.one:∀ {x:V} {us:List Value},yh [x] us→∃ u,us=[u]∧Dc x u
  | _,_,.cons r .nil=>⟨_,rfl,r⟩
theorem yh.zero:∀ {us:List Value},yh [] us→us=[]
  | _,.nil=>rfl
theorem yh.dropLast {xs:List V} {us:List Value} (h:yh xs us):yh xs.dropLast us.dropLast:=by
  induction h with
  | nil=>exact .nil
  | cons r t ih =>
    cases t with
    | nil=>exact .nil
    | cons q t'=>exact .cons r ih
theorem yh.reverse {xs:List V} {us:List Value} (h:yh xs us):yh xs.reverse us.reverse:=by
  induction h with
  | nil=>exact .nil
  | cons r t ih=>rw [List.reverse_cons,List.reverse_cons]; exact yh.append ih (.cons r .nil)
theorem yh.rep {xs:List V} {us:List Value} (h:yh xs us):∀ k:Nat,yh (List.replicate k xs).flatten (List.replicate k us).flatten
  | 0=>.nil
  | k+1=>by
    rw [List.replicate_succ,List.replicate_succ,List.flatten_cons,List.flatten_cons]
    exact yh.append h (yh.rep h k)
theorem Wo {α:Type} (l:List α):l.eraseIdx (l.length - 1)=l.dropLast:=by
  induction l with
  | nil=>rfl
  | cons a r ih =>
    cases r with
    | nil=>rfl
    | cons b r =>
      have e:(a::b::r).length - 1=((b::r).length - 1)+1:=by
        have h1:(a::b::r).length=r.length+2:=rfl
        have h2:(b::r).length=r.length+1:=rfl
        omega
      rw [e,List.eraseIdx_cons_succ,ih]
      all_goals rfl
noncomputable section
variable {X:Cx} {pins:List (Addr × Obj)} {σ:St} {H:Hp} {s:Shared} {l b:Addr} {xs ys zs:List V}
theorem Inv.aaz {its its':List Value} {n:Nat} {f:Array Value→Array Value} {t':Nat} (I:Inv X pins σ H s) (hH:H l=some (.lst xs))
    (e:s.heap.get? l=some { cls:=.type "list",data:=.seq its.toArray n }) (hf:f its.toArray=its'.toArray) (hv:yh ys its') (hz:ys.length≤sizeLine) :
    Inv X pins σ (upd H l (.lst ys)) { s with heap:=s.heap.update l (Obj.mapSeq f),toks:=t' }:=by
  have q:=PySem.IsL.update e f
  rw [hf] at q
  refine I.write (x:=l) (e:=l) (by rw [hH]; exact trivial) (.inl rfl) (fun b' u hb hu=>(Heap.get?_update_other s.heap (Obj.mapSeq f) (Ne.symm hb)).trans hu) ⟨_,q⟩ ?_
  exact ⟨hz,its',_,hv,q⟩
theorem Inv.acj {its:List Value} {t':Nat} (I:Inv X pins σ H s) (hv:yh ys its) (hz:ys.length≤sizeLine) :
    Inv X pins σ (upd H s.heap.objs.size (.lst ys)) { s with heap:=s.heap.push { cls:=.type "list",data:=.seq its.toArray },toks:=t' } :=
  I.laid (fun _ _ q=>Heap.get?_push_of_some _ q) (Nat.le_refl _) ⟨hz,its,0,hv,Heap.get?_push_size _ rfl⟩
theorem Inv.fresh (I:Inv X pins σ H s):H s.heap.objs.size=none:=I.hok.fresh (Nat.le_refl _)
theorem Inv.aaj (I:Inv X pins σ H s) (hH:H l=some (.lst xs)):xs.length≤sizeLine∧∃ (its:List Value) (n:Nat),yh xs its∧xs.length=its.length∧s.heap.get? l=some { cls:=.type "list",data:=.seq its.toArray n }:=by
  obtain ⟨z,its,n,r,e⟩:=I.hok l _ hH
  exact ⟨z,its,n,r,r.length,e⟩
theorem a4i {n:Nat} (h:n≤sizeLine):Builtin.List.listTooLong n=false:=by
  unfold Builtin.List.listTooLong
  exact decide_eq_false (by omega)
end
noncomputable section
variable {X:Cx}
noncomputable def U6:V→List V→Hp→VK→Prop:=fun x vs H Q=>∃ l xs y,x=.ref l∧vs=[y]∧H l=some (.lst xs)∧xs.length<sizeLine∧Q .non (upd H l (.lst (xs++[y])))
theorem Aq:MtM X "list.append" U6:=by
  intro pins s σ H x vs v us Q I rx rv h
  obtain ⟨l,xs,y,rfl,rfl,hH,hz,q⟩:=h
  cases rx
  obtain ⟨u,rfl,ru⟩:=rv.one
  obtain ⟨z,its,n,r,hl,e⟩:=I.aaj hH
  refine call_meets F.slot_list_append ⟨_,e,rfl⟩ F.entry_list_append (F.args_list_append_2 _ _) (PySem.list_append l its.toArray n u (by rw [List.size_toArray]; omega)) ⟨e,?_⟩
  refine ⟨.non,_,I.aaz (its':=its++[u]) hH e (by simp) (r.append (.cons ru .nil)) ?_,rfl,q⟩
  rw [List.length_append,List.length_singleton]
  omega
noncomputable def aby:V→List V→Hp→VK→Prop:=fun x vs H Q=>∃ l xs y,x=.ref l∧vs=[]∧H l=some (.lst xs)∧xs[xs.length - 1]? = some y∧Q y (upd H l (.lst xs.dropLast))
theorem a8r:MtM X "list.pop" aby:=by
  intro pins s σ H x vs v us Q I rx rv h
  obtain ⟨l,xs,y,rfl,rfl,hH,hy,q⟩:=h
  cases rx
  have hus:=rv.zero
  subst hus
  obtain ⟨z,its,n,r,hl,e⟩:=I.aaj hH
  obtain ⟨u,hu,ru⟩:=r.get hy
  have hy':its.toArray[its.toArray.size - 1]? = some u:=by
    show its.toArray[its.length - 1]? = some u
    rw [← Array.getElem?_toList,← hl]
    exact hu
  refine call_meets F.slot_list_pop ⟨_,e,rfl⟩ F.entry_list_pop (F.args_list_pop_1 _) (MeetsSeq.list_pop_last l its.toArray n u hy' (by rw [List.size_toArray]; omega)) ⟨e,?_⟩
  refine ⟨y,_,I.aaz (its':=its.dropLast) hH e ?_ r.dropLast ?_,ru,q⟩
  · show its.toArray.eraseIdxIfInBounds (its.toArray.size - 1)=its.dropLast.toArray
    rw [List.size_toArray,List.eraseIdxIfInBounds_toArray,Wo]
  · rw [List.length_dropLast]
    omega
end
noncomputable section
variable {prog:Program} {w:World} {A:Around} {E:Value→Shared→Prop} {s:Shared}
end
noncomputable section
variable {X:Cx}
end
end L2
end
noncomputable section
set_option linter.all false
set_option maxRecDepth 100000
namespace L2
open PySem PySem.Spec PyProof.Rows
noncomputable section
variable {κ:Type} [DecidableEq κ]
noncomputable def U4 (kvs:List (κ × V)) (k:κ):Option V:=(kvs.find? fun kv=>decide (kv.1=k)).map (·.2)
noncomputable def a1s (kvs:List (κ × V)) (k:κ) (v:V):List (κ × V) :=
  if (kvs.any fun kv=>decide (kv.1=k))=true then kvs.map (fun kv=>if kv.1=k then (kv.1,v) else kv) else kvs++[(k,v)]
theorem Oq {p:κ × V} {r:List (κ × V)} {k:κ} (e:p.1=k):U4 (p::r) k=some p.2:=by simp [U4,List.find?_cons,e]
theorem Oc {p:κ × V} {r:List (κ × V)} {k:κ} (e:¬ p.1=k):U4 (p::r) k=U4 r k:=by simp [U4,List.find?_cons,e]
theorem Ry.Hz {o:Option V} {u:Option Value} (r:Ry o u):o.isSome=u.isSome:=by
  cases o with
  | none=>cases u with
    | none=>rfl
    | some _=>exact (show False from r).elim
  | some _=>cases u with
    | none=>exact (show False from r).elim
    | some _=>rfl
theorem Ry.getD {o:Option V} {u:Option Value} {d:V} {d':Value} (r:Ry o u) (rd:Dc d d'):Dc (o.getD d) (u.getD d'):=by
  cases o with
  | none=>cases u with
    | none=>exact rd
    | some _=>exact (show False from r).elim
  | some _=>cases u with
    | none=>exact (show False from r).elim
    | some _=>exact r
theorem KV.val {kvs:List (κ × V)} {vs:List (κ × Value)} (r:KV kvs vs) (k:κ):Ry (U4 kvs k) (valueAt vs k):=by
  unfold KV at r
  induction r with
  | nil=>exact True.intro
  | @cons p q ps qs h t ih =>
    obtain ⟨h1,h2⟩:=h
    by_cases e:p.1=k
    · have e':q.1=k:=h1.symm.trans e
      have b:valueAt (q::qs) k=some q.2:=by simp [valueAt,List.find?_cons,e']
      rw [Oq e,b]; exact h2
    · have e':¬ q.1=k:=fun z=>e (h1.trans z)
      have b:valueAt (q::qs) k=valueAt qs k:=by simp [valueAt,List.find?_cons,e']
      rw [Oc e,b]; exact ih
theorem KV.any {kvs:List (κ × V)} {vs:List (κ × Value)} (r:KV kvs vs) (k:κ):(kvs.any fun kv=>decide (kv.1=k))=vs.any fun kv=>decide (kv.1=k):=by
  unfold KV at r
  induction r with
  | nil=>rfl
  | cons h t ih=>rw [List.any_cons,List.any_cons,ih,h.1]
theorem KV.repl {kvs:List (κ × V)} {vs:List (κ × Value)} (r:KV kvs vs) (k:κ) {y:V} {u:Value} (ry:Dc y u) :
    KV (kvs.map fun kv=>if kv.1=k then (kv.1,y) else kv) (vs.map fun kv=>if kv.1=k then (kv.1,u) else kv):=by
  unfold KV at r ⊢
  induction r with
  | nil=>exact .nil
  | @cons p q ps qs h t ih =>
    rw [List.map_cons,List.map_cons]
    refine .cons ?_ ih
    obtain ⟨h1,h2⟩:=h
    by_cases e:p.1=k
    · rw [if_pos e,if_pos (h1.symm.trans e)]; exact ⟨h1,ry⟩
    · rw [if_neg e,if_neg (fun z=>e (h1.trans z))]; exact ⟨h1,h2⟩
theorem KV.put {kvs:List (κ × V)} {vs:List (κ × Value)} (r:KV kvs vs) (k:κ) {y:V} {u:Value} (ry:Dc y u):KV (a1s kvs k y) (stored vs k u):=by
  unfold a1s stored
  rw [r.any k]
  by_cases e:(vs.any fun kv=>decide (kv.1=k))=true
  · rw [if_pos e,if_pos e]; exact r.repl k ry
  · rw [if_neg e,if_neg e]; exact Paired.snoc r ⟨rfl,ry⟩
theorem KV.keys {kvs:List (κ × V)} {vs:List (κ × Value)} (r:KV kvs vs):kvs.map (·.1)=vs.map (·.1):=by
  unfold KV at r
  induction r with
  | nil=>rfl
  | cons h t ih=>rw [List.map_cons,List.map_cons,ih,h.1]
theorem KV.length {kvs:List (κ × V)} {vs:List (κ × Value)} (r:KV kvs vs):kvs.length=vs.length:=Paired.length r
end
theorem Xx {P:Program} {w:World} {k:Key} {u:Value} (r:Dc (kV k) u):(vo P w).is k u=true:=by
  cases k with
  | inl i=>obtain ⟨t,e⟩:=(show ∃ t,u=Value.int i t from r); subst e; exact S7 P w i t
  | inr x=>obtain ⟨t,e⟩:=(show ∃ t,u=Value.str x t from r); subst e; exact Te P w x t
theorem Qa {P:Program} {w:World}:∀ {ks:List Key} {us:List Value},yh (ks.map kV) us→ItemsAre (vo P w) ks us
  | [],_,r=>by rw [List.map_nil] at r; cases r; exact .nil
  | k::ks,_,r=>by
    rw [List.map_cons] at r
    cases r with
    | cons h t=>exact .cons (Xx h) (Qa t)
noncomputable abbrev KT (H:Hp):List (List Key × V)→List (List Key × Addr × Value)→Prop:=Paired fun p q=>p.1=q.1∧H q.2.1=some (.tup (p.1.map kV))∧Dc p.2 q.2.2
theorem KT.val {H:Hp} {kvs:List (List Key × V)} {xs:List (List Key × Addr × Value)} (r:KT H kvs xs) (k:List Key):Ry (U4 kvs k) ((atKey xs k).map (·.2)):=by
  induction r with
  | nil=>exact True.intro
  | @cons p q ps qs h t ih =>
    obtain ⟨h1,_,h2⟩:=h
    by_cases e:p.1=k
    · have e':q.1=k:=h1.symm.trans e
      have b:atKey (q::qs) k=some q.2:=by simp [atKey,List.find?_cons,e']
      rw [Oq e,b]; exact h2
    · have e':¬ q.1=k:=fun z=>e (h1.trans z)
      have b:atKey (q::qs) k=atKey qs k:=by simp [atKey,List.find?_cons,e']
      rw [Oc e,b]; exact ih
noncomputable section
variable {P:Program} {w:World} {H:Hp} {h:Heap} {a:Addr}
theorem a9i {u:HO} (ok:HOk P w H h) (e:Rd H a u):Ce P w H h a u:=e.ok ok
theorem P0 {kvs:List (Key × V)} (ok:HOk P w H h) (e:Rd H a (.dK kvs)):kvs.length≤sizeLine∧(a==sysModules)=false∧∃ vs,KV kvs vs∧h.DictOf (vo P w) a vs :=
  show Ce P w H h a (.dK kvs) from a9i ok e
theorem Vv {ks:List Key} (ok:HOk P w H h) (e:H a=some (.tup (ks.map kV))):(tupleKind (vo P w)).is h ks a:=by
  obtain ⟨_,its,r,o,h1,h2,_,n,h3⟩:=(show Ce P w H h a (.tup (ks.map kV)) from ok a _ e)
  exact ⟨o,its.toArray,n,h1,h2,h3,by simpa using Qa r⟩
theorem a4o {kvs:List (List Key × V)} (ok:HOk P w H h) (e:Rd H a (.dT kvs)):kvs.length≤sizeLine∧(a==sysModules)=false ∧
    ∃ xs,KT H kvs xs∧h.DictOfH (tupleKind (vo P w)) a xs:=by
  obtain ⟨z,y,xs,r,o,es,ep,h1,h2,h3,h4,h5⟩:=(show Ce P w H h a (.dT kvs) from a9i ok e)
  refine ⟨z,y,xs,r,o,es,ep,h1,h2,h3,h4,fun x hx=>?_,h5⟩
  have all:∀ {l:List (List Key × V)} {m:List (List Key × Addr × Value)},KT H l m→∀ x∈m,(tupleKind (vo P w)).is h x.1 x.2.1:=by
    intro l m q
    induction q with
    | nil=>intro x hx; exact nomatch hx
    | @cons p q ps qs hq t ih =>
      intro x hx
      rcases List.mem_cons.mp hx with e | hx
      · subst e
        exact Vv ok (by rw [← hq.1]; exact hq.2.1)
      · exact ih x hx
  exact all r x hx
end
noncomputable def a1q (H:Hp) (a:Addr) (y:V) (r:Option V):Prop :=
  (∃ kvs k,Rd H a (.dK kvs)∧y=kV k∧r=U4 kvs k)∨∃ kvs k b,Rd H a (.dT kvs)∧y=.ref b∧H b=some (.tup (k.map kV))∧r=U4 kvs k
noncomputable def aae (H:Hp) (a:Addr) (y v:V) (H':Hp):Prop :=
  (∃ kvs k,H a=some (.dK kvs)∧y=kV k∧kvs.length<sizeLine∧H'=upd H a (.dK (a1s kvs k v))) ∨
  ∃ kvs k b,H a=some (.dT kvs)∧y=.ref b∧H b=some (.tup (k.map kV))∧kvs.length<sizeLine∧H'=upd H a (.dT (a1s kvs k v))
theorem a1q.k {H:Hp} {a:Addr} {kvs:List (Key × V)} {k:Key} (e:H a=some (.dK kvs)):a1q H a (kV k) (U4 kvs k):=.inl ⟨kvs,k,.inl e,rfl,rfl⟩
theorem a1q.t {H:Hp} {a b:Addr} {kvs:List (List Key × V)} {k:List Key} (e:H a=some (.dT kvs)) (eb:H b=some (.tup (k.map kV))):a1q H a (.ref b) (U4 kvs k):=.inr ⟨kvs,k,b,.inl e,rfl,eb,rfl⟩
theorem aae.k {H:Hp} {a:Addr} {kvs:List (Key × V)} {k:Key} {v:V} (e:H a=some (.dK kvs)) (hl:kvs.length<sizeLine):aae H a (kV k) v (upd H a (.dK (a1s kvs k v))):=.inl ⟨kvs,k,e,rfl,hl,rfl⟩
theorem aae.t {H:Hp} {a b:Addr} {kvs:List (List Key × V)} {k:List Key} {v:V} (e:H a=some (.dT kvs)) (eb:H b=some (.tup (k.map kV))) (hl:kvs.length<sizeLine) :
    aae H a (.ref b) v (upd H a (.dT (a1s kvs k v))):=.inr ⟨kvs,k,b,e,rfl,eb,hl,rfl⟩
noncomputable section
variable {X:Cx} {pins:List (Addr × Obj)} {σ:St} {H:Hp} {s:Shared} {a:Addr} {y v:V} {u r:Value} {o:Option V} {A:Around} {E:Value→Shared→Prop}
theorem Inv.big (I:Inv X pins σ H s):sysModules<s.heap.objs.size:=by
  have h:mainGlobals<s.heap.objs.size:=(I.mod.glob.keeps I.bk).lt
  exact Nat.lt_trans (by decide) h
theorem Zt {Q:Value→Shared→Prop} (hu:A.units+1<cLine) (I:Inv X pins σ H s) (g:a1q H a y (some v)) (ry:Dc y u) (h:∀ w' s',Inv X pins σ H s'→Dc v w'→Q w' s') :
    wpAny (model X.prog X.w) A (getItem (.ref a) u) Q E s:=by
  rcases g with ⟨kvs,k,e,ey,l⟩ | ⟨kvs,k,b,e,ey,eb,l⟩
  · subst ey
    obtain ⟨z,hd,vs,rel,dd⟩:=P0 I.hok e
    obtain ⟨w',hw,rw'⟩:=Ry.some_of (v:=v) (o:=valueAt vs k) (by rw [l]; exact rel.val k)
    exact wpAny_getItem_of (Xx ry) dd.mapOf hw (h w' _ (I.tok _) rw')
  · subst ey
    cases (show u=Value.ref b from ry)
    obtain ⟨z,hd,xs,rel,dd⟩:=a4o I.hok e
    obtain ⟨w',hw,rw'⟩:=Ry.some_of (v:=v) (o:=(atKey xs k).map (·.2)) (by rw [l]; exact rel.val k)
    obtain ⟨p,hp,hp2⟩:=Option.map_eq_some_iff.mp hw
    refine wpAny_getItem_heap (tupleKind_room_in1 hu) (Vv I.hok eb) dd hp ?_
    rw [hp2]
    exact h w' _ (I.tok _) rw'
theorem ad0 {Q:Value→Shared→Prop} (hu:A.units+1<cLine) (I:Inv X pins σ H s) (g:a1q H a y o) (ry:Dc y u) (h:∀ s',Inv X pins σ H s'→Q (.bool o.isSome) s') :
    wpAny (model X.prog X.w) A (compareOp .In u (.ref a)) Q E s:=by
  rcases g with ⟨kvs,k,e,ey,l⟩ | ⟨kvs,k,b,e,ey,eb,l⟩
  · subst ey
    obtain ⟨z,hd,vs,rel,dd⟩:=P0 I.hok e
    refine wpAny_in_of (Xx ry) hd dd.mapOf ?_
    rw [← (rel.val k).Hz,← l]
    exact h _ (I.tok _)
  · subst ey
    cases (show u=Value.ref b from ry)
    obtain ⟨z,hd,xs,rel,dd⟩:=a4o I.hok e
    refine wpAny_in_heap (tupleKind_room_in1 hu) (Vv I.hok eb) hd dd ?_
    have q:=(rel.val k).Hz
    rw [Option.isSome_map] at q
    rw [← q,← l]
    exact h _ (I.tok _)
theorem a7c {Q:Value→Shared→Prop} (hu:A.units+1<cLine) (I:Inv X pins σ H s) (g:a1q H a y o) (ry:Dc y u) (h:∀ s',Inv X pins σ H s'→Q (.bool (!o.isSome)) s') :
    wpAny (model X.prog X.w) A (compareOp .NotIn u (.ref a)) Q E s:=by
  rcases g with ⟨kvs,k,e,ey,l⟩ | ⟨kvs,k,b,e,ey,eb,l⟩
  · subst ey
    obtain ⟨z,hd,vs,rel,dd⟩:=P0 I.hok e
    refine wpAny_notIn_of (Xx ry) hd dd.mapOf ?_
    rw [← (rel.val k).Hz,← l]
    exact h _ (I.tok _)
  · subst ey
    cases (show u=Value.ref b from ry)
    obtain ⟨z,hd,xs,rel,dd⟩:=a4o I.hok e
    refine wpAny_notIn_heap (tupleKind_room_in1 hu) (Vv I.hok eb) hd dd ?_
    have q:=(rel.val k).Hz
    rw [Option.isSome_map] at q
    rw [← q,← l]
    exact h _ (I.tok _)
theorem V0 {P:Program} {w:World} {H':Hp} {h':Heap} {kvs:List (Key × V)} {vs:List (Key × Value)} (z:kvs.length≤sizeLine) (hd:(a==sysModules)=false) (rel:KV kvs vs) (dd:h'.DictOf (vo P w) a vs) :
    Ce P w H' h' a (.dK kvs):=⟨z,hd,vs,rel,dd⟩
end
noncomputable section
variable {X:Cx} {pins:List (Addr × Obj)} {σ:St} {H:Hp} {s:Shared} {a:Addr} {kvs:List (Key × V)} {k:Key} {u:Value} {A:Around} {E:Value→Shared→Prop}
theorem a9s {Q:Value→Shared→Prop} (I:Inv X pins σ H s) (e:Rd H a (.dK kvs)) (h:∀ t s',Inv X pins σ H s'→Q (.int kvs.length t) s'):wpAny (model X.prog X.w) A (call (.builtin "len") [.ref a]) Q E s:=by
  obtain ⟨z,hd,vs,rel,dd⟩:=P0 I.hok e
  refine call_len_dict hd dd (by rw [← rel.length]; rw [sizeLine_eq] at z; omega) ?_
  rw [← rel.length]
  exact h _ _ (I.tok _)
end
theorem Tz {X:Cx} {pins:List (Addr × Obj)} {σ:St} {H:Hp} {s:Shared} {a:Addr} {y:V} {o:Option V} (I:Inv X pins σ H s) (g:a1q H a y o):s.TypeIs (.ref a) "dict" := by
  rcases g with ⟨kvs,k,e,_,_⟩ | ⟨kvs,k,b,e,_,_,_⟩
  · obtain ⟨_,_,vs,_,dd⟩:=P0 I.hok e
    exact dd.typeIs
  · obtain ⟨_,_,xs,_,dd⟩:=a4o I.hok e
    exact dd.typeIs
noncomputable section
variable {X:Cx} {o i e value:Expr} {pos pos' tpos:Pos} {td ty tv:TE}
end
noncomputable section
variable {X:Cx} {pos:Pos}
end
structure M1 (X:Cx) (o:Expr) (m:Str) (apos:Pos) (e:Expr) (cpos:Pos):Prop where
  base:attributeBase o m X.env (eval o X.env)=eval o X.env
  few:((backTo cpos (starEach [e] X.env)).all (fun x=>!x.1)&&(backToKw cpos (keywordEach [] X.env)).all (fun x=>x.1.isSome)
    && decide (([e]:List Expr).length+([]:List Keyword).length+(if ([]:List Keyword).isEmpty then 0 else 1)<30))=true
  line:(apos.endLine==cpos.line)=true
  trees:backTo cpos (starEach [e] X.env)=[(false,eval e X.env)]
structure M2 (X:Cx) (o:Expr) (m:Str) (apos:Pos) (e f:Expr) (cpos:Pos):Prop where
  base:attributeBase o m X.env (eval o X.env)=eval o X.env
  few:((backTo cpos (starEach [e,f] X.env)).all (fun x=>!x.1)&&(backToKw cpos (keywordEach [] X.env)).all (fun x=>x.1.isSome)
    && decide (([e,f]:List Expr).length+([]:List Keyword).length+(if ([]:List Keyword).isEmpty then 0 else 1)<30))=true
  line:(apos.endLine==cpos.line)=true
  trees:backTo cpos (starEach [e,f] X.env)=[(false,eval e X.env),(false,eval f X.env)]
noncomputable section
variable {X:Cx} {pins:List (Addr × Obj)} {σ:St} {H:Hp} {s:Shared} {a:Addr} {y d:V} {u r:Value} {o:Option V} {A:Around} {E:Value→Shared→Prop}
end
noncomputable section
variable {X:Cx} {o e f:Expr} {apos cpos:Pos} {td ty tx:TE}
end
noncomputable section
variable {X:Cx} {pins:List (Addr × Obj)} {σ:St} {H:Hp} {s:Shared} {a:Addr} {kvs:List (Key × V)} {A:Around} {E:Value→Shared→Prop}
theorem a4t {Q:Value→Shared→Prop} (I:Inv X pins σ H s) (e:Rd H a (.dK kvs)) (h:∀ p s',H p=none→Inv X pins σ (upd H p (.dK kvs)) s'→Q (.ref p) s'):wpAny (model X.prog X.w) A (call (.type "dict") [.ref a]) Q E s:=by
  obtain ⟨z,hd,vs,rel,dd⟩:=P0 I.hok e
  refine kt_call_dict hd dd (by rw [← rel.length]; exact z) fun h' dd' hs=>?_
  refine h _ _ (I.hok.fresh (Nat.le_refl _)) (I.laid (a:=s.heap.objs.size) (o:=.dK kvs) (t':=s.toks) (fun b q hq=>?_) (Nat.le_refl _) (V0 z (beq_eq_false_iff_ne.mpr (Ne.symm (Nat.ne_of_lt I.big))) rel dd'))
  exact (hs.2 b (Nat.ne_of_lt (Heap.lt_size hq))).trans (Heap.get?_push_of_some _ hq)
end
noncomputable section
variable {X:Cx} {pins:List (Addr × Obj)} {σ:St} {H:Hp} {s:Shared} {a:Addr} {y:V} {u:Value} {A:Around} {E:Value→Shared→Prop}
end
end L2
end
noncomputable section
set_option linter.all false
set_option maxRecDepth 100000
namespace Att
open PySem PySem.W PySem.Calls PyProof.Rows
theorem M5 {P:Params} {h:Heap}:∀ (ns:List Int) (vs:List Value),WellAll P h vs (ns.map WData.int)→IntsAre vs ns:=by
  intro ns
  induction ns with
  | nil =>
    intro vs w
    rw [List.map_nil] at w
    cases w
    exact .nil
  | cons n ns ih =>
    intro vs w
    rw [List.map_cons] at w
    cases w with
    | cons a b =>
      cases a
      exact .cons _ _ (ih _ b)
theorem a1c {l:OpenLaw} {n:Nat} (hn:l.most=some n) {P:Params} {h:Heap} {args:List WData} {vals:List Value}
    (hpre:l.row.toRowW.claim.pre args=true) (hwl:WellAll P h vals args) :
    ∃ a vs ns,vals=[Value.ref a]∧args=[WData.list (ns.map WData.int)]∧h.get? a=some { cls:=.type "list",data:=.seq vs.toArray }∧IntsAre vs ns∧ns.length≤n:=by
  have hsh:WShape.hasAll [] args [.list .int]=true:=(pre_splitW hpre).1
  have hc:l.pre.holds [] { args:=args } = true:=(pre_splitW hpre).2
  obtain ⟨d,r,rfl,h1,h2⟩:=hasAllW_cons hsh
  obtain rfl:=hasAllW_nil h2
  obtain ⟨xs,rfl,h3⟩:=hasW_list h1
  obtain ⟨ns,rfl⟩:=items_int h3
  have hlen:ns.length≤n:=by
    unfold OpenLaw.pre at hc
    have h4:(WTm.not (.lt (.lit (.int (n:Int))) (.len (.arg 0)))).holds [] { args:=[.list (ns.map .int)] } = true:=by
      have h4:=(holds_andW hc).1
      rw [hn] at h4
      exact h4
    have h5:=condW_of h4 (w_not (w_lt w_lit (w_len_list (w_arg rfl))))
    rw [List.length_map] at h5
    refine Nat.le_of_not_lt fun q=>?_
    have q':(n:Int)<((ns.length:Nat):Int):=by omega
    first
      | (rw [decide_eq_true q'] at h5; exact absurd h5 (by decide))
      | (simp at h5; omega)
  cases hwl with
  | cons w1 w2 =>
    cases w2
    cases w1 with
    | list ho hall=>exact ⟨_,_,ns,rfl,rfl,ho,M5 ns _ hall,hlen⟩
theorem a04 (l:OpenLaw) (args:List WData):l.row.toRowW.claim.post args (.bool true) args=true :=
  postW_of (r:=l.row.toRowW) (X:=(true==true))
    (show WShape.has [] (.bool true) .bool=true by first | rfl | decide | simp [WShape.has,WShape.arms,WShape.armsAll])
    (show (WTm.eq .res (.lit (.bool true))).value [] { args:=args,res:=some (.bool true),after:=args } = some (.bool (true==true)) from w_eq_bool (w_res rfl) w_lit) rfl
theorem Tp {l:OpenLaw} {n:Nat} {q:Program} {loose:List Str} {XP:(Str→Option Value)→Heap→Prop} {YP:World→Heap→Prop} {d:DefRec}
    (hn:l.most=some n) (hdf:d.params.defaults=[])
    (call:∀ (w:World) (s₀ s₁:Shared) (mg mb:Str→Option Value) (fa:Addr) (o:Obj) (pm cd doc:Value) (a:Addr) (vs:List Value) (ns:List Int),
      Ground q loose [] XP w s₀ mg mb s₁.heap→YP w s₁.heap →
      s₁.heap.get? fa=some o→o.data=.func (docDef d.name d.params d.body d.scope pm cd doc)→s₁.heap.CodeRec cd d.name→mg d.name=some (.ref fa) →
      s₁.heap.get? a=some { cls:=.type "list",data:=.seq vs.toArray }→IntsAre vs ns→ns.length≤n→s₁.gens = #[] →
      codeAny (model l.prog w) callerA (.call (.ref fa) ⟨[.ref a],[]⟩) (fun r s'=>r=.ok (.ret (.bool true))∧OldK s₁.heap s'.heap∧s'.os=s₁.os∧AllBare s'.gens) s₁) :
    WalkO q loose XP YP l.row.toRowW d [] (fun f vs=>PySem.call f vs):=by
  intro w s₀ s₁ mg mb G Y fa o pm cd doc dV kV ho hd hcd hD hmg hg args vals as hpre hlay hrd hwl hlo
  obtain rfl:dV=.none:=Dflts.none hD hdf
  obtain rfl:kV=.none:=Dflts.noKw hD
  obtain ⟨a,vs,ns,rfl,rfl,hobj,hints,hlen⟩:=a1c hn hpre hwl
  refine enter_call (codeAny_mono (call w s₀ s₁ mg mb fa o pm cd doc a vs ns G Y ho (fd_plain hd) hcd hmg hobj hints hlen hg) fun r s' hq=>?_)
  obtain ⟨rfl,h2,h3,h4⟩:=hq
  exact ⟨.inl ⟨.bool true,.bool true,[],rfl,fun _=>rfl,.bool true,a04 l _,fun _=>⟨List.Pairwise.nil,fun _ hm=>(nomatch hm)⟩⟩,h2,h3,h4⟩
noncomputable section
variable {prog:Program} {w:World} {A:Around} {E:Value→Shared→Prop} {s:Shared} {K:Frag}
end
end Att
namespace L2
open PySem PySem.Spec PyProof.Rows
theorem Py:∀ {vs:List Value} {ns:List Int},IntsAre vs ns→yh (ns.map V.int) vs
  | _,_,.nil=>.nil
  | _,_,.cons n t h=>.cons ⟨t,rfl⟩ (Py h)
noncomputable def abq (H:Hp):Prop:=∀ b,H b=none∨∃ o xs,H b=some (.frz o (.lst xs))
theorem a3p {P:Program} {w:World} {K:PySem.W.Frag} {mg mb:Str→Option Value} {CX:CXT} {k:Nat} {fa a:Addr} {fd:FuncData} {x:Str} {sp:Sp} {s₁:Shared} {vs:List Value} {ns:List Int}
    (KX:K.In s₁.heap) (hns:s₁.heap.Ns mainGlobals mg) (hb:s₁.heap.Ns builtinsNs mb) (hbb:∀ x:Str,x ≠ "__name__" → mb x=bootBuiltins x) (hlim:s₁.heap.NoLimit) (hg:s₁.gens = #[])
    (ha:s₁.heap.get? a=some { cls:=.type "list",data:=.seq vs.toArray }) (hi:IntsAre vs ns) (hl:ns.length≤sizeLine) (hr:Jl k callerA)
    (F:∀ base:Heap,K.In base→base.Ns mainGlobals mg→Dh P w K mg base CX k fa fd [x] sp) (hbind:∀ (s:Shared) (u:Value),BindsTo s fd ⟨[u],[]⟩ [(x,u)])
    (hsp:∀ H:Hp,abq H→SqL K H a (ns.map V.int)→sp [.ref a] H (fun v _=>v=.bl true) fun _ _ _=>False)
    (hCX:∀ H e s',CX [] H s₁ (fun _ _ _=>False) e s'→False) :
    codeAny (model P w) callerA (.call (.ref fa) ⟨[.ref a],[]⟩) (fun r s'=>r=.ok (.ret (.bool true))∧OldK s₁.heap s'.heap∧s'.os=s₁.os∧AllBare s'.gens) s₁:=by
  have rv:=Py hi
  have lenV:=hi.length
  have core:∀ H:Hp,abq H→SqL K H a (ns.map V.int)→HOk P w H s₁.heap→(∀ b,H b≠none→b=a)→(H a≠none→K.lookup a=none) →
      codeAny (model P w) callerA (.call (.ref fa) ⟨[.ref a],[]⟩) (fun r s'=>r=.ok (.ret (.bool true))∧OldK s₁.heap s'.heap∧s'.os=s₁.os∧AllBare s'.gens) s₁:=by
    intro H hO hS hok hA hK
    have base_of:∀ {b:Addr} {o:Obj},s₁.heap.get? b=some o→H b=none→(a3h s₁.heap H).get? b=some o:=fun e n=>a3g e n
    have noA:∀ {b:Addr} {o:Obj} {es:Array DictEntry} {ep:Nat},s₁.heap.get? b=some o→o.data=.dict es ep→H b=none:=fun {b o es ep} e d=>by
      cases q:H b with
      | none=>rfl
      | some u =>
        have e':b=a:=hA b (by rw [q]; simp)
        subst e'
        rw [ha] at e; cases e
        have d':Data.seq vs.toArray _=Data.dict es ep:=d
        cases d'
    have nsK:∀ {b:Addr} {m:Str→Option Value},s₁.heap.Ns b m→(a3h s₁.heap H).Ns b m:=fun {b m} ⟨o,es,ep,e,d,r⟩=>⟨o,es,ep,base_of e (noA e d),d,r⟩
    have hKb:K.In (a3h s₁.heap H):=fun b o e=>base_of (KX b o e) (by
      cases q:H b with
      | none=>rfl
      | some u =>
        have e':b=a:=hA b (by rw [q]; simp)
        subst e'
        rw [hK (by rw [q]; simp)] at e; cases e)
    have hM:Mod K mg (a3h s₁.heap H):=⟨hKb,nsK hns,⟨mb,nsK hb,hbb⟩,let ⟨mc,h1,h2⟩:=hlim; ⟨mc,nsK h1,h2⟩⟩
    have e0:a6n P w K mg (a3h s₁.heap H) callerA [] s₁ H:=⟨rfl,hM,fun b o e=>a7v e,Nat.le_of_eq (Y7 _ _),trivial,fun b hb=>absurd (show b∈([]:List Addr) from hb) (by simp),hok,.of_eq hg⟩
    refine codeAny_mono ((F _ hKb (nsK hns)).run callerA [] s₁ H ⟨[.ref a],[]⟩ [.ref a] [.ref a] _ _ hr e0 (hbind s₁ (.ref a)) (.cons rfl .nil) (hsp H hO hS)) fun r s' h=>?_
    cases r with
    | error e=>exact (hCX H e s' h).elim
    | ok fl =>
      cases fl with
      | next=>exact False.elim h
      | brk=>exact False.elim h
      | cont=>exact False.elim h
      | ret u =>
        obtain ⟨v,H',os,bare,un,hok',r',q⟩:=h
        have q':v=.bl true:=q
        subst q'
        obtain rfl:u=Value.bool true:=r'
        refine ⟨rfl,OldK.of_keep fun b o e=>?_,os,bare⟩
        cases q:H b with
        | none=>exact un.keep b o e q (by intro z; exact absurd (show b∈([]:List Addr) from z) (by simp)) (by simp)
        | some u =>
          rcases hO b with z | ⟨ob,xs,z⟩
          · rw [q] at z; cases z
          · have z2:=un.frzs b ob _ z
            obtain ⟨e1,_⟩:=hok b _ z
            obtain ⟨e2,_⟩:=hok' b _ z2
            rw [e] at e1; cases e1
            exact e2
  cases hk:K.lookup a with
  | some o =>
    have e:=KX a o hk
    rw [ha] at e
    cases e
    refine core (fun _=>none) (fun _=>.inl rfl) (.inr ⟨_,vs.toArray,_,hk,rfl,rfl,rfl,by rw [List.size_toArray,lenV]; exact hl,by simpa using rv⟩) (fun b u z=>by have z':(none:Option HO)=some u:=z; cases z') (fun b z=>absurd rfl z) fun z=>absurd rfl z
  | none =>
    refine core (fun b=>if b=a then some (.frz { cls:=.type "list",data:=.seq vs.toArray } (.lst (ns.map V.int))) else none) (fun b=>?_) (.inl (.inr ⟨{ cls:=.type "list",data:=.seq vs.toArray },if_pos rfl⟩)) (fun b u z=>?_) (fun b z=>?_) fun _=>hk
    · by_cases hb:b=a
      · exact .inr ⟨_,_,if_pos hb⟩
      · exact .inl (if_neg hb)
    · by_cases hb:b=a
      · have z':=(if_pos hb).symm.trans z
        cases z'
        subst hb
        exact ⟨ha,by rw [List.length_map]; exact hl,vs,_,rv,ha⟩
      · have z':=(if_neg hb).symm.trans z
        cases z'
    · by_cases hb:b=a
      · exact hb
      · exact absurd (if_neg hb) z
end L2
namespace L2
open PySem PySem.Spec PyProof.Rows
theorem a7m {l:PySem.W.OpenLaw} {n k:Nat} {q:Program} {loose:List Str} {XP:(Str→Option Value)→Heap→Prop} {YP:World→Heap→Prop} {d:DefRec} {K:Params→PySem.W.Frag} {CX:World→CXT} {sp:World→Sp} {x:Str}
    (hn:l.most=some n) (hn2:n≤sizeLine) (hdf:d.params.defaults=[]) (hr:Jl k callerA)
    (hY:∀ (w:World) (h:Heap),YP w h→(K w.params).In h)
    (F:∀ (w:World) (mg:Str→Option Value) (fa:Addr) (h:Heap),(K w.params).In h→h.Ns mainGlobals mg→mg d.name=some (.ref fa) →
      ∃ fd:FuncData,(∀ (s:Shared) (u:Value),BindsTo s fd ⟨[u],[]⟩ [(x,u)]) ∧
        ∀ base:Heap,(K w.params).In base→base.Ns mainGlobals mg→Dh l.prog w (K w.params) mg base (CX w) k fa fd [x] (sp w))
    (hsp:∀ (w:World) (H:Hp) (a:Addr) (ns:List Int),ns.length≤n→abq H→SqL (K w.params) H a (ns.map V.int)→sp w [.ref a] H (fun v _=>v=.bl true) fun _ _ _=>False)
    (hCX:∀ (w:World) (H:Hp) (s:Shared) (e:Value) (s':Shared),CX w [] H s (fun _ _ _=>False) e s'→False) :
    PySem.W.WalkO q loose XP YP l.row.toRowW d [] (fun f vs=>PySem.call f vs):=by
  refine Att.Tp hn hdf fun w s₀ s₁ mg mb fa o pm cd doc a vs ns G Y ho hd hcd hmg hobj hints hlen hg=>?_
  have KX:=hY w _ Y
  obtain ⟨fd,hb,hF⟩:=F w mg fa _ KX G.T.g hmg
  exact a3p KX G.T.g G.T.b G.T.builtins G.T.nolimit hg hobj hints (Nat.le_trans hlen hn2) hr hF hb (fun H hO hS=>hsp w H a ns hlen hO hS) fun H e s'=>hCX w H s₁ e s'
end L2
namespace L2
open PySem PySem.Spec PyProof.Rows
noncomputable def m5 (s:Stmt):Arguments:=match s with
  | .FunctionDef _ a _ _ _ _ _ _ _ _=>a
  | _=>{ posonlyargs:=[],args:=[],vararg:=none,kwonlyargs:=[],kw_defaults:=[],kwarg:=none,defaults:=[] }
noncomputable def jx (s:Stmt):List Stmt:=match s with
  | .FunctionDef _ _ b _ _ _ _ _ _ _=>b
  | _=>[]
noncomputable def gk (s:Stmt):Scope:=match s with
  | .FunctionDef _ _ _ _ _ _ sc _ _ _=>sc
  | _=>{ kind:=.function,names:=[],isGenerator:=false,isCoroutine:=false }
noncomputable abbrev CX0:CXT:=fun _ _ _ _ _ _=>False
noncomputable abbrev E0:XK:=fun _ _ _=>False
theorem a97 {X:Cx}:a1m CX0 X E0:=fun _ _ _ _ _ _ _ h=>h.elim
structure Fun (K:PySem.W.Frag) (x qual:Str) (st:Stmt) (f:Addr) (fd:FuncData):Prop where
  ex:∃ (oc:Value) (od:Option Addr) (kV doc pm:Value) (an:Option Addr) (cdv ct:Value) (osl:Array (Option Value)),
    fd=PySem.W.fnOf x qual (m5 st) (jx st) (gk st) .none kV doc pm an cdv ct∧K.lookup f=some ⟨oc,od,.func fd,osl⟩∧PySem.W.codeIn K cdv qual=true
  kp:PySem.W.keepIn K (.ref f)=true
noncomputable section
variable {P:Program} {w:World} {K:PySem.W.Frag} {mg:Str→Option Value} {base:Heap}
theorem Fun.ok {x qual:Str} {st:Stmt} {f:Addr} {fd:FuncData} {N ps:List Str} {k:Nat} {sp:Sp} (F:Fun K x qual st f fd) (S:m6 N ps (gk st)) (len:∀ vs H Q E,sp vs H Q E→vs.length=ps.length)
    (hbody:∀ (cdv:Value) (A:Around) (outer:List Env) (s:Shared) (H:Hp) (vs:List V) (Q:VK) (E:XK),Jl k (A.deeper (envOfC qual (gk st) s.heap.objs.size f cdv))→sp vs H Q E →
      ∃ t,PSs (a5m CX0 P w K mg base N qual (gk st) f cdv A outer s H E).nox (jx st) t∧t { nx:=fun _ H'=>Q .non H',rt:=Q } (start N vs) H):Dh P w K mg base CX0 (k+1) f fd ps sp:=by
  obtain ⟨oc,od,kV,doc,pm,an,cdv,ct,osl,rfl,lk,hcd⟩:=F.ex
  refine a1v lk hcd S len fun A outer s H vs Q E hr hsp=>?_
  obtain ⟨t,h,q⟩:=hbody cdv A outer s H vs Q E hr hsp
  exact ⟨t,h.nox,q⟩
theorem Fun.binds {x qual:Str} {st:Stmt} {f:Addr} {fd:FuncData} {ps:List Str} (F:Fun K x qual st f fd)
    (h:∀ (kV doc pm:Value) (an:Option Addr) (cdv ct:Value) (us:List Value),us.length=ps.length→bindArgs (PySem.W.fnOf x qual (m5 st) (jx st) (gk st) .none kV doc pm an cdv ct) ⟨us,[]⟩=pure (ps.zip us)):Ph K fd ps []:=by
  obtain ⟨oc,od,kV,doc,pm,an,cdv,ct,osl,rfl,lk,hcd⟩:=F.ex
  exact .all (h kV doc pm an cdv ct)
theorem bd1 {fd:FuncData} {ps:List Str} (h:∀ a,bindArgs fd ⟨[a],[]⟩=pure (ps.zip [a])) (us:List Value) (hl:us.length=1):bindArgs fd ⟨us,[]⟩=pure (ps.zip us):=by
  cases us with
  | nil=>exact nomatch hl
  | cons a us =>
  cases us with
  | cons _ _=>simp at hl
  | nil=>exact h a
theorem bd2 {fd:FuncData} {ps:List Str} (h:∀ a b,bindArgs fd ⟨[a,b],[]⟩=pure (ps.zip [a,b])) (us:List Value) (hl:us.length=2):bindArgs fd ⟨us,[]⟩=pure (ps.zip us):=by
  cases us with
  | nil=>exact nomatch hl
  | cons a us =>
  cases us with
  | nil=>exact nomatch hl
  | cons b us =>
  cases us with
  | cons _ _=>simp at hl
  | nil=>exact h a b
theorem bd3 {fd:FuncData} {ps:List Str} (h:∀ a b c,bindArgs fd ⟨[a,b,c],[]⟩=pure (ps.zip [a,b,c])) (us:List Value) (hl:us.length=3):bindArgs fd ⟨us,[]⟩=pure (ps.zip us):=by
  cases us with
  | nil=>exact nomatch hl
  | cons a us =>
  cases us with
  | nil=>exact nomatch hl
  | cons b us =>
  cases us with
  | nil=>exact nomatch hl
  | cons c us =>
  cases us with
  | cons _ _=>simp at hl
  | nil=>exact h a b c
theorem bd4 {fd:FuncData} {ps:List Str} (h:∀ a b c d,bindArgs fd ⟨[a,b,c,d],[]⟩=pure (ps.zip [a,b,c,d])) (us:List Value) (hl:us.length=4):bindArgs fd ⟨us,[]⟩=pure (ps.zip us):=by
  cases us with
  | nil=>exact nomatch hl
  | cons a us =>
  cases us with
  | nil=>exact nomatch hl
  | cons b us =>
  cases us with
  | nil=>exact nomatch hl
  | cons c us =>
  cases us with
  | nil=>exact nomatch hl
  | cons d us =>
  cases us with
  | cons _ _=>simp at hl
  | nil=>exact h a b c d
theorem uw {x qual:Str} {st:Stmt} {f:Addr} {oc:Value} {od an:Option Addr} {osl:Array (Option Value)} {kV doc pm cdv ct:Value} (l:K.lookup f=some ⟨oc,od,.func (PySem.W.fnOf x qual (m5 st) (jx st) (gk st) .none kV doc pm an cdv ct),osl⟩)
    (c:PySem.W.codeIn K cdv qual=true) (k:PySem.W.keepIn K (.ref f)=true):Fun K x qual st f (PySem.W.fnOf x qual (m5 st) (jx st) (gk st) .none kV doc pm an cdv ct):=⟨⟨oc,od,kV,doc,pm,an,cdv,ct,osl,rfl,l,c⟩,k⟩
end
theorem Bb {A:Around} {k:Nat} (hr:Jl k A):A.units+1<cLine:=Nat.lt_of_le_of_lt (Nat.add_le_add_left (by decide:1≤64) _) hr.units
theorem Ir {n:Nat} (h:n≤1000):n<sizeLine:=Nat.lt_of_le_of_lt h (by decide)
noncomputable section
variable {X:Cx}
theorem pv (i:Nat) {x:Str} {pos:Pos} (hN:X.N[i]? = some x:=by rfl) (hv:Vis X.env.scope x:=by first | exact Or.inl rfl | exact Or.inr (Or.inl rfl) | exact Or.inr (Or.inr rfl)) (hd:(x==("__debug__" : Str))=false:=by decide)
    (hcd:(x==("__classdict__" : Str))=false:=by decide):PE X (.Name x pos) (a1r i):=a8q hN hv hd hcd
end
theorem a6l {A B:Prop} (h:B):if false=true then A else B:=by
  rw [if_neg Bool.false_ne_true]
  exact h
theorem a72 {A B:Prop} (h:A):if true=true then A else B:=by
  rw [if_pos rfl]
  exact h
noncomputable def yq (H H':Hp):Prop:=∀ b o,H b=some o→H' b=some o
theorem yq.refl (H:Hp):yq H H:=fun _ _ h=>h
theorem yq.trans {H H1 H2:Hp} (a:yq H H1) (b:yq H1 H2):yq H H2:=fun c o h=>b c o (a c o h)
theorem yq.free {H H':Hp} (e:yq H H') {l:Addr} (h:H' l=Option.none):H l=Option.none:=by
  cases q:H l with
  | none=>rfl
  | some o =>
    rw [e l o q] at h
    cases h
theorem yq.seq {K:PySem.W.Frag} {H H':Hp} {a:Addr} {xs:List V} (e:yq H H') (h:SqL K H a xs):SqL K H' a xs:=by
  rcases h with (h | ⟨o,h⟩) | h
  · exact .inl (.inl (e _ _ h))
  · exact .inl (.inr ⟨o,e _ _ h⟩)
  · exact .inr h
end L2
end
noncomputable section
set_option linter.all false
set_option maxRecDepth 100000
namespace L2
open PySem PySem.Spec PyProof.Rows
noncomputable section
variable {X:Cx}
end
noncomputable section
variable {κ:Type} [DecidableEq κ]
end
end L2
end
noncomputable section
namespace C
open PySem
noncomputable abbrev Key:=Sum Int Str
inductive T where
  | non | bl (b:Bool) | int (i:Int) | str (x:Str)
  | tup (xs:List T) | lst (xs:List T) | dic (kvs:List (Key × T)) | obj (n:Nat)
instance:Inhabited T:=⟨.non⟩
inductive SO where
  | dic (kvs:List (Key × T)) | lst (xs:List T) | ins (c:Str) (fs:List (Str × T))
noncomputable abbrev Slot:=Option (T × Bool)
structure Sta where
  env:List Slot
  sto:List SO
noncomputable abbrev M (α:Type):=Sta→Option (α × Sta)
noncomputable def G9 (k:Key):List (Key × T)→Option T
  | []=>none
  | (q,t)::r=>if q=k then some t else G9 k r
noncomputable def Rw (k:Key) (t:T) (kvs:List (Key × T)):List (Key × T) :=
  if kvs.any fun p=>decide (p.1=k) then kvs.map fun p=>if p.1=k then (p.1,t) else p else kvs++[(k,t)]
noncomputable def K4:T→Option Key
  | .int i=>some (.inl i)
  | .str x=>some (.inr x)
  | _=>none
noncomputable def Xj:Key→T
  | .inl i=>.int i
  | .inr x=>.str x
mutual
noncomputable def dat:T→Option PyData
  | .non=>some .none
  | .bl b=>some (.bool b)
  | .int i=>some (.int i)
  | .str x=>if PyData.canLay0 (.str x) then some (.str x) else none
  | .tup xs=>(Px xs).map .tuple
  | .lst xs=>(Px xs).map .list
  | .dic _=>none
  | .obj _=>none
noncomputable def Px:List T→Option (List PyData)
  | []=>some []
  | x::r=>match dat x with
    | some a=>(Px r).map (a :: ·)
    | none=>none
end
noncomputable def eqD (a b:T):Option Bool:=match dat a with
  | some x=>match dat b with
    | some y=>if x.depth≤40 then some (PyData.eqv x y) else none
    | none=>none
  | none=>none
noncomputable def a81:List (Key × T)→List (Key × T)→Option Bool
  | [],_=>some true
  | (k,x)::r,ys=>match G9 k ys with
    | none=>some false
    | some y=>match eqD x y with
      | some e=>(a81 r ys).map (e && ·)
      | none=>none
noncomputable def eqT:T→T→Option Bool
  | .dic a,.dic b=>if a.length=b.length then a81 a b else some false
  | x,y=>eqD x y
noncomputable def aq (t:T):M T:=fun s=>some (t,s)
noncomputable def cj (i:Nat):M T:=fun s=>match s.env[i]? with
  | some (some (t,false))=>some (t,s)
  | some (some (t,true))=>some (t,{ s with env:=s.env.set i (some (t,false)) })
  | _=>none
noncomputable def iy:M (List T):=fun s=>some ([],s)
noncomputable def ak (a:M T) (r:M (List T)):M (List T):=fun s=>match a s with
  | some (t,s1)=>match r s1 with
    | some (ts,s2)=>some (t::ts,s2)
    | none=>none
  | none=>none
noncomputable def j8:List Str→M (List T)
  | []=>iy
  | x::r=>ak (aq (.str x)) (j8 r)
noncomputable def jg (f:List T→Option T) (a:M (List T)):M T:=fun s=>match a s with
  | some (ts,s1)=>match f ts with
    | some t=>some (t,s1)
    | none=>none
  | none=>none
noncomputable def mUn (f:T→Option T) (a:M T):M T:=fun s=>match a s with
  | some (t,s1)=>match f t with
    | some u=>some (u,s1)
    | none=>none
  | none=>none
noncomputable def mOp (f:T→T→Option T) (a b:M T):M T:=fun s=>match a s with
  | some (t,s1)=>match b s1 with
    | some (u,s2)=>match f t u with
      | some v=>some (v,s2)
      | none=>none
    | none=>none
  | none=>none
noncomputable abbrev Fn:=List T→List SO→Option (T × List SO)
noncomputable def dw (F:Fn) (a:M (List T)):M T:=fun s=>match a s with
  | some (ts,s1)=>match F ts s1.sto with
    | some (t,sto)=>some (t,{ s1 with sto:=sto })
    | none=>none
  | none=>none
noncomputable def gj (a:M T):M Bool:=fun s=>match a s with
  | some (.bl b,s1)=>some (b,s1)
  | _=>none
noncomputable def m7 (a:M Bool):M Bool:=fun s=>match a s with
  | some (b,s1)=>some (!b,s1)
  | none=>none
noncomputable def m8 (a b:M Bool):M Bool:=fun s=>match a s with
  | some (true,s1)=>b s1
  | some (false,s1)=>some (false,s1)
  | none=>none
noncomputable def mOr (a b:M Bool):M Bool:=fun s=>match a s with
  | some (true,s1)=>some (true,s1)
  | some (false,s1)=>b s1
  | none=>none
noncomputable def j7 (a:M Bool):M T:=fun s=>match a s with
  | some (b,s1)=>some (.bl b,s1)
  | none=>none
noncomputable def mIf (c:M Bool) (a b:M T):M T:=fun s=>match c s with
  | some (true,s1)=>a s1
  | some (false,s1)=>b s1
  | none=>none
noncomputable abbrev lim:Nat:=1000000
noncomputable def Mq (i:Int):Bool:=decide (-(2 ^ 64)<i∧i<2 ^ 64)
noncomputable def jr:T→T→Option T
  | .int i,.int j=>some (.int (i+j))
  | .str x,.str y=>if x.length+y.length<lim then some (.str (x++y)) else none
  | .tup x,.tup y=>if x.length+y.length<lim then some (.tup (x++y)) else none
  | .lst x,.lst y=>if x.length+y.length<lim then some (.lst (x++y)) else none
  | _,_=>none
noncomputable def ju:T→T→Option T
  | .int i,.int j=>some (.int (i - j))
  | _,_=>none
noncomputable def Mh:T→T→Option T
  | .int i,.int j=>if Mq i||Mq j then some (.int (i * j)) else none
  | .str x,.int j=>if 0≤j∧j≤1000∧x.length≤100 then some (.str ⟨((List.replicate j.toNat x.cps.toList).flatten).toArray⟩) else none
  | _,_=>none
noncomputable def kj:T→T→Option T
  | .int i,.int j=>if 0<j then some (.int (i%j)) else none
  | _,_=>none
noncomputable def fdl:Nat:=2 ^ 200
noncomputable def j6:T→T→Option T
  | .int i,.int j=>if 0<j∧(j<1073741824∨j.natAbs<fdl) then some (.int (i / j)) else none
  | _,_=>none
noncomputable def Vn:T→T→Option T
  | .int i,.int j=>if 0≤j∧j≤1000∧i.natAbs<1000 then some (.int (i ^ j.toNat)) else none
  | _,_=>none
noncomputable def mj:T→Option T
  | .int i=>some (.int (-i))
  | _=>none
noncomputable def ltT:T→T→Option T
  | .int i,.int j=>some (.bl (decide (i<j)))
  | _,_=>none
noncomputable def leT:T→T→Option T
  | .int i,.int j=>some (.bl (decide (i≤j)))
  | _,_=>none
noncomputable def gtT:T→T→Option T
  | .int i,.int j=>some (.bl (decide (j<i)))
  | _,_=>none
noncomputable def eqO (x y:T):Option T:=match eqT x y with
  | some b=>some (.bl b)
  | none=>none
noncomputable def neO (x y:T):Option T:=match eqT x y with
  | some b=>some (.bl (!b))
  | none=>none
noncomputable def ixI (n:Nat) (i:Int):Option Nat:=if 0≤i then (if i<n then some i.toNat else none) else if -(n:Int)≤i then some (i+n).toNat else none
noncomputable def iz:T→T→Option T
  | .tup xs,.int i=>(ixI xs.length i).bind (xs[·]?)
  | .lst xs,.int i=>(ixI xs.length i).bind (xs[·]?)
  | .str x,.int i=>if x.length<lim then (ixI x.cps.toList.length i).bind fun j=>(x.cps.toList[j]?).map fun c=>.str ⟨#[c]⟩ else none
  | .dic kvs,k=>(K4 k).bind (G9 · kvs)
  | _,_=>none
noncomputable def lq:List T→Option T
  | [.tup xs]=>some (.int xs.length)
  | [.lst xs]=>some (.int xs.length)
  | [.str x]=>if x.length<lim then some (.int x.length) else none
  | [.dic kvs]=>some (.int kvs.length)
  | _=>none
noncomputable def inL (x:T):List T→Option Bool
  | []=>some false
  | y::r=>match eqD y x with
    | some e=>(inL x r).map (e || ·)
    | none=>none
noncomputable def inT (x y:T):Option T:=match y with
  | .dic kvs=>(K4 x).map fun q=>.bl (G9 q kvs).isSome
  | _=>if (dat x).isSome then (match y with
    | .tup ys=>(inL x ys).map .bl
    | .lst ys=>(inL x ys).map .bl
    | _=>none) else none
noncomputable def Pk (x y:T):Option T:=match inT x y with
  | some (.bl b)=>some (.bl (!b))
  | _=>none
noncomputable def Aj:List T→Option T
  | [.lst xs]=>some (.tup xs)
  | [.tup xs]=>some (.tup xs)
  | _=>none
noncomputable def Bw:List T→Option (List (Key × T))
  | []=>some []
  | .tup [k,v]::r=>match K4 k,Bw r with
    | some q,some l=>some ((q,v)::l)
    | _,_=>none
  | _=>none
noncomputable def Mp:List T→Option T
  | [.lst xs]=>if xs.length<lim then (Bw xs).map fun l=>.dic (l.foldl (fun d p=>Rw p.1 p.2 d) []) else none
  | [.tup xs]=>if xs.length<lim then (Bw xs).map fun l=>.dic (l.foldl (fun d p=>Rw p.1 p.2 d) []) else none
  | [.dic kvs]=>some (.dic kvs)
  | _=>none
noncomputable def Xg:List T→Option (List Int)
  | []=>some []
  | .int i::r=>(Xg r).map (i :: ·)
  | _=>none
noncomputable def a6f:List T→Option T
  | [.lst xs]=>(Xg xs).map fun l=>.int l.sum
  | _=>none
noncomputable def Nm:List T→Option (List Bool)
  | []=>some []
  | .bl b::r=>(Nm r).map (b :: ·)
  | _=>none
noncomputable def a7f:List T→Option T
  | [.lst xs]=>(Nm xs).map fun l=>.bl (l.any id)
  | _=>none
noncomputable def Jg:List T→Option (List Str)
  | []=>some []
  | .str x::r=>(Jg r).map (x :: ·)
  | _=>none
noncomputable def Mg (x:Str):List Str→List Str
  | []=>[x]
  | y::r=>if decide (x.cps.toList<y.cps.toList) then x::y::r else y::Mg x r
noncomputable def Bg (l:List Str):List Str:=l.foldl (fun acc x=>Mg x acc) []
noncomputable def Dg:List Str→List Str
  | []=>[]
  | x::r=>if x∈r then Dg r else x::Dg r
noncomputable def Em:List T→Option T
  | [.lst xs]=>if xs.length<64 then (Jg xs).map fun l=>.lst ((Bg l).map .str) else none
  | [.dic kvs]=>if kvs.length<64 then (Jg (kvs.map fun p=>Xj p.1)).map fun l=>.lst ((Bg l).map .str) else none
  | _=>none
noncomputable def Ck:List T→Option T
  | [.lst xs]=>(Jg xs).bind fun l=>if l.length<lim∧(Dg l).length<64 then some (.lst ((Bg (Dg l)).map .str)) else none
  | _=>none
noncomputable def a7k:T→Option T
  | .lst xs=>some (.lst xs.reverse)
  | .tup xs=>some (.tup xs.reverse)
  | _=>none
noncomputable def a2l:T→Bool
  | .non=>true
  | _=>false
noncomputable def Nj (x y:T):Option T:=if a2l y then some (.bl (!a2l x)) else none
noncomputable def mq:List T→Option T
  | [.int i]=>some (.int (if i<0 then -i else i))
  | _=>none
noncomputable def Gz (i:Nat):M T:=fun s=>match s.env[i]? with
  | some (some (.lst xs,_))=>some (.int xs.length,s)
  | some (some (.dic xs,_))=>some (.int xs.length,s)
  | _=>none
noncomputable def j5 (i:Nat) (s:Sta):Bool:=match s.env[i]? with
  | some (some (.lst _,_))=>true
  | _=>false
noncomputable def Di (o k:M T):M T:=fun s=>match o s with
  | some (.obj n,s1)=>match k s1 with
    | some (.int i,s2)=>match s2.sto[n]? with
      | some (.lst xs)=>match (ixI xs.length i).bind (xs[·]?) with
        | some t=>some (t,s2)
        | none=>none
      | _=>none
    | _=>none
  | _=>none
noncomputable def G4 (o:M T):M T:=fun s=>match o s with
  | some (.obj n,s1)=>match s1.sto[n]? with
    | some (.lst xs)=>some (.int xs.length,s1)
    | _=>none
  | _=>none
noncomputable def Eo (a:M (List T)):M T:=fun s=>match a s with
  | some (ts,s1)=>some (.obj s1.sto.length,{ s1 with sto:=s1.sto++[.lst ts] })
  | none=>none
inductive Flow where
  | next | ret (t:T) | brk | cont
noncomputable abbrev S:=Sta→Option (Flow × Sta)
noncomputable def jo:S:=fun s=>some (.next,s)
noncomputable def jc (a b:S):S:=fun s=>match a s with
  | some (.next,s1)=>b s1
  | r=>r
noncomputable def jj (e:M T):S:=fun s=>match e s with
  | some (t,s1)=>some (.ret t,s1)
  | none=>none
noncomputable def sIf (c:M Bool) (a b:S):S:=fun s=>match c s with
  | some (true,s1)=>a s1
  | some (false,s1)=>b s1
  | none=>none
noncomputable def bw (i:Nat) (t:T) (own:Bool) (s:Sta):Sta:={ s with env:=s.env.set i (some (t,own)) }
noncomputable def jk (i:Nat) (e:M T):S:=fun s=>match e s with
  | some (t,s1)=>some (.next,bw i t false s1)
  | none=>none
noncomputable def lg (i:Nat) (e:M T):S:=fun s=>match e s with
  | some (t,s1)=>some (.next,bw i t true s1)
  | none=>none
noncomputable def cg (i:Nat) (e:M T):S:=fun s=>if j5 i s then (match e s with
  | some (t,s1)=>match s1.env[i]? with
    | some (some (.lst xs,true))=>if xs.length<lim then some (.next,bw i (.lst (xs++[t])) true s1) else none
    | _=>none
  | none=>none) else none
noncomputable def j4:T→Option (List T)
  | .lst xs=>some xs
  | .tup xs=>some xs
  | _=>none
noncomputable def cu (i:Nat) (e:M T):S:=fun s=>if j5 i s then (match e s with
  | some (t,s1)=>match j4 t,s1.env[i]? with
    | some ys,some (some (.lst xs,true))=>if xs.length+ys.length<lim then some (.next,bw i (.lst (xs++ys)) true s1) else none
    | _,_=>none
  | none=>none) else none
noncomputable def bh (i:Nat):S:=fun s=>match s.env[i]? with
  | some (some (.lst xs,true))=>some (.next,bw i (.lst xs.reverse) true s)
  | _=>none
noncomputable def sNx (u:S):S:=fun s=>match u s with
  | some (.next,s1)=>some (.next,s1)
  | _=>none
noncomputable def dg (i:Nat):S:=fun s=>match s.env[i]? with
  | some (some (t,true))=>some (.ret t,s)
  | _=>none
noncomputable def Gj (o k v:M T):S:=fun s=>match v s with
  | some (t,s1)=>match o s1 with
    | some (.obj n,s2)=>match k s2 with
      | some (.int i,s3)=>match s3.sto[n]? with
        | some (.lst xs)=>match ixI xs.length i with
          | some j=>some (.next,{ s3 with sto:=s3.sto.set n (.lst (xs.set j t)) })
          | none=>none
        | _=>none
      | _=>none
    | _=>none
  | none=>none
noncomputable def Lz (i:Nat) (v:M T):S:=fun s=>match s.env[i]? with
  | some (some (.obj n,false))=>match s.sto[n]? with
    | some (.lst _)=>match v s with
      | some (t,s1)=>match s1.sto[n]? with
        | some (.lst xs)=>if xs.length<lim then some (.next,{ s1 with sto:=s1.sto.set n (.lst (xs++[t])) }) else none
        | _=>none
      | none=>none
    | _=>none
  | _=>none
noncomputable abbrev G:=T→Sta→Option Sta
noncomputable def gq (i:Nat):G:=fun t s=>some (bw i t false s)
noncomputable def jw (is:List Nat):G:=fun t s=>match t with
  | .tup xs=>if xs.length=is.length then some ((is.zip xs).foldl (fun s p=>bw p.1 p.2 false s) s) else none
  | _=>none
noncomputable def sGo (g:G) (m:M T):S:=fun s=>match m s with
  | some (t,s1)=>match g t s1 with
    | some s2=>some (.next,s2)
    | none=>none
  | none=>none
noncomputable def Fo (g:G) (b:S):List T→S
  | []=>fun s=>some (.next,s)
  | t::r=>fun s=>match g t s with
    | some s1=>match b s1 with
      | some (.next,s2)=>Fo g b r s2
      | some (.cont,s2)=>Fo g b r s2
      | some (.brk,s2)=>some (.next,s2)
      | some (.ret v,s2)=>some (.ret v,s2)
      | none=>none
    | none=>none
noncomputable def jt (g:G) (it:M (List T)) (b:S):S:=fun s=>match it s with
  | some (ts,s1)=>Fo g b ts s1
  | none=>none
noncomputable def El (n:Nat):List T:=(List.range n).map fun (k:Nat)=>.int (k:Int)
noncomputable def fj (a:M T):M (List T):=fun s=>match a s with
  | some (.int n,s1)=>if n.natAbs<lim then some (El n.toNat,s1) else none
  | _=>none
noncomputable def jm (a:M T):M (List T):=fun s=>match a s with
  | some (.lst xs,s1)=>if xs.length<lim then some (xs,s1) else none
  | some (.tup xs,s1)=>if xs.length<lim then some (xs,s1) else none
  | _=>none
noncomputable def kh (s:Slot):Slot:=match s with
  | some (t,_)=>some (t,false)
  | none=>none
noncomputable def ur (s:Sta):Sta:={ s with env:=s.env.map kh }
noncomputable def Ew (g:G) (c:M Bool) (e:M T):List T→Sta→List T→Option (List T × Sta)
  | [],s,acc=>some (acc,s)
  | t::r,s,acc=>match g t s with
    | some s1=>match c s1 with
      | some (true,s2)=>match e s2 with
        | some (u,s3)=>if acc.length<lim then Ew g c e r (ur s3) (acc++[u]) else none
        | none=>none
      | some (false,s2)=>Ew g c e r (ur s2) acc
      | none=>none
    | none=>none
noncomputable def iw:M Bool:=fun s=>some (true,s)
noncomputable def au (is:List Nat) (env:List Slot):List Slot:=is.foldl (fun e i=>match e[i]? with
  | some (some (t,_))=>e.set i (some (t,false))
  | _=>e) env
noncomputable def zj (nv:Nat) (cap:List Nat) (g:G) (it:M (List T)) (c:M Bool) (e:M T):M T:=fun s=>match it s with
  | some (ts,s1) =>
    let env:=au cap s1.env
    match Ew g c e ts ⟨List.replicate nv none++cap.map (fun i=>(env[i]?).getD none),s1.sto⟩ [] with
    | some (us,s2)=>some (.lst us,⟨env,s2.sto⟩)
    | none=>none
  | none=>none
noncomputable def iu (n:Nat) (b:S):Fn:=fun ts sto=>match b ⟨ts.map (fun t=>some (t,false))++List.replicate (n - ts.length) none,sto⟩ with
  | some (.ret t,s)=>some (t,s.sto)
  | some (.next,s)=>some (.non,s.sto)
  | _=>none
noncomputable section
variable {s s':Sta} {t v:T} {a b:M T}
theorem Ox {f:T→T→Option T} (h:mOp f a b s=some (v,s')):∃ t s1 u,a s=some (t,s1)∧b s1=some (u,s')∧f t u=some v:=by
  unfold mOp at h
  cases ha:a s with
  | none=>rw [ha] at h; cases h
  | some p =>
    obtain ⟨t,s1⟩:=p; rw [ha] at h; dsimp only at h
    cases hb:b s1 with
    | none=>rw [hb] at h; cases h -- here
    | some p =>
      obtain ⟨u,s2⟩:=p; rw [hb] at h; dsimp only at h
      cases hf:f t u with
      | none=>rw [hf] at h; cases h
      | some w=>rw [hf] at h; cases h; exact ⟨t,s1,u,rfl,hb,hf⟩
theorem Zh {f:T→Option T} (h:mUn f a s=some (v,s')):∃ t,a s=some (t,s')∧f t=some v:=by
  unfold mUn at h
  cases ha:a s with
  | none=>rw [ha] at h; cases h
  | some p =>
    obtain ⟨t,s1⟩:=p; rw [ha] at h; dsimp only at h
    cases hf:f t with
    | none=>rw [hf] at h; cases h
    | some w=>rw [hf] at h; cases h; exact ⟨t,rfl,hf⟩
theorem Hr {f:List T→Option T} {a:M (List T)} (h:jg f a s=some (v,s')):∃ ts,a s=some (ts,s')∧f ts=some v:=by
  unfold jg at h
  cases ha:a s with
  | none=>rw [ha] at h; cases h
  | some p =>
    obtain ⟨t,s1⟩:=p; rw [ha] at h; dsimp only at h
    cases hf:f t with
    | none=>rw [hf] at h; cases h
    | some w=>rw [hf] at h; cases h; exact ⟨t,rfl,hf⟩
theorem Im {r:M (List T)} {ts:List T} (h:ak a r s=some (ts,s')):∃ t s1 us,a s=some (t,s1)∧r s1=some (us,s')∧ts=t::us:=by
  unfold ak at h
  cases ha:a s with
  | none=>rw [ha] at h; cases h
  | some p =>
    obtain ⟨t,s1⟩:=p; rw [ha] at h; dsimp only at h
    cases hb:r s1 with
    | none=>rw [hb] at h; cases h -- here
    | some p=>obtain ⟨u,s2⟩:=p; rw [hb] at h; cases h; exact ⟨t,s1,u,rfl,hb,rfl⟩
theorem Qx {F:Fn} {a:M (List T)} (h:dw F a s=some (v,s')):∃ ts s1 sto,a s=some (ts,s1)∧F ts s1.sto=some (v,sto)∧s' = { s1 with sto:=sto }:=by
  unfold dw at h
  cases ha:a s with
  | none=>rw [ha] at h; cases h
  | some p =>
    obtain ⟨t,s1⟩:=p; rw [ha] at h; dsimp only at h
    cases hf:F t s1.sto with
    | none=>rw [hf] at h; cases h
    | some w=>obtain ⟨w,sto⟩:=w; rw [hf] at h; cases h; exact ⟨t,s1,sto,rfl,hf,rfl⟩
theorem Fz {b:Bool} (h:gj a s=some (b,s')):a s=some (.bl b,s'):=by
  unfold gj at h
  cases ha:a s with
  | none=>rw [ha] at h; cases h
  | some p =>
    obtain ⟨t,s1⟩:=p; rw [ha] at h
    cases t <;> first | (cases h; rfl) | (cases h)
theorem Pn {c:M Bool} (h:j7 c s=some (v,s')):∃ b,c s=some (b,s')∧v=.bl b:=by
  unfold j7 at h
  cases ha:c s with
  | none=>rw [ha] at h; cases h
  | some p=>obtain ⟨t,s1⟩:=p; rw [ha] at h; cases h; exact ⟨t,rfl,rfl⟩
theorem Uu {c:M Bool} {b:Bool} (h:m7 c s=some (b,s')):∃ k,c s=some (k,s')∧b=!k:=by
  unfold m7 at h
  cases ha:c s with
  | none=>rw [ha] at h; cases h
  | some p=>obtain ⟨t,s1⟩:=p; rw [ha] at h; cases h; exact ⟨t,rfl,rfl⟩
theorem a3z {c d:M Bool} {b:Bool} (h:m8 c d s=some (b,s')):(∃ s1,c s=some (true,s1)∧d s1=some (b,s'))∨(c s=some (false,s')∧b=false):=by
  unfold m8 at h
  cases ha:c s with
  | none=>rw [ha] at h; cases h
  | some p =>
    obtain ⟨k,s1⟩:=p; rw [ha] at h
    cases k with
    | true=>exact .inl ⟨s1,rfl,h⟩
    | false=>cases h; exact .inr ⟨rfl,rfl⟩
theorem Zj {c d:M Bool} {b:Bool} (h:mOr c d s=some (b,s')):(∃ s1,c s=some (false,s1)∧d s1=some (b,s'))∨(c s=some (true,s')∧b=true):=by
  unfold mOr at h
  cases ha:c s with
  | none=>rw [ha] at h; cases h
  | some p =>
    obtain ⟨k,s1⟩:=p; rw [ha] at h
    cases k with
    | false=>exact .inl ⟨s1,rfl,h⟩
    | true=>cases h; exact .inr ⟨rfl,rfl⟩
theorem a7e {c:M Bool} (h:mIf c a b s=some (v,s')):(∃ s1,c s=some (true,s1)∧a s1=some (v,s'))∨(∃ s1,c s=some (false,s1)∧b s1=some (v,s')):=by
  unfold mIf at h
  cases ha:c s with
  | none=>rw [ha] at h; cases h
  | some p =>
    obtain ⟨k,s1⟩:=p; rw [ha] at h
    cases k with
    | true=>exact .inl ⟨s1,rfl,h⟩
    | false=>exact .inr ⟨s1,rfl,h⟩
theorem V1 {i:Nat} (h:cj i s=some (v,s')):(s.env[i]? = some (some (v,false))∧s'=s)∨(s.env[i]? = some (some (v,true))∧s' = { s with env:=s.env.set i (some (v,false)) }):=by
  unfold cj at h
  split at h
  · rename_i t e; cases h; exact .inl ⟨e,rfl⟩
  · rename_i t e; cases h; exact .inr ⟨e,rfl⟩
  · cases h
end
end C
end
noncomputable section
set_option linter.all false
set_option maxRecDepth 100000
set_option maxHeartbeats 4000002
namespace L2
open PySem PySem.Spec PyProof.Rows
noncomputable section
variable {pr:Program} {wd:World} {Ar:Around} {Rs:Result→Shared→Prop} {s:Shared}
theorem Ru {el tgt itr:Expr} {cs:List Expr} {scp:Scope} {ps:Pos} {itv accv:Value} {en:Env} (J:Nat→Shared→Prop)
    (turn:∀ n z,J n z→wpAny (model pr wd) Ar (pyNext itv) (fun nx z1=>match nx with
      | none=>Rs (.ok .next) z1
      | some v=>wpAny (model pr wd) Ar (letOwnedTupleGo tgt itv v) (fun _ z2=>wpAny (model pr wd) Ar (assign tgt en v) (fun _ z3 =>
          wpAny (model pr wd) Ar (forIn cs true fun c go=>if go=true then do let ok ← isTrue c en (eval c en); pure (ForInStep.yield ok) else pure (ForInStep.yield go)) (fun ok z4 =>
            if ok=true then wpAny (model pr wd) Ar (eval el en) (fun x z5 =>
              wpAny (model pr wd) Ar (call (.builtin "list.append") [accv,x]) (fun _ z6=>∃ m,m<n∧J m z6) (fun _ _=>False) z5) (fun _ _=>False) z4
            else ∃ m,m<n∧J m z4) (fun _ _=>False) z3) (fun _ _=>False) z2) (fun _ _=>False) z1) (fun _ _=>False) z)
    (n:Nat) (h:J n s) :
    codeAny (model pr wd) Ar (.compLoop (.ListComp el [⟨tgt,itr,cs,0⟩] scp ps) 0 itv accv en) Rs s:=by
  refine codeAny_loop rfl J (fun k z hz=>?_) n h
  show wpAny _ Ar ((compTurn (.ListComp el [⟨tgt,itr,cs,0⟩] scp ps) 0 itv accv en).onRaise (fun ex=>do noteFrame ex en; theTreesLotGoes ex)) _ _ z
  refine wpAny_noted ?_
  rw [compTurn_list]
  refine wpAny_bind (wpAny_standAt (wpAny_bind (wpAny_mono (turn k z hz) (fun nx z1 g1=>?_) fun _ _ no=>no.elim)))
  cases nx with
  | none=>exact wpAny_pure g1
  | some v =>
    refine wpAny_bind (wpAny_mono g1 (fun _ z2 g2=>?_) fun _ _ no=>no.elim)
    refine wpAny_bind (wpAny_mono g2 (fun _ z3 g3=>wpAny_bind (wpAny_mono g3 (fun ok z4 g4=>?_) fun _ _ no=>no.elim)) fun _ _ no=>no.elim)
    cases ok with
    | false=>exact wpAny_pure (And.intro rfl g4)
    | true =>
      exact wpAny_bind (wpAny_bind (wpAny_mono g4 (fun x z5 g5=>wpAny_bind (wpAny_mono g5 (fun _ z6 g6=>wpAny_pure (wpAny_pure (And.intro rfl g6))) fun _ _ no=>no.elim)) fun _ _ no=>no.elim))
end
noncomputable def X3 (env:Env):List (Str × NameKind)→List (Str × Addr)→List (Str × Addr)
  | [],cs=>cs
  | (n,k)::r,cs=>X3 env r (if (k==NameKind.free)=true then (match env.cells.lookup n with | some c=>(n,c)::cs | none=>cs) else cs)
noncomputable def Gb (env:Env) (names:List (Str × NameKind)):Bool:=names.all fun y=>!(y.2==NameKind.free)||(env.cells.lookup y.1).isSome
theorem Hu {scope:Scope} {env:Env} (h:Gb env scope.names=true):closureFor scope env=pure (X3 env scope.names []):=by
  have key:∀ (l:List (Str × NameKind)) (cs:List (Str × Addr)),Gb env l=true →
      (forIn (m:=Sem) l cs fun x r=>(do
        if (x.2==NameKind.free)=true then
          let c ← cellOf env x.1
          pure (ForInStep.yield ((x.1,c)::r))
        else pure (ForInStep.yield r)))=pure (X3 env l cs):=by
    intro l
    induction l with
    | nil=>intro cs _; rfl
    | cons x r ih =>
      intro cs h
      obtain ⟨n,k⟩:=x
      unfold Gb at h
      rw [List.all_cons,Bool.and_eq_true] at h -- here
      obtain ⟨h1,h2⟩:=h
      rw [List.forIn_cons]
      by_cases hk:(k==NameKind.free)=true
      · have h1':(env.cells.lookup n).isSome=true:=by simpa [hk] using h1
        obtain ⟨c,hc⟩:=Option.isSome_iff_exists.mp h1'
        have e:cellOf env n=pure c:=by unfold cellOf; rw [hc]
        simp only [hk,if_true,e,pure_bind]
        rw [ih _ h2]
        simp only [X3,hk,if_true,hc]
      · simp only [hk,if_false,pure_bind,Bool.false_eq_true]
        rw [ih _ h2]
        simp only [X3,hk,if_false,Bool.false_eq_true]
  have:=key scope.names [] h
  unfold closureFor
  simpa using this
noncomputable def za (X:Cx) (scope:Scope) (N:List Str) (C:Addr) (s₀:Shared) (H₀:Hp) (ex:List Addr) (pn:List (Addr × Obj)):Cx :=
  { X with N:=N,s₀:=s₀,H₀:=H₀,env:=compEnvC scope (X3 X.env scope.names []) C X.env,outer:=X.stack,ex:=ex,fn:=fun _=>false,pn:=pn,xe:=fun _ _=>False }
structure Jk (X:Cx) (scope:Scope) (N:List Str):Prop where
  has:Gb X.env scope.names=true
  kind:scope.kind=.function
  nocell:∀ y∈scope.names,y.2≠.cell
  names:∀ y∈scope.names,y.2=.local→scope.names.lookup y.1=some .local
noncomputable def aa8 (X:Cx) (scope:Scope) (x:Str):Prop :=
  (X.env.kindOf x=some .cell∨X.env.kindOf x=some .free)∧Vis X.env.scope x∧((relabel scope X.env).names.lookup x=some .cell∨(relabel scope X.env).names.lookup x=some .free)
theorem M6 {env:Env}:∀ (l:List (Str × NameKind)) (cs:List (Str × Addr)),(∀ x c,cs.lookup x=some c→env.cells.lookup x=some c) →
    ∀ x c,(X3 env l cs).lookup x=some c→env.cells.lookup x=some c
  | [],cs,h,x,c,e=>h x c e
  | (n,k)::r,cs,h,x,c,e=>by
    rw [X3] at e
    refine M6 r _ (fun y d q=>?_) x c e
    split at q
    · split at q
      · rename_i c' hc'
        rw [List.lookup_cons] at q
        split at q
        · rename_i hb
          cases q
          have hyn:=eq_of_beq hb
          rw [hyn]; exact hc'
        · exact h y d q
      · exact h y d q
    · exact h y d q
theorem Yh {env:Env}:∀ (l:List (Str × NameKind)) (cs:List (Str × Addr)) (x:Str),(∃ c,cs.lookup x=some c)→∃ c,(X3 env l cs).lookup x=some c
  | [],cs,x,h=>h
  | (n,k)::r,cs,x,h=>by
    rw [X3]
    refine Yh r _ x ?_
    split
    · split
      · rename_i c' hc'
        rw [List.lookup_cons]
        split
        · exact ⟨_,rfl⟩
        · exact h
      · exact h
    · exact h
theorem a05 {env:Env}:∀ (l:List (Str × NameKind)) (cs:List (Str × Addr)) (x:Str),Gb env l=true→(x,NameKind.free)∈l→∃ c,(X3 env l cs).lookup x=some c
  | [],cs,x,_,h=>by simp at h
  | (n,k)::r,cs,x,hh,h=>by
    unfold Gb at hh
    rw [List.all_cons,Bool.and_eq_true] at hh
    rw [X3]
    rcases List.mem_cons.mp h with e | h'
    · injection e with e1 e2
      subst e1; subst e2
      have h1:(env.cells.lookup x).isSome=true:=by simpa using hh.1
      obtain ⟨c,hc⟩:=Option.isSome_iff_exists.mp h1
      refine Yh r _ x ?_
      simp [hc]
    · exact a05 r _ x hh.2 h'
theorem mem_of_lookup {α:Type}:∀ {l:List (Str × α)} {x:Str} {k:α},l.lookup x=some k→(x,k)∈l
  | [],_,_,h=>by simp at h
  | (n,k')::r,x,k,h=>by
    rw [List.lookup_cons] at h
    split at h
    · rename_i hb
      cases h
      have hyn:=eq_of_beq hb
      rw [hyn]; exact List.mem_cons_self
    · exact List.mem_cons_of_mem _ (mem_of_lookup h)
theorem W5 {scope:Scope} {env:Env} (nc:∀ y∈scope.names,y.2≠.cell) {x:Str} (h:(relabel scope env).names.lookup x=some .cell∨(relabel scope env).names.lookup x=some .free):(x,NameKind.free)∈scope.names:=by
  have:∃ k,(x,k)∈(relabel scope env).names∧(k=.cell∨k=.free):=by
    rcases h with h | h
    · exact ⟨_,mem_of_lookup h,.inl rfl⟩
    · exact ⟨_,mem_of_lookup h,.inr rfl⟩
  obtain ⟨k,hm,hk⟩:=this
  obtain ⟨⟨n,k'⟩,hm',e⟩:=List.mem_map.mp hm
  dsimp only at e
  split at e
  · rename_i hc
    cases e
    simp only [Bool.and_eq_true,beq_iff_eq] at hc
    obtain ⟨⟨h1,_⟩,_⟩:=hc
    subst h1; exact hm'
  · cases e
    rcases hk with rfl | rfl
    · exact absurd rfl (nc _ hm')
    · exact hm'
noncomputable def PTs (X:Cx) (ifs:List Expr) (t:TT):Prop:=∀ (pins:List (Addr × Obj)) (s:Shared) (σ:St) (H:Hp) (Q:Bool→Hp→Prop),Inv X pins σ H s→t σ H Q →
  wpAny (model X.prog X.w) X.A (forIn ifs true fun c r=>if r=true then do let ok ← isTrue c X.env (eval c X.env); pure (ForInStep.yield ok) else pure (ForInStep.yield r)) (TP X pins σ Q) X.xe s
theorem a6r {X:Cx}:PTs X [] (fun _ H Q=>Q true H):=fun pins s σ H Q I h=>wpAny_tests_nil ⟨H,I,h⟩
theorem a68 {X:Cx} {c:Expr} {t:TT} (h:PT X c t):PTs X [c] t:=fun pins s σ H Q I q=>wpAny_tests_one (h pins s σ H Q I q)
noncomputable def S8 (X:Cx) (scope:Scope) (N:List Str) (g:TG) (tc:TT) (te:TE) (σ:St) (J:It) (H1:Hp) (Q:VK):Prop:=∀ D,H1 D=none→∃ σ0:St,σ0.length=N.length ∧
  (∀ (i:Nat) (v:V) (x:Str),σ0[i]? = some (some v)→N[i]? = some x→Vis (relabel scope X.env) x→∃ k:Nat,X.N[k]? = some x∧σ[k]? = some (some v)∧aa8 X scope x) ∧
  ∃ W:Nat→Nat→St→Hp→Prop,(∃ m,W 0 m σ0 (upd H1 D (.lst [])))∧∀ i m σ' H',W i m σ' H' →
    (J.stop i H'∧Q (.ref D) H')∨(J.go i H'∧∀ x H2,J.yld i H' x H2→g x σ' H2 fun σ2 H3=>tc σ2 H3 fun b H4=>if b=true then te σ2 H4 fun y H5=>∃ l,H5 D=some (.lst l)∧l.length<sizeLine∧∃ m',m'<m∧W (i+1) m' σ2 (upd H5 D (.lst (l++[y]))) else ∃ m',m'<m∧W (i+1) m' σ2 H4)
noncomputable def a4w (X:Cx) (scope:Scope) (N:List Str) (wi:TI) (g:TG) (tc:TT) (te:TE):TE:=fun σ H Q=>wi σ H fun J H1=>S8 X scope N g tc te σ J H1 Q
noncomputable section
variable {X:Cx} {scope:Scope} {N:List Str}
theorem a09 (sc:Jk X scope N) {pins:List (Addr × Obj)} {σ:St} {H:Hp} {s:Shared} {fp:List Addr} (I:Inv X pins σ H s) (hf:∀ b∈fp,Rx X pins H b) (hfl:∀ b∈fp,b<s.heap.objs.size) :
    (za X scope N s.heap.objs.size s H fp (X.pn++pins)).Ok where
  mod:=I.ok.mod
  kind:=sc.kind
  glob:=I.ok.glob
  blt:=I.ok.blt
  above:=Nat.le_refl _
  inj:=fun x y c h1 h2=>I.ok.inj x y c (M6 _ [] (fun _ _ z=>by simp at z) x c h1) (M6 _ [] (fun _ _ z=>by simp at z) y c h2)
  has:=fun x h=>a05 _ [] x sc.has (W5 sc.nocell h)
  cab:=fun x c h=>by cases h
  hd:=I.ok.hd
  frames:=I.ok.frames
  stk:=.inl rfl
  exf:=fun b hb=>⟨Nat.ne_of_lt (hfl b hb),fun x c h=>(hf b hb).2.2.2.2.1 x c (M6 _ [] (fun _ _ z=>by simp at z) x c h)⟩
  bs:=I.bs
  bsz:=Nat.le_trans I.ok.bsz I.sz
  noex:=fun b o e hb=>by
    rcases (hf b hb).2.2.2.1 with z | z
    · exact I.ok.noex b o e z
    · exact absurd (Nat.lt_of_lt_of_le (Heap.lt_size e) (Nat.le_trans I.ok.bsz z)) (Nat.lt_irrefl _)
  exfs:=fun b hb z=>by
    rcases List.mem_cons.mp (I.W7 b z) with e | e
    · exact (hf b hb).2.1 e
    · exact (hf b hb).2.2.1 e
  Xy:=I.stack
  frf:=I.Yc
theorem Xq (sc:Jk X scope N) {pins:List (Addr × Obj)} {σ σ0:St} {H:Hp} {s:Shared} {fp:List Addr} {h':Heap} {m:Str→Option Value} {tk:Nat} (I:Inv X pins σ H s) (hf:∀ b∈fp,Rx X pins H b) (hfl:∀ b∈fp,b<s.heap.objs.size)
    (hl:σ0.length=N.length) (h0:∀ (i:Nat) (v:V) (x:Str),σ0[i]? = some (some v)→N[i]? = some x→Vis (relabel scope X.env) x→∃ k:Nat,X.N[k]? = some x∧σ[k]? = some (some v)∧aa8 X scope x)
    (hn:h'.Ns s.heap.objs.size m) (hk:∀ b o,s.heap.get? b=some o→h'.get? b=some o) :
    Inv (za X scope N s.heap.objs.size s H fp (X.pn++pins)) [] σ0 H { s with heap:=h',toks:=tk } where
  ok:=a09 sc I hf hfl
  os:=rfl
  bare:=I.bare
  base:=Un.kept hk
  loc:=⟨m,hn,fun i x v e1 e2 e3=>by
    obtain ⟨k,n2,n3,ck,cv,cr⟩:=h0 i v x e2 e1 e3
    obtain ⟨m0,_,hl0⟩:=I.loc
    obtain ⟨u,r,l⟩:=hl0 k x v n2 n3 cv
    refine ⟨u,r,.inr ⟨cr,?_⟩⟩
    rcases l with ⟨l1,_⟩ | ⟨_,c,hc,z⟩
    · rcases ck with q | q <;> (rw [l1] at q; cases q)
    · obtain ⟨c',hc'⟩:=a05 (env:=X.env) scope.names [] x sc.has (W5 sc.nocell cr)
      have q:=M6 scope.names [] (fun _ _ z=>by simp at z) x c' hc'
      rw [hc] at q; cases q
      obtain ⟨o,ho,hd⟩:=z
      exact ⟨c,hc',o,hk _ _ ho,hd⟩⟩
  cell:=fun x c e=>by
    obtain ⟨v,o,ho,hd⟩:=I.cell x c (M6 scope.names [] (fun _ _ z=>by simp at z) x c e)
    exact ⟨v,o,hk _ _ ho,hd⟩
  free:=I.hok.fresh (Nat.le_refl _)
  freeC:=fun x c e=>I.freeC x c (M6 scope.names [] (fun _ _ z=>by simp at z) x c e)
  pin:=fun p hp=>by
    have hp':p∈X.pn++pins:=by simpa [za] using hp
    obtain ⟨a,b,c,d,e⟩:=I.pin p hp'
    refine ⟨hk _ _ a,b,Nat.ne_of_lt (Heap.lt_size a),fun z=>?_,e⟩
    rcases List.mem_cons.mp (I.W7 p.1 z) with q | q
    · exact c q
    · exact d q
  hok:=I.hok.kept hk
  len:=hl
theorem Uy {pins:List (Addr × Obj)} {σ σ':St} {H H':Hp} {s s':Shared} {fp:List Addr} {h':Heap} (I:Inv X pins σ H s) (hf:∀ b∈fp,Rx X pins H b)
    (J:Inv (za X scope N s.heap.objs.size s H fp (X.pn++pins)) [] σ' H' s') (hs:Heap.SameBut s.heap.objs.size s'.heap h'):Inv X pins σ H' { s' with heap:=h' }:=by
  have kb:∀ b o,b≠s.heap.objs.size→s'.heap.get? b=some o→h'.get? b=some o:=fun b o n e=>hs.extBut b o n e
  have ne:∀ b o,s.heap.get? b=some o→b≠s.heap.objs.size:=fun b o e=>Nat.ne_of_lt (Heap.lt_size e)
  have fr:H' s.heap.objs.size=none:=J.free
  have u0:Un (frs X.stack) fp H H' s.heap s'.heap:=J.base
  have u:Un (frs X.stack) fp H H' s.heap h':=⟨fun b o e n h1 h2=>kb b o (ne b o e) (u0.keep b o e n h1 h2),fun b o e n h1 h2=>by
      obtain ⟨sl,q⟩:=u0.slot b o e n h1 h2
      exact ⟨sl,kb b _ (ne b o e) q⟩,u0.free,fun b o e h=>by
      obtain ⟨o',q⟩:=u0.there b o e h
      exact ⟨o',kb b _ (ne b o e) q⟩,u0.tups,u0.frzs,u0.tbls⟩
  have hok:HOk X.prog X.w H' h':=fun b o e=>by
    refine (J.hok b o e).stay (fun c v hc q=>kb c v ?_ q) (fun _ q=>q) fun _ _ q=>q
    rcases hc with z | z
    · rw [z]; intro y; rw [y] at e; rw [fr] at e; cases e
    · intro y; rw [y] at z; rw [fr] at z; cases z
  have hos:s'.os=s.os:=J.os
  obtain ⟨hh,g,d,t,os'⟩:=s'
  obtain rfl:os'=s.os:=hos
  exact Inv.call (X:=X) (s:=s) (H:=H) (h':=h') (g':=g) (d':=d) (t':=t) (ch:=fp) I u hok J.bare fun b hb=>⟨(hf b hb).2.2.2.1,(hf b hb).2.1,(hf b hb).2.2.2.2.1,(hf b hb).2.2.2.2.2⟩
variable {tg iter elt:Expr} {ifs:List Expr} {pos:Pos} {g:TG} {tc:TT} {te:TE}
theorem Ni (sc:Jk X scope N) (calm:X.calm=true)
    (hg:∀ C s₀ H₀ ex pn,PG (za X scope N C s₀ H₀ ex pn) tg g) (hc:∀ C s₀ H₀ ex pn,PTs (za X scope N C s₀ H₀ ex pn) ifs tc) (he:∀ C s₀ H₀ ex pn,PE (za X scope N C s₀ H₀ ex pn) elt te)
    {pins:List (Addr × Obj)} {σ:St} {H1:Hp} {s₂:Shared} {it:Addr} {fp:List Addr} {tn:Nat→Heap→Prop} {J:It} {Q:VK} {E:Value→Shared→Prop} {RR:Value→Addr→Result→Shared→Prop}
    (I:Inv X pins σ H1 s₂) (T:Turn X.prog X.w X.K tg J fp it tn) (st2:tn 0 s₂.heap) (f2:∀ b∈fp,Rx X pins H1 b) (q:S8 X scope N g tc te σ J H1 Q)
    (hRR:∀ D s₃ H3 σ' H' s',Inv X pins σ H3 s₃→(∀ b∈fp,Rx X pins H3 b)→Inv (za X scope N s₃.heap.objs.size s₃ H3 fp (X.pn++pins)) [] σ' H' s'→Q (.ref D) H'→RR (.ref D) s₃.heap.objs.size (.ok .next) s') :
    wpAny (model X.prog X.w) X.A (newList []) (fun acc s₃=>wpAny (model X.prog X.w) X.A (newFunctionEnv scope X.env.globals (X3 X.env scope.names []) [] X.env.qual none .none (some X.env)) (fun cenv s₄ =>
      codeAny (model X.prog X.w) X.A (.compStart (.ListComp elt [⟨tg,iter,ifs,0⟩] scope pos) 0 (.ref it) acc { cenv with scope:=relabel scope X.env }) (RR acc cenv.locals) s₄) E s₃) E s₂:=by
  refine wpAny_newObj_type (wpAny_newFunctionEnv sc.nocell (by intro y hy; simp at hy) (fun h₁ hns₁ hsb₁=>?_) sc.kind)
  dsimp only at hns₁ hsb₁ ⊢
  have I3:Inv X pins σ (upd H1 s₂.heap.objs.size (.lst [])) { s₂ with heap:=s₂.heap.push { cls:=.type "list",dict:=none,data:=.seq ([]:List Value).toArray } } :=
    I.laid (t':=s₂.toks) (fun b ob q=>Heap.get?_push_of_some _ q) (Nat.le_refl _) ⟨Nat.zero_le _,[],_,.nil,Heap.get?_push_size _ rfl⟩
  generalize hs3:({ s₂ with heap:=s₂.heap.push { cls:=.type "list",dict:=none,data:=.seq ([]:List Value).toArray } }:Shared)=s₃ at I3
  have hheap:s₂.heap.push { cls:=.type "list",dict:=none,data:=.seq ([]:List Value).toArray } = s₃.heap:=by rw [← hs3]
  have hstate:∀ (h:Heap) (t:Nat),({ s₂ with heap:=h,toks:=t }:Shared) = { s₃ with heap:=h,toks:=t }:=fun h t=>by rw [← hs3]
  rw [hheap] at hns₁ hsb₁ ⊢
  have lt2:∀ b∈fp,b<s₂.heap.objs.size:=fun b hb=>by
    obtain ⟨o,ho,_⟩:=T.obj _ _ st2 b hb
    exact Heap.lt_size ho
  have sz3:s₃.heap.objs.size=s₂.heap.objs.size+1:=by rw [← hheap,Heap.size_push]
  have k23:∀ b o,s₂.heap.get? b=some o→s₃.heap.get? b=some o:=fun b o e=>by rw [← hheap]; exact Heap.get?_push_of_some _ e
  have f3:∀ b∈fp,Rx X pins (upd H1 s₂.heap.objs.size (.lst [])) b:=fun b hb=>⟨by rw [ji (Nat.ne_of_lt (lt2 b hb))]; exact (f2 b hb).1,(f2 b hb).2⟩
  have lt3:∀ b∈fp,b<s₃.heap.objs.size:=fun b hb=>by rw [sz3]; exact Nat.lt_succ_of_lt (lt2 b hb)
  obtain ⟨σ0,hl,h0,W,⟨m0,w0⟩,turn⟩:=q s₂.heap.objs.size (I.hok.fresh (Nat.le_refl _))
  have k34:∀ b o,s₃.heap.get? b=some o→h₁.get? b=some o:=fun b o e=>hsb₁.extBut b o (Nat.ne_of_lt (Heap.lt_size e)) (Heap.get?_push_of_some _ e)
  rw [hstate]
  have J0:=Xq (tk:=s₂.toks+([]:List (Str × Value)).length) sc I3 f3 lt3 hl h0 hns₁ k34
  have st4:tn 0 h₁:=T.keep _ _ _ st2 fun b _ o e=>k34 b o (k23 b o e)
  have key:∀ s₄:Shared,s₄ = { s₃ with heap:=h₁,toks:=s₂.toks+([]:List (Str × Value)).length }→codeAny (model X.prog X.w) X.A (.compLoop (.ListComp elt [⟨tg,iter,ifs,0⟩] scope pos) 0 (.ref it) (.ref s₂.heap.objs.size)
      (za X scope N s₃.heap.objs.size s₃ (upd H1 s₂.heap.objs.size (.lst [])) fp (X.pn++pins)).env) (RR (.ref s₂.heap.objs.size) s₃.heap.objs.size) s₄:=by
    rintro s₄ rfl
    generalize hX:za X scope N s₃.heap.objs.size s₃ (upd H1 s₂.heap.objs.size (.lst [])) fp (X.pn++pins)=X' at J0
    have hP:X'.prog=X.prog:=by rw [← hX]; rfl
    have hW:X'.w=X.w:=by rw [← hX]; rfl
    have hA:X'.A=X.A:=by rw [← hX]; rfl
    have hxe:X'.xe=fun _ _=>False:=by rw [← hX]; rfl
    have hK:X'.K=X.K:=by rw [← hX]; rfl
    have hcal:X'.calm=true:=by rw [← hX]; exact calm
    have stat:∀ {H':Hp},(∀ b∈fp,H' b=none)→∀ b∈fp,Rx X' [] H' b:=fun hn b hb=>by
      have z:=a09 sc I3 f3 lt3
      rw [hX] at z
      refine ⟨hn b hb,(z.exf b (by rw [← hX]; exact hb)).1,z.exfs b (by rw [← hX]; exact hb),.inl (by rw [← hX]; exact hb),(z.exf b (by rw [← hX]; exact hb)).2,fun p hp=>?_⟩
      have hp':p∈X.pn++pins:=by rw [← hX] at hp; simpa [za] using hp
      exact (f3 b hb).2.2.2.2.2 p hp'
    have hg':PG X' tg g:=by rw [← hX]; exact hg _ _ _ _ _
    have hc':PTs X' ifs tc:=by rw [← hX]; exact hc _ _ _ _ _
    have he':PE X' elt te:=by rw [← hX]; exact he _ _ _ _ _
    have fin:∀ σ' H' s',Inv X' [] σ' H' s'→Q (.ref s₂.heap.objs.size) H'→RR (.ref s₂.heap.objs.size) s₃.heap.objs.size (.ok .next) s':=fun σ' H' s' I' q'=>hRR _ s₃ _ σ' H' s' I3 f3 (by rw [hX]; exact I') q'
    have T':Turn X'.prog X'.w X'.K tg J fp it tn:=by rw [hP,hW,hK]; exact T
    rw [← hP,← hW,← hA]
    refine Ru (J:=fun n s'=>∃ i σ' H',Inv X' [] σ' H' s'∧tn i s'.heap∧(∀ b∈fp,H' b=none)∧W i n σ' H') ?_ m0 ⟨0,σ0,_,J0,st4,fun b hb=>(f3 b hb).1,w0⟩
    rintro n s5 ⟨i,σ5,H5,I5,st5,fr5,w5⟩
    rcases turn i n σ5 H5 w5 with ⟨stop,qn⟩ | ⟨go,step⟩
    · refine thn (T'.done X' rfl rfl rfl hcal i [] s5 σ5 H5 _ I5 (stat fr5) st5 stop) fun r s6 z0=>?_
      obtain ⟨hr,I6⟩:=z0
      subst hr
      exact fin _ _ _ I6 qn
    · refine thn (T'.item X' rfl rfl rfl hcal i [] s5 σ5 H5 _ I5 (stat fr5) st5 go) fun r s6 z0=>?_
      obtain ⟨u,hr,h6⟩:=z0
      subst hr
      refine thn h6 fun _ s7 z0=>?_
      obtain ⟨x,H7,I7,r7,y7,st7,fr7⟩:=z0
      have I7':=I7.pinned (stat fr7) (T'.obj _ _ st7)
      have a1:=hg' _ s7 σ5 H7 x u _ I7' r7 (step x H7 y7)
      rw [hxe] at a1
      refine thn a1 fun _ s8 z0=>?_
      obtain ⟨σ8,H8,I8,q8⟩:=z0
      have a2:=hc' _ s8 σ8 H8 _ I8 q8
      rw [hxe] at a2
      refine thn a2 fun ok s9 z0=>?_
      obtain ⟨H9,I9,q9⟩:=z0
      have again:∀ {σ7:St} {H7:Hp} {s':Shared} {m':Nat},Inv X' ([]++R9 fp s7.heap) σ7 H7 s'→m'<n→W (i+1) m' σ7 H7→∃ m,m<n∧∃ i σ' H',Inv X' [] σ' H' s'∧tn i s'.heap∧(∀ b∈fp,H' b=none)∧W i m σ' H':=fun {σ7 H7 s' m'} I7 hm w7=>by
        refine ⟨m',hm,i+1,σ7,H7,I7.Il,T'.keep _ _ _ st7 fun b hb o e=>(I7.pin (b,o) (List.mem_append_right _ (List.mem_append_right _ (Es hb e)))).1,fun b hb=>?_,w7⟩
        obtain ⟨o,e,d⟩:=T'.obj _ _ st7 b hb
        exact (I7.pin (b,o) (List.mem_append_right _ (List.mem_append_right _ (Es hb e)))).2.1
      cases ok with
      | false =>
        rw [if_neg Bool.false_ne_true] at q9 ⊢
        obtain ⟨m',hm,w9⟩:=q9
        exact again I9 hm w9
      | true =>
        rw [if_pos rfl] at q9 ⊢
        have a3:=he' _ s9 σ8 H9 _ I9 q9
        rw [hxe] at a3
        refine thn a3 fun xv s10 z0=>?_
        obtain ⟨y,H10,I10,r10,l,hl10,hz10,m',hm,w10⟩:=z0
        have a4:=Aq (X:=X') _ s10 σ8 H10 (.ref s₂.heap.objs.size) [y] (.ref s₂.heap.objs.size) [xv] (fun _ H'=>H'=upd H10 s₂.heap.objs.size (.lst (l++[y]))) I10 rfl (.cons r10 .nil) ⟨_,l,y,rfl,rfl,hl10,hz10,rfl⟩
        rw [hxe] at a4
        refine thn a4 fun _ s11 z0=>?_
        obtain ⟨v,H11,I11,_,e11⟩:=z0
        subst e11
        exact again I11 hm w10
  exact codeAny_compStart_list (key _ rfl) (T.self _ 0 _ _ _ st4 (key _ rfl))
theorem Zq {wi:TI} (sc:Jk X scope N) (calm:X.calm=true) (hi:PI X tg iter wi)
    (hg:∀ C s₀ H₀ ex pn,PG (za X scope N C s₀ H₀ ex pn) tg g) (hc:∀ C s₀ H₀ ex pn,PTs (za X scope N C s₀ H₀ ex pn) ifs tc) (he:∀ C s₀ H₀ ex pn,PE (za X scope N C s₀ H₀ ex pn) elt te)
    (hs:∀ x,foldedSetIterable iter X.env x=pure x:=by intro _; rfl):PE X (.ListComp elt [⟨tg,iter,ifs,0⟩] scope pos) (a4w X scope N wi g tc te):=by
  intro pins s σ H Q I h
  rw [eval_ListComp]
  refine wpAny_comprehension_free (use:=none) rfl hs (Hu sc.has) sc.kind sc.names ?_
  refine wpAny_mono (hi pins s σ H _ I h) (fun x s₁ h₁=>wpAny_mono h₁ (fun itv s₂ h₂=>?_) fun _ _ e=>e) fun _ _ e=>e
  obtain ⟨it,fp,tn,J,H1,rfl,I2,T,st2,f2,q⟩:=h₂
  refine Ni (RR:=fun acc C=>compPost (model X.prog X.w) X.A X.xe none (EP X pins σ Q) acc C) sc calm hg hc he I2 T st2 f2 q ?_
  intro D s₃ H3 σ' H' s' I3 f3 I' qn
  obtain ⟨m,hn,_⟩:=I'.loc
  exact ⟨m,hn,fun h' hs'=>⟨.ref D,H',Uy I3 f3 I' hs',rfl,qn⟩⟩
theorem a6k {wi:TI} {y:Str} {py spos:Pos} {i:Nat} (sc:Jk X scope N) (calm:X.calm=true) (hi:PI X tg iter wi)
    (hg:∀ C s₀ H₀ ex pn,PG (za X scope N C s₀ H₀ ex pn) tg g) (hc:∀ C s₀ H₀ ex pn,PTs (za X scope N C s₀ H₀ ex pn) ifs tc) (he:∀ C s₀ H₀ ex pn,PE (za X scope N C s₀ H₀ ex pn) elt te)
    (hgN:PG X (.Name y py) (O4 i)) (hsw:swapsWith (.ListComp elt [⟨tg,iter,ifs,0⟩] scope pos) (some (.Name y py)) spos.line X.env=pure true)
    (hs:∀ x,foldedSetIterable iter X.env x=pure x:=by intro _; rfl):PS X (.Assign [.Name y py] (.ListComp elt [⟨tg,iter,ifs,0⟩] scope pos) spos) (a5d (a4w X scope N wi g tc te) (O4 i)):=by
  intro pins s σ H D I h
  rw [exec_Assign_Name_used _ _ _ _ hsw] -- here
  refine wpAny_bind (wpAny_standAt (wpAny_bind ?_)) -- here
  show wpAny _ X.A (do let _ ← comprehension (.ListComp elt [⟨tg,iter,ifs,0⟩] scope pos) scope X.env _ (newList []) false (eval iter X.env) (some (assign (.Name y py) X.env))) _ _ s
  refine wpAny_bind (wpAny_mono (wpAny_comprehension_free (use:=some (assign (.Name y py) X.env)) (Q:=fun _ s'=>SP X pins D .next s') rfl hs (Hu sc.has) sc.kind sc.names ?_) (fun _ s' hq=>wpAny_pure (wpAny_pure hq)) fun _ _ e=>e)
  refine wpAny_mono (hi pins s σ H _ I h) (fun x s₁ h₁=>wpAny_mono h₁ (fun itv s₂ h₂=>?_) fun _ _ e=>e) fun _ _ e=>e
  obtain ⟨it,fp,tn,J,H1,rfl,I2,T,st2,f2,q⟩:=h₂
  refine Ni (RR:=fun acc C=>compPost (model X.prog X.w) X.A X.xe (some (assign (.Name y py) X.env)) (fun _ s'=>SP X pins D .next s') acc C) sc calm hg hc he I2 T st2 f2 q ?_
  intro D' s₃ H3 σ' H' s' I3 f3 I' qn
  obtain ⟨m,hn,_⟩:=I'.loc
  obtain ⟨oC,es,ep,hoC,hdC,hrest⟩:=id hn
  have IX:Inv X pins σ H' s':=Uy I3 f3 I' (.refl ..)
  have fC:Rx X pins H' s₃.heap.objs.size:=I3.a7z (Nat.le_refl _) I'.free
  have IXp:=IX.pinned (fp:=[s₃.heap.objs.size]) (fun b hb=>by rw [List.mem_singleton.mp hb]; exact fC) (fun b hb=>by
    rw [List.mem_singleton.mp hb]
    exact ⟨oC,hoC,fun v z=>by rw [hdC] at z; cases z⟩)
  show wpAny _ X.A (assign (.Name y py) X.env (.ref D')) _ _ _
  refine thn (hgN _ s' σ H' (.ref D') (.ref D') _ IXp rfl qn) fun _ s'' z0=>?_
  obtain ⟨σ'',H'',I'',q''⟩:=z0
  have pC:=I''.pin (s₃.heap.objs.size,oC) (List.mem_append_right _ (List.mem_append_right _ (Es (by simp) hoC)))
  refine ⟨m,⟨oC,es,ep,pC.1,hdC,hrest⟩,fun h' hs'=>⟨σ'',H'',?_,q''⟩⟩
  exact I''.Il.turned (h':=h') (t':=s''.toks) (it:=s₃.heap.objs.size) (fun b o ne e=>hs'.extBut b o ne e) pC.2.1 fC.2.1 fC.2.2.2.1 fC.2.2.2.2.1 fC.2.2.2.2.2
end
end L2
end
noncomputable section
set_option linter.all false
set_option maxHeartbeats 4000002
set_option autoImplicit false
namespace C
open PySem PySem.Spec PyProof.Rows L2
mutual
inductive Rep (K:PySem.W.Frag) (S:Hp) (as:List Addr):V→T→Prop where
  | non:Rep K S as .non .non
  | bl (b:Bool):Rep K S as (.bl b) (.bl b)
  | int (i:Int):Rep K S as (.int i) (.int i)
  | str (x:Str):Rep K S as (.str x) (.str x)
  | tup {a:Addr} {vs:List V} {ts:List T}:SqT K S a vs→vh K S as vs ts→Rep K S as (.ref a) (.tup ts)
  | lst {a:Addr} {vs:List V} {ts:List T}:SqL K S a vs→vh K S as vs ts→Rep K S as (.ref a) (.lst ts)
  | dic {a:Addr} {kvs:List (L2.Key × V)} {ts:List (L2.Key × T)}:Rd S a (.dK kvs)→Et K S as kvs ts→Rep K S as (.ref a) (.dic ts)
  | obj {n:Nat} {a:Addr}:as[n]? = some a→Rep K S as (.ref a) (.obj n)
inductive vh (K:PySem.W.Frag) (S:Hp) (as:List Addr):List V→List T→Prop where
  | nil:vh K S as [] []
  | cons {v:V} {t:T} {vs:List V} {ts:List T}:Rep K S as v t→vh K S as vs ts→vh K S as (v::vs) (t::ts)
inductive Et (K:PySem.W.Frag) (S:Hp) (as:List Addr):List (L2.Key × V)→List (L2.Key × T)→Prop where
  | nil:Et K S as [] []
  | cons {k:L2.Key} {v:V} {t:T} {vs:List (L2.Key × V)} {ts:List (L2.Key × T)}:Rep K S as v t→Et K S as vs ts→Et K S as ((k,v)::vs) ((k,t)::ts)
end
theorem Dp {S S':Hp} {a:Addr} {u:HO} (e:yq S S') (h:Rd S a u):Rd S' a u:=by
  rcases h with h | ⟨o,h⟩
  · exact .inl (e _ _ h)
  · exact .inr ⟨o,e _ _ h⟩
theorem uy {K:PySem.W.Frag} {S S':Hp} {a:Addr} {xs:List V} (e:yq S S') (h:SqT K S a xs):SqT K S' a xs:=by
  rcases h with h | h
  · exact .inl (Dp e h)
  · exact .inr h
theorem ou {K:PySem.W.Frag} {S S':Hp} {a:Addr} {xs:List V} (e:yq S S') (h:SqL K S a xs):SqL K S' a xs:=by
  rcases h with h | h
  · exact .inl (Dp e h)
  · exact .inr h
noncomputable section
variable {K:PySem.W.Frag} {S S':Hp} {as as':List Addr}
theorem a02 {α:Type} {l r:List α} {n:Nat} {a:α} (h:l[n]? = some a):(l++r)[n]? = some a:=by
  have:=(List.getElem?_eq_some_iff.mp h).1
  rw [List.getElem?_append_left this]; exact h
mutual
theorem Rep.mono (e:yq S S') (x:∃ l,as'=as++l):∀ {v:V} {t:T},Rep K S as v t→Rep K S' as' v t
  | _,_,.non=>.non
  | _,_,.bl b=>.bl b
  | _,_,.int i=>.int i
  | _,_,.str y=>.str y
  | _,_,.tup h r=>.tup (uy e h) (vh.mono e x r)
  | _,_,.lst h r=>.lst (ou e h) (vh.mono e x r)
  | _,_,.dic h r=>.dic (Dp e h) (Et.mono e x r)
  | _,_,.obj h=>.obj (by obtain ⟨l,rfl⟩:=x; exact a02 h)
theorem vh.mono (e:yq S S') (x:∃ l,as'=as++l):∀ {v:List V} {t:List T},vh K S as v t→vh K S' as' v t
  | _,_,.nil=>.nil
  | _,_,.cons h r=>.cons (Rep.mono e x h) (vh.mono e x r)
theorem Et.mono (e:yq S S') (x:∃ l,as'=as++l):∀ {v:List (L2.Key × V)} {t:List (L2.Key × T)},Et K S as v t→Et K S' as' v t
  | _,_,.nil=>.nil
  | _,_,.cons h r=>.cons (Rep.mono e x h) (Et.mono e x r)
end
theorem vh.length:∀ {vs:List V} {ts:List T},vh K S as vs ts→vs.length=ts.length
  | _,_,.nil=>rfl
  | _,_,.cons _ r=>congrArg (· + 1) r.length
theorem Et.length:∀ {vs:List (L2.Key × V)} {ts:List (L2.Key × T)},Et K S as vs ts→vs.length=ts.length
  | _,_,.nil=>rfl
  | _,_,.cons _ r=>congrArg (· + 1) r.length
theorem vh.get:∀ {vs:List V} {ts:List T} {i:Nat} {t:T},vh K S as vs ts→ts[i]? = some t→∃ v,vs[i]? = some v∧Rep K S as v t
  | _,_,_,_,.nil,e=>by simp at e
  | _,_,0,_,.cons r _,e=>by simp at e; subst e; exact ⟨_,rfl,r⟩
  | _,_,i+1,t,.cons _ r,e=>by
    obtain ⟨v,h1,h2⟩:=vh.get (i:=i) (t:=t) r (by simpa using e)
    exact ⟨v,by simpa using h1,h2⟩
theorem vh.append:∀ {vs:List V} {ts:List T} {ws:List V} {us:List T},vh K S as vs ts→vh K S as ws us→vh K S as (vs++ws) (ts++us)
  | _,_,_,_,.nil,q=>q
  | _,_,_,_,.cons h r,q=>.cons h (vh.append r q)
theorem vh.reverse:∀ {vs:List V} {ts:List T},vh K S as vs ts→vh K S as vs.reverse ts.reverse
  | _,_,.nil=>.nil
  | _,_,.cons h r=>by rw [List.reverse_cons,List.reverse_cons]; exact vh.append (vh.reverse r) (.cons h .nil)
theorem vh.drop:∀ (n:Nat) {vs:List V} {ts:List T},vh K S as vs ts→vh K S as (vs.drop n) (ts.drop n)
  | 0,_,_,r=>r
  | _+1,_,_,.nil=>.nil
  | n+1,_,_,.cons _ r=>vh.drop n r
theorem Et.get (k:L2.Key):∀ {vs:List (L2.Key × V)} {ts:List (L2.Key × T)},Et K S as vs ts→(∃ v t,U4 vs k=some v∧G9 k ts=some t∧Rep K S as v t)∨(U4 vs k=none∧G9 k ts=none)
  | _,_,.nil=>.inr ⟨rfl,rfl⟩
  | _,_,.cons (k:=q) (v:=v) (t:=t) (vs:=vs) (ts:=ts) h r=>by
    by_cases e:q=k
    · exact .inl ⟨v,t,Oq (p:=(q,v)) e,by rw [G9,if_pos e],h⟩
    · rw [Oc (p:=(q,v)) e,G9,if_neg e]
      exact Et.get k r
end
structure Bas where
  S:Hp
  as:List Addr
  H:Hp
structure Y4 (B:Bas) (S:Hp) (as:List Addr) (H:Hp):Prop where
  same:yq B.S S
  more:∃ l,as=B.as++l
  keep:∀ p o,B.H p=some o→B.S p=none→p∉B.as→H p=some o∧S p=none∧p∉as
structure Ext (S H S' H':Hp):Prop where
  s:yq S S'
  h:yq H H'
  sub:yq S' H'
  new:∀ p,S' p≠none→S p≠none∨H p=none
theorem Ext.refl {S H:Hp} (h:yq S H):Ext S H S H:=⟨yq.refl _,yq.refl _,h,fun _ q=>.inl q⟩
theorem yq.upd {H:Hp} {p:Addr} (h:H p=none) (o:HO):yq H (upd H p o):=fun b u q=>by rw [ji (yr q h)]; exact q
theorem Ext.laid {S H:Hp} (h:yq S H) {p:Addr} (n:H p=none) (o:HO):Ext S H (upd S p o) (upd H p o) where
  s:=yq.upd (h.free n) o
  h:=yq.upd n o
  sub:=fun b u q=>by
    by_cases e:b=p
    · subst e; rw [jh] at q ⊢; exact q
    · rw [ji e] at q ⊢; exact h _ _ q
  new:=fun b q=>by
    by_cases e:b=p
    · subst e; exact .inr n
    · rw [ji e] at q; exact .inl q
theorem Ext.trans {S H S1 H1 S2 H2:Hp} (a:Ext S H S1 H1) (b:Ext S1 H1 S2 H2):Ext S H S2 H2 where
  s:=a.s.trans b.s
  h:=a.h.trans b.h
  sub:=b.sub
  new:=fun p q=>by
    rcases b.new p q with z | z
    · exact a.new p z
    · exact .inr (a.h.free z)
noncomputable def Own (K:PySem.W.Frag) (S:Hp) (as:List Addr) (H:Hp) (p:Addr):T→Prop
  | .lst ts=>∃ vs,H p=some (.lst vs)∧vh K S as vs ts
  | .dic ts=>∃ kvs,H p=some (.dK kvs)∧Et K S as kvs ts
  | _=>False
structure Lb (K:PySem.W.Frag) (B:Bas) (S:Hp) (as:List Addr) (H:Hp) (p:Addr) (t:T):Prop where
  own:Own K S as H p t
  out:S p=none
  nas:p∉as
  new:B.H p=none
noncomputable def Zu (K:PySem.W.Frag) (S:Hp) (as:List Addr) (H:Hp) (a:Addr):SO→Prop
  | .dic ts=>∃ kvs,H a=some (.dK kvs)∧Et K S as kvs ts
  | .lst ts=>∃ vs,H a=some (.lst vs)∧vh K S as vs ts
  | .ins _ _=>False
structure Js (K:PySem.W.Frag) (S:Hp) (as:List Addr) (H:Hp) (sto:List SO):Prop where
  len:as.length=sto.length
  nd:as.Nodup
  at':∀ (n:Nat) so,sto[n]? = some so→∃ a,as[n]? = some a∧S a=none∧Zu K S as H a so
structure Rel (K:PySem.W.Frag) (B:Bas) (st:Sta) (σ:L2.St) (H:Hp) (ps:List (V × T)) (S:Hp) (as:List Addr):Prop where
  sub:yq S H
  grow:Y4 B S as H
  slots:∀ (i:Nat) t f,st.env[i]? = some (some (t,f))→∃ v,σ[i]? = some (some v)∧(f=false→Rep K S as v t)∧(f=true→∃ p,v=.ref p∧Lb K B S as H p t)
  apart:∀ (i j:Nat) t u p,st.env[i]? = some (some (t,true))→st.env[j]? = some (some (u,true))→σ[i]? = some (some (.ref p))→σ[j]? = some (some (.ref p))→i=j
  sto:Js K S as H st.sto
  pend:∀ p∈ps,Rep K S as p.1 p.2
  len:σ.length=st.env.length
noncomputable section
variable {K:PySem.W.Frag} {B:Bas} {st:Sta} {σ:L2.St} {H H' S S':Hp} {ps:List (V × T)} {as:List Addr}
theorem nol {as:List Addr}:∃ l:List Addr,as=as++l:=⟨[],(List.append_nil _).symm⟩
theorem Own.mono {p:Addr} {t:T} (hs:yq S S') (hh:H p=H' p) (o:Own K S as H p t):Own K S' as H' p t:=by
  cases t with
  | lst ts=>obtain ⟨vs,h,r⟩:=o; exact ⟨vs,hh ▸ h,r.mono hs nol⟩
  | dic ts=>obtain ⟨vs,h,r⟩:=o; exact ⟨vs,hh ▸ h,r.mono hs nol⟩
  | _=>exact o.elim
theorem Own.there {p:Addr} {t:T} (o:Own K S as H p t):∃ ob,H p=some ob:=by
  cases t with
  | lst ts=>obtain ⟨vs,h,r⟩:=o; exact ⟨_,h⟩
  | dic ts=>obtain ⟨vs,h,r⟩:=o; exact ⟨_,h⟩
  | _=>exact o.elim
theorem Zu.mono {a:Addr} {so:SO} (hs:yq S S') (hh:H a=H' a) (o:Zu K S as H a so):Zu K S' as H' a so:=by
  cases so with
  | dic ts=>obtain ⟨vs,h,r⟩:=o; exact ⟨vs,hh ▸ h,r.mono hs nol⟩
  | lst ts=>obtain ⟨vs,h,r⟩:=o; exact ⟨vs,hh ▸ h,r.mono hs nol⟩
  | ins c f=>exact o.elim
theorem Zu.there {a:Addr} {so:SO} (o:Zu K S as H a so):∃ ob,H a=some ob:=by
  cases so with
  | dic ts=>obtain ⟨vs,h,r⟩:=o; exact ⟨_,h⟩
  | lst ts=>obtain ⟨vs,h,r⟩:=o; exact ⟨_,h⟩
  | ins c f=>exact o.elim
theorem Ext.outs (x:Ext S H S' H') {p:Addr} {o:HO} (h:H p=some o) (n:S p=none):S' p=none:=by
  cases q:S' p with
  | none=>rfl
  | some u =>
    rcases x.new p (by rw [q]; exact Option.some_ne_none _) with z | z
    · exact absurd n z
    · rw [h] at z; cases z
theorem Js.ext {sto:List SO} (r:Js K S as H sto) (x:Ext S H S' H'):Js K S' as H' sto where
  len:=r.len
  nd:=r.nd
  at':=fun n so e=>by
    obtain ⟨a,h1,h2,h3⟩:=r.at' n so e
    obtain ⟨ob,ho⟩:=h3.there
    exact ⟨a,h1,x.outs ho h2,h3.mono x.s (by rw [ho,x.h _ _ ho])⟩
theorem Rel.ext (r:Rel K B st σ H ps S as) (x:Ext S H S' H'):Rel K B st σ H' ps S' as where
  sub:=x.sub
  grow:=⟨r.grow.same.trans x.s,r.grow.more,fun p o h1 h2 h3=>by
    obtain ⟨a,b,c⟩:=r.grow.keep p o h1 h2 h3
    exact ⟨x.h _ _ a,x.outs a b,c⟩⟩
  slots:=fun i t f e=>by
    obtain ⟨v,h1,h2,h3⟩:=r.slots i t f e
    refine ⟨v,h1,fun q=>(h2 q).mono x.s nol,fun q=>?_⟩
    obtain ⟨p,e,o⟩:=h3 q
    obtain ⟨ob,ho⟩:=o.own.there
    exact ⟨p,e,o.own.mono x.s (by rw [ho,x.h _ _ ho]),x.outs ho o.out,o.nas,o.new⟩
  apart:=r.apart
  sto:=r.sto.ext x
  pend:=fun p hp=>(r.pend p hp).mono x.s nol
  len:=r.len
theorem Rel.push (r:Rel K B st σ H ps S as) {v:V} {t:T} (h:Rep K S as v t):Rel K B st σ H ((v,t)::ps) S as :=
  ⟨r.sub,r.grow,r.slots,r.apart,r.sto,fun p hp=>by
    rcases List.mem_cons.mp hp with rfl | z
    · exact h
    · exact r.pend p z,r.len⟩
theorem Rel.drop {p:V × T} (r:Rel K B st σ H (p::ps) S as):Rel K B st σ H ps S as :=
  ⟨r.sub,r.grow,r.slots,r.apart,r.sto,fun q hq=>r.pend q (List.mem_cons_of_mem _ hq),r.len⟩
theorem Rel.top {v:V} {t:T} (r:Rel K B st σ H ((v,t)::ps) S as):Rep K S as v t:=r.pend (v,t) List.mem_cons_self
theorem Rel.top2 {v:V} {t:T} {q:V × T} (r:Rel K B st σ H (q::(v,t)::ps) S as):Rep K S as v t:=r.pend (v,t) (List.mem_cons_of_mem _ List.mem_cons_self)
end
inductive tOf (K:PySem.W.Frag) (B:Bas) (m:M T) (σ:L2.St) (H:Hp) (Q:VK):Prop
  | mk (st:Sta) (ps:List (V × T)) (S:Hp) (as:List Addr) (R:Rel K B st σ H ps S as) (t:T) (st':Sta) (e:m st=some (t,st')) (q:∀ v H' S' as',Rel K B st' σ H' ((v,t)::ps) S' as'→Q v H')
inductive cOf (K:PySem.W.Frag) (B:Bas) (m:M Bool) (σ:L2.St) (H:Hp) (Q:Bool→Hp→Prop):Prop
  | mk (st:Sta) (ps:List (V × T)) (S:Hp) (as:List Addr) (R:Rel K B st σ H ps S as) (b:Bool) (st':Sta) (e:m st=some (b,st')) (q:∀ H' S' as',Rel K B st' σ H' ps S' as'→Q b H')
inductive aOf (K:PySem.W.Frag) (B:Bas) (m:M (List T)) (σ:L2.St) (H:Hp) (Q:List V→Hp→Prop):Prop
  | mk (st:Sta) (ps:List (V × T)) (S:Hp) (as:List Addr) (R:Rel K B st σ H ps S as) (ts:List T) (st':Sta) (e:m st=some (ts,st')) (q:∀ vs H' S' as',Rel K B st' σ H' ps S' as'→vh K S' as' vs ts→Q vs H')
theorem _root_.L2.PE.imp {X:Cx} {e:Expr} {t t':TE} (h:PE X e t) (i:∀ σ H Q,t' σ H Q→t σ H Q):PE X e t':=fun pins s σ H Q I q=>h pins s σ H Q I (i σ H Q q)
theorem _root_.L2.PT.imp {X:Cx} {e:Expr} {t t':TT} (h:PT X e t) (i:∀ σ H Q,t' σ H Q→t σ H Q):PT X e t':=fun pins s σ H Q I q=>h pins s σ H Q I (i σ H Q q)
theorem _root_.L2.PA.imp {X:Cx} {e:List Expr} {t t':TA} (h:PA X e t) (i:∀ σ H Q,t' σ H Q→t σ H Q):PA X e t':=fun pos pins s σ H Q I q=>h pos pins s σ H Q I (i σ H Q q)
theorem _root_.L2.PS.imp {X:Cx} {e:Stmt} {t t':TS} (h:PS X e t) (i:∀ D σ H,t' D σ H→t D σ H):PS X e t':=fun pins s σ H D I q=>h pins s σ H D I (i D σ H q)
theorem _root_.L2.PSs.imp {X:Cx} {e:List Stmt} {t t':TS} (h:PSs X e t) (i:∀ D σ H,t' D σ H→t D σ H):PSs X e t':=fun pins s σ H D I q=>h pins s σ H D I (i D σ H q)
noncomputable def r2 (K:PySem.W.Frag) (f:T→T→Option T):R2:=fun x y H Q=>∃ S as t u w,yq S H∧Rep K S as x t∧Rep K S as y u∧f t u=some w∧∀ v H' S',Ext S H S' H'→Rep K S' as v w→Q v H'
noncomputable def r1 (K:PySem.W.Frag) (f:T→Option T):V→Hp→VK→Prop:=fun x H Q=>∃ S as t w,yq S H∧Rep K S as x t∧f t=some w∧∀ v H' S',Ext S H S' H'→Rep K S' as v w→Q v H'
noncomputable def rL (K:PySem.W.Frag) (f:List T→Option T):List V→Hp→VK→Prop:=fun xs H Q=>∃ S as ts w,yq S H∧vh K S as xs ts∧f ts=some w∧∀ v H' S',Ext S H S' H'→Rep K S' as v w→Q v H'
noncomputable abbrev OpT (X:Cx) (f:Value→Value→Sem Value) (g:T→T→Option T):Prop:=OpR X f (r2 X.K g)
noncomputable abbrev UnT (X:Cx) (f:Value→Sem Value) (g:T→Option T):Prop:=UnR X f (r1 X.K g)
noncomputable abbrev Xw (X:Cx) (f:Value) (g:List T→Option T):Prop:=Hj X f (rL X.K g)
noncomputable section
variable {X:Cx} {B:Bas} {a b c:Expr} {m m1 m2:M T} {pos:Pos}
theorem K9 {v:V} {t:T} {e:Expr} (h:PE X e (tC v)) (r:∀ S as,Rep X.K S as v t):PE X e (tOf X.K B (aq t)):=h.imp fun σ H Q z9=>by
  obtain ⟨st,ps,S,as,R,t',st',e,q⟩:=z9
  cases e
  exact q v H S as (R.push (r S as))
theorem dj {i:Int} {j:Nat}:PE X (.Constant (.int i) j pos) (tOf X.K B (aq (.int i))):=K9 a5t fun _ _=>.int i
theorem Mu {i:Bool} {j:Nat}:PE X (.Constant (.bool i) j pos) (tOf X.K B (aq (.bl i))):=K9 ab6 fun _ _=>.bl i
theorem sy {i:Str} {j:Nat}:PE X (.Constant (.str i) j pos) (tOf X.K B (aq (.str i))):=K9 a91 fun _ _=>.str i
theorem a5g {j:Nat}:PE X (.Constant .none j pos) (tOf X.K B (aq .non)):=K9 a9c fun _ _=>.non
theorem oh {op:Operator} {f:T→T→Option T} (ho:OpT X (binaryOp op) f) (ha:PE X a (tOf X.K B m1)) (hb:PE X b (tOf X.K B m2)):PE X (.BinOp a op b pos) (tOf X.K B (mOp f m1 m2)) :=
  (aaf ho ha hb).imp fun σ H Q z9=>by
    obtain ⟨st,ps,S,as,R,t,st',e,q⟩:=z9
    obtain ⟨t1,s1,t2,e1,e2,e3⟩:=Ox e
    refine ⟨st,ps,S,as,R,t1,s1,e1,fun v H1 S1 as1 R1=>⟨s1,_,S1,as1,R1,t2,st',e2,fun u H2 S2 as2 R2=>?_⟩⟩
    exact ⟨S2,as2,t1,t2,t,R2.sub,R2.top2,R2.top,e3,fun w H3 S3 x r=>q w H3 S3 as2 ((R2.drop.drop.ext x).push r)⟩
end
end C
end
noncomputable section
set_option linter.all false
set_option maxRecDepth 100000
set_option maxHeartbeats 4000002
set_option autoImplicit false
namespace C
open PySem PySem.Spec PyProof.Rows L2
noncomputable section
variable {K:PySem.W.Frag} {B:Bas} {st:Sta} {σ:L2.St} {H H' S S':Hp} {ps:List (V × T)} {as:List Addr}
theorem Rel.freeze (r:Rel K B st σ H ps S as) {i:Nat} {t:T} (e:st.env[i]? = some (some (t,true))) :
    ∃ v S',σ[i]? = some (some v)∧Rel K B { st with env:=st.env.set i (some (t,false)) } σ H ((v,t)::ps) S' as:=by
  obtain ⟨v,h1,_,h3⟩:=r.slots i t true e
  obtain ⟨p,rfl,o⟩:=h3 rfl
  obtain ⟨ob,ho⟩:=o.own.there
  have hi:i<st.env.length:=(List.getElem?_eq_some_iff.mp e).1
  have sS:yq S (upd S p ob):=yq.upd o.out ob
  have rep:Rep K (upd S p ob) as (.ref p) t:=by
    have w:=o.own
    cases t with
    | lst ts=>obtain ⟨vs,h,q⟩:=w; rw [ho] at h; cases h; exact .lst (SqL.of jh) (q.mono sS nol)
    | dic ts=>obtain ⟨vs,h,q⟩:=w; rw [ho] at h; cases h; exact .dic (.inl jh) (q.mono sS nol)
    | _=>exact w.elim
  have outs:∀ q,S q=none→q≠p→upd S p ob q=none:=fun q h n=>by rw [ji n]; exact h
  refine ⟨.ref p,upd S p ob,h1,?_⟩
  refine Rel.push (v:=.ref p) (t:=t) ⟨?_,?_,?_,?_,?_,?_,?_⟩ rep
  · intro b u q
    by_cases z:b=p
    · subst z; rw [jh] at q; cases q; exact ho
    · rw [ji z] at q; exact r.sub _ _ q
  · refine ⟨r.grow.same.trans sS,r.grow.more,fun q w a b c=>?_⟩
    obtain ⟨x,y,z⟩:=r.grow.keep q w a b c
    refine ⟨x,outs q y fun n=>?_,z⟩
    subst n; rw [o.new] at a; cases a
  · intro j u f ej
    by_cases hij:i=j
    · subst hij
      rw [List.getElem?_set_self hi] at ej
      cases ej
      exact ⟨.ref p,h1,fun _=>rep,fun z=>by cases z⟩
    · rw [List.getElem?_set_ne hij] at ej
      obtain ⟨v',a1,a2,a3⟩:=r.slots j u f ej
      refine ⟨v',a1,fun z=>(a2 z).mono sS nol,fun z=>?_⟩
      subst z
      obtain ⟨p',rfl,o'⟩:=a3 rfl
      refine ⟨p',rfl,o'.own.mono sS rfl,outs p' o'.out fun n=>?_,o'.nas,o'.new⟩
      subst n
      exact hij (r.apart i j t u p' e ej h1 a1)
  · intro j k u w q ej ek
    have hj:st.env[j]? = some (some (u,true)):=by
      by_cases hij:i=j
      · subst hij; rw [List.getElem?_set_self hi] at ej; cases ej
      · rwa [List.getElem?_set_ne hij] at ej
    have hk:st.env[k]? = some (some (w,true)):=by
      by_cases hij:i=k
      · subst hij; rw [List.getElem?_set_self hi] at ek; cases ek
      · rwa [List.getElem?_set_ne hij] at ek
    exact r.apart j k u w q hj hk
  · refine ⟨r.sto.len,r.sto.nd,fun n so en=>?_⟩
    obtain ⟨a,a1,a2,a3⟩:=r.sto.at' n so en
    refine ⟨a,a1,outs a a2 fun z=>?_,a3.mono sS rfl⟩
    subst z
    exact o.nas (List.mem_of_getElem? a1)
  · exact fun q hq=>(r.pend q hq).mono sS nol
  · show σ.length=(st.env.set i _).length
    rw [List.length_set]; exact r.len
end
noncomputable section
variable {X:Cx} {B:Bas} {a b c:Expr} {m m1 m2:M T} {pos:Pos}
theorem ao (i:Nat) {e:Expr} (h:PE X e (a1r i)):PE X e (tOf X.K B (cj i)):=h.imp fun σ H Q z9=>by
  obtain ⟨st,ps,S,as,R,t,st',e,q⟩:=z9
  rcases V1 e with ⟨e1,rfl⟩ | ⟨e1,rfl⟩
  · obtain ⟨v,h1,h2,_⟩:=R.slots i t false e1
    exact ⟨v,h1,q v H S as (R.push (h2 rfl))⟩
  · obtain ⟨v,S',h1,R'⟩:=R.freeze e1
    exact ⟨v,h1,q v H S' as R'⟩
theorem dz:PA X [] (aOf X.K B iy):=Bd.imp fun σ H Q z9=>by
  obtain ⟨st,ps,S,as,R,ts,st',e,q⟩:=z9
  cases e
  exact q [] H S as R .nil
theorem aj {es:List Expr} {ms:M (List T)} (ha:PE X a (tOf X.K B m)) (hr:PA X es (aOf X.K B ms)) (hs:starEach (a::es) X.env=(false,eval a X.env)::starEach es X.env:=by rfl):PA X (a::es) (aOf X.K B (ak m ms)) :=
  (vp ha hr hs).imp fun σ H Q z9=>by
    obtain ⟨st,ps,S,as,R,ts,st',e,q⟩:=z9
    obtain ⟨t,s1,us,e1,e2,rfl⟩:=Im e
    refine ⟨st,ps,S,as,R,t,s1,e1,fun v H1 S1 as1 R1=>⟨s1,_,S1,as1,R1,us,st',e2,fun vs H2 S2 as2 R2 rs=>?_⟩⟩
    exact q (v::vs) H2 S2 as2 R2.drop (.cons R2.top rs)
theorem qd {es:List Expr} {ms:M (List T)} {k:Nat} (h:PA X es (aOf X.K B ms)) (hm:∀ st ts st',ms st=some (ts,st')→ts.length≤1000):PE X (.Tuple es k pos) (tOf X.K B (jg (fun l=>some (.tup l)) ms)) :=
  (a8f h).imp fun σ H Q z9=>by
    obtain ⟨st,ps,S,as,R,t,st',e,q⟩:=z9
    obtain ⟨ts,e1,e2⟩:=Hr e
    cases e2
    refine ⟨st,ps,S,as,R,ts,st',e1,fun vs H1 S1 as1 R1 rs=>⟨?_,fun p hp=>?_⟩⟩
    · rw [rs.length]; exact Nat.le_of_lt (Ir (hm _ _ _ e1))
    · have x:=Ext.laid R1.sub hp (.tup vs)
      exact q _ _ _ _ ((R1.ext x).push (.tup (SqT.of jh) (rs.mono x.s nol)))
theorem Io {es:List Expr} {ms:M (List T)} (h:PA X es (aOf X.K B ms)) (hm:∀ st ts st',ms st=some (ts,st')→ts.length≤1000):PE X (.List es pos) (tOf X.K B (jg (fun l=>some (.lst l)) ms)) :=
  (a0y h).imp fun σ H Q z9=>by
    obtain ⟨st,ps,S,as,R,t,st',e,q⟩:=z9
    obtain ⟨ts,e1,e2⟩:=Hr e
    cases e2
    refine ⟨st,ps,S,as,R,ts,st',e1,fun vs H1 S1 as1 R1 rs=>⟨?_,fun p hp=>?_⟩⟩
    · rw [rs.length]; exact Nat.le_of_lt (Ir (hm _ _ _ e1))
    · have x:=Ext.laid R1.sub hp (.lst vs)
      exact q _ _ _ _ ((R1.ext x).push (.lst (SqL.of jh) (rs.mono x.s nol)))
theorem je:∀ st ts st',iy st=some (ts,st')→ts.length≤0:=fun st ts st' e=>by cases e; exact Nat.le_refl _
theorem dh {r:M (List T)} {n:Nat} (h:∀ st ts st',r st=some (ts,st')→ts.length≤n):∀ st ts st',ak m r st=some (ts,st')→ts.length≤n+1:=fun st ts st' e=>by
  obtain ⟨t,s1,us,e1,e2,rfl⟩:=Im e
  exact Nat.succ_le_succ (h _ _ _ e2)
theorem vg {ms:M (List T)} {f:List T→Option T} {e:Expr} (h:PE X e (tCB (rL X.K f) (aOf X.K B ms))):PE X e (tOf X.K B (jg f ms)) :=
  h.imp fun σ H Q z9=>by
    obtain ⟨st,ps,S,as,R,t,st',e,q⟩:=z9
    obtain ⟨ts,e1,e2⟩:=Hr e
    refine ⟨st,ps,S,as,R,ts,st',e1,fun vs H1 S1 as1 R1 rs=>⟨S1,as1,ts,t,R1.sub,rs,e2,fun v H2 S2 x r=>?_⟩⟩
    exact q v H2 S2 as1 ((R1.ext x).push r)
theorem Vf {f:T→T→Option T} {e:Expr} (h:PE X e (tOp (r2 X.K f) (tOf X.K B m1) (tOf X.K B m2))):PE X e (tOf X.K B (mOp f m1 m2)) :=
  h.imp fun σ H Q z9=>by
    obtain ⟨st,ps,S,as,R,t,st',e,q⟩:=z9
    obtain ⟨t1,s1,t2,e1,e2,e3⟩:=Ox e
    refine ⟨st,ps,S,as,R,t1,s1,e1,fun v H1 S1 as1 R1=>⟨s1,_,S1,as1,R1,t2,st',e2,fun u H2 S2 as2 R2=>?_⟩⟩
    exact ⟨S2,as2,t1,t2,t,R2.sub,R2.top2,R2.top,e3,fun w H3 S3 x r=>q w H3 S3 as2 ((R2.drop.drop.ext x).push r)⟩
theorem a3w {f:T→Option T} {e:Expr} (h:PE X e (tUn (r1 X.K f) (tOf X.K B m))):PE X e (tOf X.K B (mUn f m)) :=
  h.imp fun σ H Q z9=>by
    obtain ⟨st,ps,S,as,R,t,st',e,q⟩:=z9
    obtain ⟨t1,e1,e3⟩:=Zh e
    refine ⟨st,ps,S,as,R,t1,st',e1,fun v H1 S1 as1 R1=>⟨S1,as1,t1,t,R1.sub,R1.top,e3,fun w H3 S3 x r=>q w H3 S3 as1 ((R1.drop.ext x).push r)⟩⟩
theorem Nr {op:CmpOp} {f:T→T→Option T} (ho:OpT X (compareOp op) f) (ha:PE X a (tOf X.K B m1)) (hb:PE X b (tOf X.K B m2)) (hm:behindInMarks op b=false):PE X (.Compare a [op] [b] pos) (tOf X.K B (mOp f m1 m2)):=Vf (a7b ho ha hb hm)
theorem a9z {op:UnaryOp} {f:T→Option T} (ho:UnT X (unaryOp op) f) (ha:PE X a (tOf X.K B m)):PE X (.UnaryOp op a pos) (tOf X.K B (mUn f m)):=a3w (a9l ho ha)
theorem Np {e:Expr} (h:PT X e (a90 (tOf X.K B m))):PT X e (cOf X.K B (gj m)):=h.imp fun σ H Q z9=>by
  obtain ⟨st,ps,S,as,R,t,st',e,q⟩:=z9
  refine ⟨st,ps,S,as,R,.bl t,st',Fz e,fun v H1 S1 as1 R1=>?_⟩
  cases R1.top
  exact ⟨t,rfl,q H1 S1 as1 R1.drop⟩
theorem qb {op:CmpOp} {f:T→T→Option T} (ho:OpT X (compareOp op) f) (ha:PE X a (tOf X.K B m1)) (hb:PE X b (tOf X.K B m2)) (hm:behindInMarks op b=false):PT X (.Compare a [op] [b] pos) (cOf X.K B (gj (mOp f m1 m2))) :=
  Np ((a6o ho ha hb hm).imp fun σ H Q z9=>by
    obtain ⟨st,ps,S,as,R,t,st',e,q⟩:=z9
    obtain ⟨t1,s1,t2,e1,e2,e3⟩:=Ox e
    refine ⟨st,ps,S,as,R,t1,s1,e1,fun v H1 S1 as1 R1=>⟨s1,_,S1,as1,R1,t2,st',e2,fun u H2 S2 as2 R2=>?_⟩⟩
    exact ⟨S2,as2,t1,t2,t,R2.sub,R2.top2,R2.top,e3,fun w H3 S3 x r=>q w H3 S3 as2 ((R2.drop.drop.ext x).push r)⟩)
theorem a0l {e:Expr} (h:PE X e (tOf X.K B m)) (he:∀ whole,isTrue e X.env whole=(do let v ← whole; standAt e.pos; holding [v] (truthy v)):=by intro _; rfl):PT X e (cOf X.K B (gj m)) :=
  Np ((a9k h he).imp fun σ H Q h=>h)
theorem a9o {c1:M Bool} (ha:PT X a (cOf X.K B c1)):PT X (.UnaryOp .Not a pos) (cOf X.K B (m7 c1)):=(a8g ha).imp fun σ H Q z9=>by
  obtain ⟨st,ps,S,as,R,t,st',e,q⟩:=z9
  obtain ⟨k,e1,rfl⟩:=Uu e
  exact ⟨st,ps,S,as,R,k,st',e1,q⟩
theorem Sv {c1:M Bool} (ha:PT X a (cOf X.K B c1)):PW X (.BoolOp .And [a] pos) (cOf X.K B c1):=pw_and1 ha
theorem a8s {c1:M Bool} (ha:PT X a (cOf X.K B c1)):PW X (.BoolOp .Or [a] pos) (cOf X.K B c1):=pw_or1 ha
theorem a99 {e:Expr} {t t':TT} (h:PW X e t) (i:∀ σ H Q,t' σ H Q→t σ H Q):PW X e t':=fun whole pins s σ H Q I q=>h whole pins s σ H Q I (i σ H Q q)
theorem a1h {c1 c2:M Bool} {rest:List Expr} (ha:PT X a (cOf X.K B c1)) (hb:PW X (.BoolOp .And (b::rest) pos) (cOf X.K B c2)):PW X (.BoolOp .And (a::b::rest) pos) (cOf X.K B (m8 c1 c2)) :=
  a99 (pw_and ha hb) fun σ H Q z9=>by
    obtain ⟨st,ps,S,as,R,t,st',e,q⟩:=z9
    rcases a3z e with ⟨s1,e1,e2⟩ | ⟨e1,rfl⟩
    · exact ⟨st,ps,S,as,R,true,s1,e1,fun H1 S1 as1 R1=>a72 (⟨s1,ps,S1,as1,R1,t,st',e2,q⟩)⟩
    · exact ⟨st,ps,S,as,R,false,st',e1,fun H1 S1 as1 R1=>a6l (q H1 S1 as1 R1)⟩
theorem abh {c1 c2:M Bool} {rest:List Expr} (ha:PT X a (cOf X.K B c1)) (hb:PW X (.BoolOp .Or (b::rest) pos) (cOf X.K B c2)):PW X (.BoolOp .Or (a::b::rest) pos) (cOf X.K B (mOr c1 c2)) :=
  a99 (pw_or ha hb) fun σ H Q z9=>by
    obtain ⟨st,ps,S,as,R,t,st',e,q⟩:=z9
    rcases Zj e with ⟨s1,e1,e2⟩ | ⟨e1,rfl⟩
    · exact ⟨st,ps,S,as,R,false,s1,e1,fun H1 S1 as1 R1=>a6l (⟨s1,ps,S1,as1,R1,t,st',e2,q⟩)⟩
    · exact ⟨st,ps,S,as,R,true,st',e1,fun H1 S1 as1 R1=>a72 (q H1 S1 as1 R1)⟩
theorem Ob {c1:M Bool} (hc:PT X c (cOf X.K B c1)) (ha:PE X a (tOf X.K B m1)) (hb:PE X b (tOf X.K B m2)):PE X (.IfExp c a b pos) (tOf X.K B (mIf c1 m1 m2)) :=
  (a3e hc ha hb).imp fun σ H Q z9=>by
    obtain ⟨st,ps,S,as,R,t,st',e,q⟩:=z9
    rcases a7e e with ⟨s1,e1,e2⟩ | ⟨s1,e1,e2⟩
    · exact ⟨st,ps,S,as,R,true,s1,e1,fun H1 S1 as1 R1=>a72 (⟨s1,ps,S1,as1,R1,t,st',e2,q⟩)⟩
    · exact ⟨st,ps,S,as,R,false,s1,e1,fun H1 S1 as1 R1=>a6l (⟨s1,ps,S1,as1,R1,t,st',e2,q⟩)⟩
theorem Ym (ha:PE X a (tOf X.K B m)):PE X (.UnaryOp .Not a pos) (tOf X.K B (j7 (m7 (gj m)))):=(a9q ha).imp fun σ H Q z9=>by
  obtain ⟨st,ps,S,as,R,t,st',e,q⟩:=z9
  obtain ⟨b,e1,rfl⟩:=Pn e
  obtain ⟨k,e2,rfl⟩:=Uu e1
  refine ⟨st,ps,S,as,R,.bl k,st',Fz e2,fun v H1 S1 as1 R1=>?_⟩
  cases R1.top
  exact ⟨k,rfl,q _ H1 S1 as1 (R1.drop.push (.bl _))⟩
theorem a9v {op:BoolOp} (ha:PE X a (tOf X.K B m)):PE X (.BoolOp op [a] pos) (tOf X.K B m):=a8n ha
theorem aav {rest:List Expr} (ha:PE X a (tOf X.K B m1)) (hb:PE X (.BoolOp .Or (b::rest) pos) (tOf X.K B m2)):PE X (.BoolOp .Or (a::b::rest) pos) (tOf X.K B (j7 (mOr (gj m1) (gj m2)))) :=
  (ab9 ha hb).imp fun σ H Q z9=>by
    obtain ⟨st,ps,S,as,R,t,st',e,q⟩:=z9
    obtain ⟨b,e1,rfl⟩:=Pn e
    rcases Zj e1 with ⟨s1,e2,e3⟩ | ⟨e2,rfl⟩
    · refine ⟨st,ps,S,as,R,.bl false,s1,Fz e2,fun v H1 S1 as1 R1=>?_⟩
      cases R1.top
      exact ⟨false,rfl,a6l (⟨s1,ps,S1,as1,R1.drop,.bl b,st',Fz e3,q⟩)⟩
    · refine ⟨st,ps,S,as,R,.bl true,st',Fz e2,fun v H1 S1 as1 R1=>?_⟩
      cases R1.top
      exact ⟨true,rfl,a72 (q _ H1 S1 as1 (R1.drop.push (.bl _)))⟩
end
end C
end
noncomputable section
set_option linter.all false
set_option maxRecDepth 100000
set_option maxHeartbeats 4000002
set_option autoImplicit false
namespace C
open PySem PySem.Spec PyProof.Rows L2
theorem a4p {a b:S} {s s':Sta} {fl:Flow} (h:jc a b s=some (fl,s')):(∃ s1,a s=some (.next,s1)∧b s1=some (fl,s'))∨(a s=some (fl,s')∧fl≠.next):=by
  unfold jc at h
  split at h
  · rename_i s1 e; exact .inl ⟨s1,e,h⟩
  · rename_i r hr; exact .inr ⟨h,fun z=>by subst z; exact hr _ h⟩
theorem Uv {e:M T} {s s':Sta} {fl:Flow} (h:jj e s=some (fl,s')):∃ t,e s=some (t,s')∧fl=.ret t:=by
  unfold jj at h
  split at h
  · rename_i t s1 e; cases h; exact ⟨t,e,rfl⟩
  · cases h
theorem a6g {c:M Bool} {a b:S} {s s':Sta} {fl:Flow} (h:sIf c a b s=some (fl,s')):(∃ s1,c s=some (true,s1)∧a s1=some (fl,s'))∨(∃ s1,c s=some (false,s1)∧b s1=some (fl,s')):=by
  unfold sIf at h
  split at h
  · rename_i s1 e; exact .inl ⟨s1,e,h⟩
  · rename_i s1 e; exact .inr ⟨s1,e,h⟩
  · cases h
theorem a3y {i:Nat} {e:M T} {s s':Sta} {fl:Flow} (h:jk i e s=some (fl,s')):∃ t s1,e s=some (t,s1)∧fl=.next∧s'=bw i t false s1:=by
  unfold jk at h
  split at h
  · rename_i t s1 e; cases h; exact ⟨t,s1,e,rfl,rfl⟩
  · cases h
theorem a3m {i:Nat} {e:M T} {s s':Sta} {fl:Flow} (h:lg i e s=some (fl,s')):∃ t s1,e s=some (t,s1)∧fl=.next∧s'=bw i t true s1:=by
  unfold lg at h
  split at h
  · rename_i t s1 e; cases h; exact ⟨t,s1,e,rfl,rfl⟩
  · cases h
theorem a2z {g:G} {it:M (List T)} {b:S} {s s':Sta} {fl:Flow} (h:jt g it b s=some (fl,s')):∃ ts s1,it s=some (ts,s1)∧Fo g b ts s1=some (fl,s'):=by
  unfold jt at h
  split at h
  · rename_i ts s1 e; exact ⟨ts,s1,e,h⟩
  · cases h
theorem Tt {i:Nat} {e:M T} {s s':Sta} {fl:Flow} (h:cg i e s=some (fl,s')) :
    j5 i s=true∧∃ t s1 xs,e s=some (t,s1)∧s1.env[i]? = some (some (.lst xs,true))∧xs.length<lim∧fl=.next∧s'=bw i (.lst (xs++[t])) true s1:=by
  unfold cg at h
  split at h
  · rename_i hd
    refine ⟨hd,?_⟩
    split at h
    · rename_i t s1 e
      split at h
      · rename_i xs ex
        split at h
        · rename_i hl; cases h; exact ⟨t,s1,xs,e,ex,hl,rfl,rfl⟩
        · cases h
      · cases h
    · cases h
  · cases h
theorem Uc {i:Nat} {e:M T} {s s':Sta} {fl:Flow} (h:cu i e s=some (fl,s')) :
    j5 i s=true∧∃ t s1 xs ys,e s=some (t,s1)∧j4 t=some ys∧s1.env[i]? = some (some (.lst xs,true))∧xs.length+ys.length<lim∧fl=.next∧s'=bw i (.lst (xs++ys)) true s1:=by
  unfold cu at h
  split at h
  · rename_i hd
    refine ⟨hd,?_⟩
    split at h
    · rename_i t s1 e
      split at h
      · rename_i ys xs ey ex
        split at h
        · rename_i hl; cases h; exact ⟨t,s1,_,_,e,ey,ex,hl,rfl,rfl⟩
        · cases h
      · cases h
    · cases h
  · cases h
noncomputable section
variable {K:PySem.W.Frag} {B:Bas} {st:Sta} {σ:L2.St} {H H' S S':Hp} {ps ps2:List (V × T)} {as as':List Addr}
theorem Rel.pick (r:Rel K B st σ H ps S as) (h:∀ p∈ps2,p∈ps):Rel K B st σ H ps2 S as :=
  ⟨r.sub,r.grow,r.slots,r.apart,r.sto,fun p hp=>r.pend p (h p hp),r.len⟩
theorem Ov {α:Type} {l:List α} {i:Nat} {x:α} (h:l.length≤i):l.set i x=l:=List.set_eq_of_length_le h
theorem Rel.put (r:Rel K B st σ H ps S as) {i:Nat} {v:V} {t:T} (h:Rep K S as v t):Rel K B (bw i t false st) (σ.set i (some v)) H ps S as:=by
  by_cases hi:i<st.env.length
  · have hs:i<σ.length:=by rw [r.len]; exact hi
    refine ⟨r.sub,r.grow,fun j u f e=>?_,fun j k u w p ej ek sj sk=>?_,r.sto,r.pend,by show _=(st.env.set i _).length; rw [List.length_set,List.length_set]; exact r.len⟩
    · have e:(st.env.set i (some (t,false)))[j]? = some (some (u,f)):=e
      by_cases hij:i=j
      · subst hij
        rw [List.getElem?_set_self hi] at e; cases e
        exact ⟨v,List.getElem?_set_self hs,fun _=>h,fun z=>by cases z⟩
      · rw [List.getElem?_set_ne hij] at e ⊢
        exact r.slots j u f e
    · have ej:(st.env.set i (some (t,false)))[j]? = some (some (u,true)):=ej
      have ek:(st.env.set i (some (t,false)))[k]? = some (some (w,true)):=ek
      have hij:i≠j:=fun z=>by subst z; rw [List.getElem?_set_self hi] at ej; cases ej
      have hik:i≠k:=fun z=>by subst z; rw [List.getElem?_set_self hi] at ek; cases ek
      rw [List.getElem?_set_ne hij] at ej sj
      rw [List.getElem?_set_ne hik] at ek sk
      exact r.apart j k u w p ej ek sj sk
  · have e1:bw i t false st=st:=by unfold bw; rw [Ov (Nat.le_of_not_lt hi)]
    have e2:σ.set i (some v)=σ:=Ov (by rw [r.len]; exact Nat.le_of_not_lt hi)
    rw [e1,e2]; exact r
noncomputable def Kg (st:Sta) (σ:L2.St) (p:Addr):Prop:=∀ (j:Nat) u,st.env[j]? = some (some (u,true))→σ[j]? = some (some (.ref p))→False
theorem Rel.a9y (r:Rel K B st σ H ps S as) {i:Nat} {p:Addr} {t:T} (h:Lb K B S as H p t) (hn:Kg st σ p):Rel K B (bw i t true st) (σ.set i (some (.ref p))) H ps S as:=by
  by_cases hi:i<st.env.length
  · have hs:i<σ.length:=by rw [r.len]; exact hi
    refine ⟨r.sub,r.grow,fun j u f e=>?_,fun j k u w q ej ek sj sk=>?_,r.sto,r.pend,by show _=(st.env.set i _).length; rw [List.length_set,List.length_set]; exact r.len⟩
    · have e:(st.env.set i (some (t,true)))[j]? = some (some (u,f)):=e
      by_cases hij:i=j
      · subst hij
        rw [List.getElem?_set_self hi] at e; cases e
        exact ⟨.ref p,List.getElem?_set_self hs,(fun z=>by cases z),fun _=>⟨p,rfl,h⟩⟩
      · rw [List.getElem?_set_ne hij] at e ⊢
        exact r.slots j u f e
    · have ej:(st.env.set i (some (t,true)))[j]? = some (some (u,true)):=ej
      have ek:(st.env.set i (some (t,true)))[k]? = some (some (w,true)):=ek
      by_cases hij:i=j
      · by_cases hik:i=k
        · rw [← hij,← hik]
        · subst hij
          rw [List.getElem?_set_self hs] at sj; cases sj
          rw [List.getElem?_set_ne hik] at ek sk
          exact (hn k w ek sk).elim
      · rw [List.getElem?_set_ne hij] at ej sj
        by_cases hik:i=k
        · subst hik
          rw [List.getElem?_set_self hs] at sk; cases sk
          exact (hn j u ej sj).elim
        · rw [List.getElem?_set_ne hik] at ek sk
          exact r.apart j k u w q ej ek sj sk
  · have e1:bw i t true st=st:=by unfold bw; rw [Ov (Nat.le_of_not_lt hi)]
    have e2:σ.set i (some (.ref p))=σ:=Ov (by rw [r.len]; exact Nat.le_of_not_lt hi)
    rw [e1,e2]; exact r
theorem Rel.turn (r:Rel K B st σ H ps S as) {i:Nat} {t t':T} {p:Addr} {ob:HO} (e:st.env[i]? = some (some (t,true))) (hp:σ[i]? = some (some (.ref p))) (h:Own K S as (upd H p ob) p t') :
    Rel K B (bw i t' true st) σ (upd H p ob) ps S as:=by
  obtain ⟨v,h1,_,h3⟩:=r.slots i t true e
  rw [hp] at h1; cases h1
  obtain ⟨p',ep,o⟩:=h3 rfl
  cases ep
  have hi:i<st.env.length:=(List.getElem?_eq_some_iff.mp e).1
  have other:∀ q,q≠p→H q=upd H p ob q:=fun q n=>(ji n).symm
  refine ⟨fun b u q=>?_,⟨r.grow.same,r.grow.more,fun q w a b c=>?_⟩,fun j u f ej=>?_,fun j k u w q ej ek sj sk=>?_,⟨r.sto.len,r.sto.nd,fun n so en=>?_⟩,r.pend,by show _=(st.env.set i _).length; rw [List.length_set]; exact r.len⟩
  · have n:b≠p:=fun z=>by subst z; rw [o.out] at q; cases q
    rw [ji n]; exact r.sub _ _ q
  · obtain ⟨x,y,z⟩:=r.grow.keep q w a b c
    have n:q≠p:=fun z=>by subst z; rw [o.new] at a; cases a
    exact ⟨by rw [ji n]; exact x,y,z⟩
  · have ej:(st.env.set i (some (t',true)))[j]? = some (some (u,f)):=ej
    by_cases hij:i=j
    · subst hij
      rw [List.getElem?_set_self hi] at ej; cases ej
      exact ⟨.ref p,hp,(fun z=>by cases z),fun _=>⟨p,rfl,h,o.out,o.nas,o.new⟩⟩
    · rw [List.getElem?_set_ne hij] at ej
      obtain ⟨v',a1,a2,a3⟩:=r.slots j u f ej
      refine ⟨v',a1,a2,fun z=>?_⟩
      subst z
      obtain ⟨p',rfl,o'⟩:=a3 rfl
      have n:p'≠p:=fun z=>by subst z; exact hij (r.apart i j t u p' e ej hp a1)
      exact ⟨p',rfl,o'.own.mono (yq.refl _) (other p' n),o'.out,o'.nas,o'.new⟩
  · have back:∀ (j:Nat) u,(st.env.set i (some (t',true)))[j]? = some (some (u,true))→∃ u',st.env[j]? = some (some (u',true)):=fun j u ej=>by
      by_cases hij:i=j
      · subst hij; exact ⟨t,e⟩
      · rw [List.getElem?_set_ne hij] at ej; exact ⟨u,ej⟩
    obtain ⟨u',ej'⟩:=back j u ej
    obtain ⟨w',ek'⟩:=back k w ek
    exact r.apart j k u' w' q ej' ek' sj sk
  · obtain ⟨a,a1,a2,a3⟩:=r.sto.at' n so en
    have n:a≠p:=fun z=>by subst z; exact o.nas (List.mem_of_getElem? a1)
    exact ⟨a,a1,a2,a3.mono (yq.refl _) (other a n)⟩
theorem Rel.a4y (r:Rel K B st σ H ps S as) {n:Nat} {so so':SO} {a:Addr} {ob:HO} (e:st.sto[n]? = some so) (ha:as[n]? = some a) (h:Zu K S as (upd H a ob) a so') :
    Rel K B { st with sto:=st.sto.set n so' } σ (upd H a ob) ps S as:=by
  have ma:a∈as:=List.mem_of_getElem? ha
  have hn:n<st.sto.length:=(List.getElem?_eq_some_iff.mp e).1
  have sa:S a=none:=by
    obtain ⟨a',a1,a2,_⟩:=r.sto.at' n so e
    rw [ha] at a1; cases a1; exact a2
  have other:∀ q,q≠a→H q=upd H a ob q:=fun q n=>(ji n).symm
  refine ⟨fun b u q=>?_,⟨r.grow.same,r.grow.more,fun q w x y z=>?_⟩,fun j u f ej=>?_,r.apart,⟨by rw [List.length_set]; exact r.sto.len,r.sto.nd,fun k so2 en=>?_⟩,r.pend,r.len⟩
  · have n:b≠a:=fun z=>by subst z; rw [sa] at q; cases q
    rw [ji n]; exact r.sub _ _ q
  · obtain ⟨x1,y1,z1⟩:=r.grow.keep q w x y z
    have n:q≠a:=fun z=>by subst z; exact z1 ma
    exact ⟨by rw [ji n]; exact x1,y1,z1⟩
  · obtain ⟨v',a1,a2,a3⟩:=r.slots j u f ej
    refine ⟨v',a1,a2,fun z=>?_⟩
    obtain ⟨p',rfl,o'⟩:=a3 z
    have n:p'≠a:=fun z=>by subst z; exact o'.nas ma
    exact ⟨p',rfl,o'.own.mono (yq.refl _) (other p' n),o'.out,o'.nas,o'.new⟩
  · by_cases hk:n=k
    · subst hk
      rw [List.getElem?_set_self hn] at en; cases en
      exact ⟨a,ha,sa,h⟩
    · rw [List.getElem?_set_ne hk] at en
      obtain ⟨b,b1,b2,b3⟩:=r.sto.at' k so2 en
      have n:b≠a:=fun z=>by
        subst z
        have l1:=(List.getElem?_eq_some_iff.mp b1).1
        have l2:=(List.getElem?_eq_some_iff.mp ha).1
        exact hk ((List.getElem?_inj (i:=n) (j:=k) l2 r.sto.nd).mp (by rw [ha,b1]))
      exact ⟨b,b1,b2,b3.mono (yq.refl _) (other b n)⟩
end
noncomputable def Fin (K:PySem.W.Frag) (B:Bas) (D:Ends) (ps:List (V × T)):Flow→Sta→Prop
  | .next,st'=>∀ σ' H' S' as',Rel K B st' σ' H' ps S' as'→D.nx σ' H'
  | .ret t,st'=>∀ v σ' H' S' as',Rel K B st' σ' H' ((v,t)::ps) S' as'→D.rt v H'
  | .brk,st'=>∀ σ' H' S' as',Rel K B st' σ' H' ps S' as'→D.bk σ' H'
  | .cont,st'=>∀ σ' H' S' as',Rel K B st' σ' H' ps S' as'→D.ct σ' H'
inductive sOf (K:PySem.W.Frag) (B:Bas) (s:S) (D:Ends) (σ:L2.St) (H:Hp):Prop
  | mk (st:Sta) (ps:List (V × T)) (S0:Hp) (as:List Addr) (R:Rel K B st σ H ps S0 as) (fl:Flow) (st':Sta) (e:s st=some (fl,st')) (q:Fin K B D ps fl st')
inductive gOf (K:PySem.W.Frag) (B:Bas) (g:G) (v:V) (σ:L2.St) (H:Hp) (Q:L2.St→Hp→Prop):Prop
  | mk (st:Sta) (ps:List (V × T)) (S:Hp) (as:List Addr) (t:T) (R:Rel K B st σ H ((v,t)::ps) S as) (st':Sta) (e:g t st=some st') (q:∀ σ' H' S' as',Rel K B st' σ' H' ps S' as'→Q σ' H')
inductive fOf (K:PySem.W.Frag) (B:Bas) (m:M T) (σ:L2.St) (H:Hp) (Q:VK):Prop
  | mk (st:Sta) (ps:List (V × T)) (S:Hp) (as:List Addr) (R:Rel K B st σ H ps S as) (t:T) (st':Sta) (e:m st=some (t,st')) (q:∀ p H' S' as',Rel K B st' σ H' ps S' as'→Lb K B S' as' H' p t→Kg st' σ p→Q (.ref p) H')
noncomputable section
variable {X:Cx} {B:Bas} {a b c e:Expr} {m m1 m2:M T} {pos:Pos} {u v:S}
theorem tu:PSs X [] (sOf X.K B jo):=a6j.imp fun D σ H z9=>by
  obtain ⟨st,ps,S,as,R,fl,st',e,q⟩:=z9
  cases e; exact q σ H S as R
theorem gn {st:Stmt} {rest:List Stmt} (h1:PS X st (sOf X.K B u)) (h2:PSs X rest (sOf X.K B v)):PSs X (st::rest) (sOf X.K B (jc u v)):=(a1y h1 h2).imp fun D σ H z9=>by
  obtain ⟨st,ps,S,as,R,fl,st',e,q⟩:=z9
  rcases a4p e with ⟨s1,e1,e2⟩ | ⟨e1,hn⟩
  · exact ⟨st,ps,S,as,R,.next,s1,e1,fun σ' H' S' as' R'=>⟨s1,ps,S',as',R',fl,st',e2,q⟩⟩
  · refine ⟨st,ps,S,as,R,fl,st',e1,?_⟩
    cases fl with
    | next=>exact absurd rfl hn
    | ret t=>exact q
    | brk=>exact q
    | cont=>exact q
theorem jf {st:Stmt} (h1:PS X st (sOf X.K B u)):PSs X [st] (sOf X.K B u):=Yt h1
theorem jz (he:PE X e (tOf X.K B m)):PS X (.Return (some e) pos) (sOf X.K B (jj m)):=(a5e he).imp fun D σ H z9=>by
  obtain ⟨st,ps,S,as,R,fl,st',e,q⟩:=z9
  obtain ⟨t,e1,rfl⟩:=Uv e
  exact ⟨st,ps,S,as,R,t,st',e1,fun v H' S' as' R'=>q v σ H' S' as' R'⟩
theorem Ag {c1:M Bool} {sa sb:List Stmt} (hc:PT X c (cOf X.K B c1)) (ha:PSs X sa (sOf X.K B u)) (hb:PSs X sb (sOf X.K B v)):PS X (.If c sa sb pos) (sOf X.K B (sIf c1 u v)):=(abk hc ha hb).imp fun D σ H z9=>by
  obtain ⟨st,ps,S,as,R,fl,st',e,q⟩:=z9
  rcases a6g e with ⟨s1,e1,e2⟩ | ⟨s1,e1,e2⟩
  · exact ⟨st,ps,S,as,R,true,s1,e1,fun H1 S1 as1 R1=>a72 ⟨s1,ps,S1,as1,R1,fl,st',e2,q⟩⟩
  · exact ⟨st,ps,S,as,R,false,s1,e1,fun H1 S1 as1 R1=>a6l ⟨s1,ps,S1,as1,R1,fl,st',e2,q⟩⟩
theorem ux (i:Nat) {tg:Expr} (h:PG X tg (O4 i)):PG X tg (gOf X.K B (gq i)):=fun pins s σ H x u Q I r z9=>h pins s σ H x u Q I r (by
  obtain ⟨st,ps,S,as,t,R,st',e,q⟩:=z9
  cases e
  exact q _ H S as (R.drop.put R.top))
theorem nu (i:Nat) {te:TE} {s:Stmt} (h:PS X s (a5d te (O4 i))) (hm:∀ σ H Q,tOf X.K B m σ H Q→te σ H Q):PS X s (sOf X.K B (jk i m)):=h.imp fun D σ H z9=>by
  obtain ⟨st,ps,S,as,R,fl,st',e,q⟩:=z9
  obtain ⟨t,s1,e1,rfl,rfl⟩:=a3y e
  exact hm σ H _ ⟨st,ps,S,as,R,t,s1,e1,fun v H' S' as' R'=>q _ H' S' as' (R'.drop.put R'.top)⟩
theorem G6 (i:Nat) {te:TE} {s:Stmt} (h:PS X s (a5d te (O4 i))) (hm:∀ σ H Q,fOf X.K B m σ H Q→te σ H Q):PS X s (sOf X.K B (lg i m)):=h.imp fun D σ H z9=>by
  obtain ⟨st,ps,S,as,R,fl,st',e,q⟩:=z9
  obtain ⟨t,s1,e1,rfl,rfl⟩:=a3m e
  exact hm σ H _ ⟨st,ps,S,as,R,t,s1,e1,fun p H' S' as' R' o n=>q _ H' S' as' (R'.a9y o n)⟩
end
end C
end
noncomputable section
set_option linter.all false
set_option maxRecDepth 100000
set_option maxHeartbeats 4000002
set_option autoImplicit false
namespace C
open PySem PySem.Spec PyProof.Rows L2
noncomputable section
variable {K:PySem.W.Frag} {B:Bas} {st:Sta} {σ:L2.St} {H H' S S':Hp} {ps ps2:List (V × T)} {as as':List Addr}
theorem Own.more {p:Addr} {t:T} (hs:yq S S') (x:∃ l,as'=as++l) (hh:H p=H' p) (o:Own K S as H p t):Own K S' as' H' p t:=by
  cases t with
  | lst ts=>obtain ⟨vs,h,r⟩:=o; exact ⟨vs,hh ▸ h,r.mono hs x⟩
  | dic ts=>obtain ⟨vs,h,r⟩:=o; exact ⟨vs,hh ▸ h,r.mono hs x⟩
  | _=>exact o.elim
theorem Rel.call {sto':List SO} (r:Rel K B st σ H ps S as) (g:Y4 ⟨S,as,H⟩ S' as' H') (sub:yq S' H') (so:Js K S' as' H' sto'):Rel K B { st with sto:=sto' } σ H' ps S' as' where
  sub:=sub
  grow:=by
    refine ⟨r.grow.same.trans g.same,?_,fun p o a b c=>?_⟩
    · obtain ⟨l,e⟩:=r.grow.more
      obtain ⟨l',e'⟩:=g.more
      exact ⟨l++l',by rw [e',e,List.append_assoc]⟩
    · obtain ⟨x,y,z⟩:=r.grow.keep p o a b c
      exact g.keep p o x y z
  slots:=fun i t f e=>by
    obtain ⟨v,h1,h2,h3⟩:=r.slots i t f e
    refine ⟨v,h1,fun q=>(h2 q).mono g.same g.more,fun q=>?_⟩
    obtain ⟨p,rfl,o⟩:=h3 q
    obtain ⟨ob,ho⟩:=o.own.there
    obtain ⟨x,y,z⟩:=g.keep p ob ho o.out o.nas
    exact ⟨p,rfl,o.own.more g.same g.more (by rw [ho,x]),y,z,o.new⟩
  apart:=r.apart
  sto:=so
  pend:=fun p hp=>(r.pend p hp).mono g.same g.more
  len:=r.len
end
noncomputable def spF (K:PySem.W.Frag) (ar:Nat) (F:Fn):Sp:=fun vs H Q _=>∃ S as sto ts t sto',yq S H∧Js K S as H sto∧vh K S as vs ts∧ts.length=ar∧F ts sto=some (t,sto') ∧
  ∀ v H' S' as',Y4 ⟨S,as,H⟩ S' as' H'→yq S' H'→Js K S' as' H' sto'→Rep K S' as' v t→Q v H'
noncomputable section
variable {X:Cx} {B:Bas} {a b c e:Expr} {m m1 m2:M T} {pos p:Pos} {u v:S} {es:List Expr} {ms:M (List T)} {k:Nat} {f:Addr} {fd:FuncData} {pn:List Str} {F:Fn} {x:Str}
theorem a7t (G:Dh X.prog X.w X.K X.mg X.base CX0 k f fd pn (spF X.K pn.length F)) (hr:Jl k X.A) (hg:Gl X x) (hm:X.mg x=some (.ref f)) (hk:PySem.W.keepIn X.K (.ref f)=true) (hb:Ph X.K fd pn [])
    (ha:PA X (e::es) (aOf X.K B ms)) (hl:∀ st ts st',ms st=some (ts,st')→ts.length=pn.length) (hdb:(x==("__debug__" : Str))=false:=by decide)
    (he:starEach (e::es) X.env=(false,eval e X.env)::starEach es X.env:=by rfl) (hpl:(backTo pos (starEach es X.env)).any (·.1)=false:=by rfl) :
    PE X (.Call (.Name x p) (e::es) [] pos) (tOf X.K B (dw F ms)) :=
  (Yy G hr hg hm hk hb .nil a97 ha hdb he hpl).imp fun σ H Q z9=>by
    obtain ⟨st,ps,S,as,R,t,st',e,q⟩:=z9
    obtain ⟨ts,s1,sto,e1,e2,rfl⟩:=Qx e
    refine ⟨st,ps,S,as,R,ts,s1,e1,fun vs H1 S1 as1 R1 rs=>?_⟩
    show spF X.K pn.length F (vs++[]) H1 Q E0
    rw [List.append_nil]
    exact ⟨S1,as1,s1.sto,ts,t,sto,R1.sub,R1.sto,rs,hl _ _ _ e1,e2,fun v H2 S2 as2 g sub so r=>q v H2 S2 as2 ((R1.call g sub so).push r)⟩
theorem jd:∀ st ts st',iy st=some (ts,st')→ts.length=0:=fun st ts st' e=>by cases e; rfl
theorem bf {r:M (List T)} {n:Nat} (h:∀ st ts st',r st=some (ts,st')→ts.length=n):∀ st ts st',ak m r st=some (ts,st')→ts.length=n+1:=fun st ts st' e=>by
  obtain ⟨t,s1,us,e1,e2,rfl⟩:=Im e
  exact congrArg (· + 1) (h _ _ _ e2)
end
noncomputable section
variable {P:Program} {w:World} {K:PySem.W.Frag} {mg:Str→Option Value} {base:Heap}
theorem a1e {N:List Str} {vs:List V} {i:Nat} {v:V} (h:vs[i]? = some v):(L2.start N vs)[i]? = some (some v):=by
  unfold L2.start
  have hi:=(List.getElem?_eq_some_iff.mp h).1
  rw [List.getElem?_append_left (by rw [List.length_map]; exact hi),List.getElem?_map,h]; rfl
theorem Rb {S H:Hp} {as:List Addr} {sto:List SO} {vs:List V} {ts:List T} {N:List Str} (h1:yq S H) (h2:Js K S as H sto) (h3:vh K S as vs ts) (hN:ts.length≤N.length) :
    Rel K ⟨S,as,H⟩ ⟨ts.map (fun t=>some (t,false))++List.replicate (N.length - ts.length) none,sto⟩ (L2.start N vs) H [] S as:=by
  have key:∀ (i:Nat) t fl,(ts.map (fun t=>some (t,false))++List.replicate (N.length - ts.length) (none:Slot))[i]? = some (some (t,fl))→fl=false∧ts[i]? = some t:=fun i t fl e=>by
    by_cases hi:i<ts.length
    · rw [List.getElem?_append_left (by rw [List.length_map]; exact hi),List.getElem?_map] at e
      cases z:ts[i]? with
      | none=>rw [z] at e; cases e
      | some t'=>rw [z] at e; cases e; exact ⟨rfl,rfl⟩
    · rw [List.getElem?_append_right (by rw [List.length_map]; exact Nat.le_of_not_lt hi)] at e
      have:=List.eq_of_mem_replicate (List.mem_of_getElem? e)
      cases this
  refine ⟨h1,⟨yq.refl _,nol,fun p o a b c=>⟨a,b,c⟩⟩,fun i t fl e=>?_,fun i j t u p ei ej=>?_,h2,(fun p hp=>by cases hp),?_⟩
  · obtain ⟨rfl,e'⟩:=key i t fl e
    obtain ⟨v,hv,r⟩:=h3.get e'
    exact ⟨v,a1e hv,fun _=>r,fun z=>by cases z⟩
  · obtain ⟨z,_⟩:=key i t true ei; cases z
  · unfold L2.start
    rw [List.length_append,List.length_append,List.length_map,List.length_map,List.length_replicate,List.length_replicate,h3.length]
theorem pq {x qual:Str} {st:Stmt} {f:Addr} {fd:FuncData} {N ps:List Str} {k:Nat} {b:S} (F:Fun K x qual st f fd) (Sc:m6 N ps (gk st)) (hN:ps.length≤N.length)
    (hb:∀ (cdv:Value) (A:Around) (outer:List Env) (s:Shared) (H:Hp) (E:XK) (B:Bas),Jl k (A.deeper (envOfC qual (gk st) s.heap.objs.size f cdv)) →
      PSs (a5m CX0 P w K mg base N qual (gk st) f cdv A outer s H E).nox (jx st) (sOf K B b)):Dh P w K mg base CX0 (k+1) f fd ps (spF K ps.length (iu N.length b)):=by
  refine F.ok Sc (fun vs H Q E h=>?_) fun cdv A outer s H vs Q E hr h=>?_
  · obtain ⟨S,as,sto,ts,t,sto',h1,h2,h3,h4,_⟩:=h
    rw [h3.length,h4]
  · obtain ⟨S,as,sto,ts,t,sto',h1,h2,h3,h4,h5,q⟩:=h
    refine ⟨_,hb cdv A outer s H E ⟨S,as,H⟩ hr,?_⟩
    have lv:vs.length=ps.length:=by rw [h3.length,h4]
    have R:Rel K ⟨S,as,H⟩ ⟨ts.map (fun t=>some (t,false))++List.replicate (N.length - ts.length) none,sto⟩ (L2.start N vs) H [] S as:=Rb h1 h2 h3 (by rw [h4]; exact hN)
    unfold iu at h5
    split at h5
    · rename_i t' s' e
      cases h5
      exact ⟨_,[],S,as,R,.ret t,s',e,fun v σ' H' S' as' R'=>q v H' S' as' R'.grow R'.sub R'.sto R'.top⟩
    · rename_i s' e
      cases h5
      exact ⟨_,[],S,as,R,.next,s',e,fun σ' H' S' as' R'=>q .non H' S' as' R'.grow R'.sub R'.sto .non⟩
    · cases h5
end
end C
end
noncomputable section
set_option linter.all false
set_option maxRecDepth 100000
set_option maxHeartbeats 4000002
set_option autoImplicit false
namespace C
open PySem PySem.Spec PyProof.Rows L2
theorem a2i {g:G} {b:S} {t:T} {r:List T} {s s':Sta} {fl:Flow} (h:Fo g b (t::r) s=some (fl,s')):∃ s1 fb s2,g t s=some s1∧b s1=some (fb,s2) ∧
    (match fb with | .next=>Fo g b r s2=some (fl,s') | .cont=>Fo g b r s2=some (fl,s') | .brk=>fl=.next∧s'=s2 | .ret v=>fl=.ret v∧s'=s2):=by
  rw [Fo] at h
  dsimp only at h
  split at h
  · rename_i s1 e1
    split at h
    · rename_i s2 e2; exact ⟨s1,.next,s2,e1,e2,h⟩
    · rename_i s2 e2; exact ⟨s1,.cont,s2,e1,e2,h⟩
    · rename_i s2 e2; cases h; exact ⟨s1,.brk,_,e1,e2,rfl,rfl⟩
    · rename_i v s2 e2; cases h; exact ⟨s1,.ret v,_,e1,e2,rfl,rfl⟩
    · cases h
  · cases h
structure La (K:PySem.W.Frag) (S:Hp) (as:List Addr) (H:Hp) (J:It) (ts:List T):Prop where
  go:∀ (i:Nat) t,ts[i]? = some t→J.go i H∧∀ x H',J.yld i H x H'→∃ S',Ext S H S' H'∧Rep K S' as x t
  stop:∀ i,ts.length≤i→J.stop i H
inductive iOf (K:PySem.W.Frag) (B:Bas) (m:M (List T)) (σ:L2.St) (H:Hp) (R:It→Hp→Prop):Prop
  | mk (st:Sta) (ps:List (V × T)) (S:Hp) (as:List Addr) (R0:Rel K B st σ H ps S as) (ts:List T) (st':Sta) (e:m st=some (ts,st')) (z:ts.length≤sizeLine) (q:∀ J H' S' as' ps',Rel K B st' σ H' (ps'++ps) S' as'→(∀ S as H,(∀ p∈ps',Rep K S as p.1 p.2)→yq S H→La K S as H J ts)→R J H')
noncomputable section
variable {X:Cx} {tg l:Expr} {tl:TE}
noncomputable def iSq (K:PySem.W.Frag) (tl:TE):TI:=fun σ H R=>tl σ H fun x H1=>∃ a,x=.ref a∧(((∃ xs,SqL K H1 a xs)∧R (Itl K a) H1)∨((∃ xs,SqT K H1 a xs)∧R (Itt K a) H1))
theorem aan (hl:PE X l tl):PI X tg l (iSq X.K tl):=by
  intro pins s σ H R I h
  refine thn (hl pins s σ H _ I h) fun v s1 z0=>?_
  obtain ⟨x,H1,I1,r1,q1⟩:=z0
  obtain ⟨a,e,q⟩:=q1
  subst e
  cases r1
  rcases q with ⟨⟨xs,hq⟩,q⟩ | ⟨⟨xs,hq⟩,q⟩
  · obtain ⟨its,rv,p,hz⟩:=I1.list hq
    refine wpAny_pyIter_list p.isList ?_
    refine ⟨s1.heap.objs.size,[s1.heap.objs.size],_,_,H1,rfl,I1.kept (t':=s1.toks) fun b o e=>Heap.get?_push_of_some _ e,Zy a _,⟨_,Heap.get?_push_size _ rfl,rfl,rfl⟩,fun b hb=>?_,q⟩
    have e:b=s1.heap.objs.size:=by simpa using hb
    subst e
    exact I1.a7z (Nat.le_refl _) (I1.hok.fresh (Nat.le_refl _))
  · obtain ⟨its,rv,p,hz⟩:=I1.tuple hq
    refine wpAny_pyIter_tuple (show s1.heap.IsTuple a its.toArray from p) ?_
    refine ⟨s1.heap.objs.size,[s1.heap.objs.size],_,_,H1,rfl,I1.kept (t':=s1.toks) fun b o e=>Heap.get?_push_of_some _ e,Xn a _,⟨_,Heap.get?_push_size _ rfl,rfl,rfl⟩,fun b hb=>?_,q⟩
    have e:b=s1.heap.objs.size:=by simpa using hb
    subst e
    exact I1.a7z (Nat.le_refl _) (I1.hok.fresh (Nat.le_refl _))
end
noncomputable section
variable {X:Cx} {B:Bas} {a b c e tg iter:Expr} {m m1 m2:M T} {pos p:Pos} {u v:S} {g:G} {it:M (List T)} {body:List Stmt}
theorem itL {K:PySem.W.Frag} {S:Hp} {as:List Addr} {H:Hp} {p:Addr} {vs:List V} {ts:List T} (sub:yq S H) (h:SqL K H p vs) (r:vh K S as vs ts):La K S as H (Itl K p) ts where
  go:=fun i t e=>by
    obtain ⟨v,hv,rv⟩:=r.get e
    exact ⟨⟨vs,v,h,hv⟩,fun x H' y=>⟨S,by rw [y.1]; exact Ext.refl sub,by have:=y.2 vs h; rw [hv] at this; cases this; exact rv⟩⟩
  stop:=fun i hi=>⟨vs,h,by rw [r.length]; exact hi⟩
theorem itT {K:PySem.W.Frag} {S:Hp} {as:List Addr} {H:Hp} {p:Addr} {vs:List V} {ts:List T} (sub:yq S H) (h:SqT K H p vs) (r:vh K S as vs ts):La K S as H (Itt K p) ts where
  go:=fun i t e=>by
    obtain ⟨v,hv,rv⟩:=r.get e
    exact ⟨⟨vs,v,h,hv⟩,fun x H' y=>⟨S,by rw [y.1]; exact Ext.refl sub,by have:=y.2 vs h; rw [hv] at this; cases this; exact rv⟩⟩
  stop:=fun i hi=>⟨vs,h,by rw [r.length]; exact hi⟩
theorem yc:lim≤sizeLine:=by rw [sizeLine_eq]; decide
theorem zf (h:PE X iter (tOf X.K B m)):PI X tg iter (iOf X.K B (jm m)):=by
  intro pins s σ H R I hw
  refine aan h pins s σ H R I ?_
  obtain ⟨st,ps,S,as,Rl,ts,st',e,hz,q⟩:=hw
  unfold jm at e
  split at e
  · rename_i xs s1 e1
    split at e
    · rename_i hl
      cases e
      refine ⟨st,ps,S,as,Rl,_,_,e1,fun v H1 S1 as1 R1=>?_⟩
      have top:=R1.top
      cases top with
      | @lst a vs _ hs hr =>
        refine ⟨a,rfl,.inl ⟨⟨vs,ou R1.sub hs⟩,q _ H1 S1 as1 [(.ref a,.lst _)] R1 fun S2 as2 H2 hp hh=>?_⟩⟩
        have:=hp _ List.mem_cons_self
        cases this with
        | @lst _ vs2 _ hs2 hr2=>exact itL hh (ou hh hs2) hr2
    · cases e
  · rename_i xs s1 e1
    split at e
    · rename_i hl
      cases e
      refine ⟨st,ps,S,as,Rl,_,_,e1,fun v H1 S1 as1 R1=>?_⟩
      have top:=R1.top
      cases top with
      | @tup a vs _ hs hr =>
        refine ⟨a,rfl,.inr ⟨⟨vs,uy R1.sub hs⟩,q _ H1 S1 as1 [(.ref a,.tup _)] R1 fun S2 as2 H2 hp hh=>?_⟩⟩
        have:=hp _ List.mem_cons_self
        cases this with
        | @tup _ vs2 _ hs2 hr2=>exact itT hh (uy hh hs2) hr2
    · cases e
  · cases e
theorem Nt {a:M T} {ts:List T} {s s':Sta} (h:fj a s=some (ts,s')):∃ n:Int,a s=some (.int n,s')∧(-1000000<n∧n<1000000)∧ts=El n.toNat:=by
  unfold fj at h
  split at h
  · rename_i n s1 e
    split at h
    · rename_i hl; cases h; exact ⟨n,e,by have:n.natAbs<1000000:=hl; omega,rfl⟩
    · cases h
  · cases h
theorem Wu {n i:Nat} {t:T} (h:(El n)[i]? = some t):i<n∧t=.int (i:Int):=by
  unfold El at h
  rw [List.getElem?_map] at h
  cases z:(List.range n)[i]? with
  | none=>rw [z] at h; cases h
  | some k =>
    rw [z] at h; cases h
    obtain ⟨hi,e⟩:=List.getElem?_eq_some_iff.mp z
    rw [List.getElem_range] at e; subst e
    rw [List.length_range] at hi
    exact ⟨hi,rfl⟩
theorem Ka (hg:Gl X "range") (hm:X.mg "range" = none) (h:PE X a (tOf X.K B m)) (hs:starEach [a] X.env=[(false,eval a X.env)]:=by rfl):PI X tg (.Call (.Name "range" p) [a] [] pos) (iOf X.K B (fj m)):=by
  intro pins s σ H R I hw
  refine a1d (ta:=Ws (tOf X.K B m) a7y) hg hm (vp h Bd hs) hs pins s σ H R I ?_
  obtain ⟨st,ps,S,as,Rl,ts,st',e,hz,q⟩:=hw
  obtain ⟨n,e1,hl,rfl⟩:=Nt e
  refine ⟨st,ps,S,as,Rl,_,_,e1,fun v H1 S1 as1 R1=>?_⟩
  cases R1.top
  refine ⟨n,rfl,by omega,by omega,q _ H1 S1 as1 [] R1.drop fun S2 as2 H2 _ hh=>⟨fun i t e=>?_,fun i hi=>?_⟩⟩
  · obtain ⟨hi,rfl⟩:=Wu e
    refine ⟨hi,fun x H' y=>⟨S2,by rw [y.1]; exact Ext.refl hh,?_⟩⟩
    have:=y.2; subst this
    rw [Int.zero_add]; exact .int _
  · show n.toNat≤i
    unfold El at hi
    rwa [List.length_map,List.length_range] at hi
theorem Er (hp:PassesOwn (model X.prog X.w) X.A X.env X.xe) (hc:X.calm=true) (hi:PI X tg iter (iOf X.K B it)) (hg:PG X tg (gOf X.K B g)) (hb:PSs X body (sOf X.K B u)) (hsz:∀ st ts st',it st=some (ts,st')→ts.length≤sizeLine)
    (hs:∀ x,foldedSetIterable iter X.env x=pure x:=by intro _; rfl):PS X (.For tg iter body [] pos) (sOf X.K B (jt g it u)):=(a94 hp hc hi hg hb hs).imp fun D σ H z9=>by
  obtain ⟨st,ps,S,as,R,fl,st',e,q⟩:=z9
  obtain ⟨ts,s1,e1,e2⟩:=a2z e
  refine ⟨st,ps,S,as,R,ts,s1,e1,hsz _ _ _ e1,fun J H1 S1 as1 ps' R1 facts=>?_⟩
  refine ⟨fun i m σ H=>m=ts.length - i∧i≤ts.length∧∃ sti Si asi,Rel X.K B sti σ H (ps'++ps) Si asi∧Fo g u (ts.drop i) sti=some (fl,st'),⟨ts.length,by simp,Nat.zero_le _,s1,S1,as1,R1,by simpa using e2⟩,?_⟩
  rintro i m σ2 H2 ⟨rfl,hi,sti,Si,asi,Ri,ei⟩
  have F:=facts Si asi H2 (fun p hp=>Ri.pend p (List.mem_append_left _ hp)) Ri.sub
  have sub:∀ p∈ps,p∈ps'++ps:=fun p hp=>List.mem_append_right _ hp
  by_cases hlt:i<ts.length
  · rw [List.drop_eq_getElem_cons hlt] at ei
    obtain ⟨s2,fb,s3,eg,eb,er⟩:=a2i ei
    have ht:ts[i]? = some ts[i]:=List.getElem?_eq_getElem hlt
    refine .inr ⟨(F.go i _ ht).1,fun σ' H'=>∃ sti Si asi,Rel X.K B sti σ' H' (ps'++ps) Si asi∧Fo g u (ts.drop (i+1)) sti=some (fl,st'),fun σ' H' h=>⟨ts.length - (i+1),by omega,rfl,hlt,h⟩,fun x H' y=>?_⟩
    obtain ⟨S',ex,rx⟩:=(F.go i _ ht).2 x H' y
    refine ⟨sti,ps'++ps,S',asi,_,(Ri.ext ex).push rx,s2,eg,fun σ3 H3 S3 as3 R3=>⟨s2,ps'++ps,S3,as3,R3,fb,s3,eb,?_⟩⟩
    cases fb with
    | next=>exact fun σ' H' S' as' R'=>⟨s3,S',as',R',er⟩
    | cont=>exact fun σ' H' S' as' R'=>⟨s3,S',as',R',er⟩
    | brk =>
      obtain ⟨rfl,rfl⟩:=er
      exact fun σ' H' S' as' R'=>q σ' H' S' as' (R'.pick sub)
    | ret v =>
      obtain ⟨rfl,rfl⟩:=er
      exact fun v σ' H' S' as' R'=>q v σ' H' S' as' (R'.pick fun p hp=>by
        rcases List.mem_cons.mp hp with rfl | z
        · exact List.mem_cons_self
        · exact List.mem_cons_of_mem _ (sub p z))
  · have hie:i=ts.length:=by omega
    subst hie
    rw [List.drop_length] at ei
    cases ei
    exact .inl ⟨F.stop _ (Nat.le_refl _),q σ2 H2 Si asi (Ri.pick sub)⟩
end
end C
end
noncomputable section
set_option linter.all false
set_option maxRecDepth 100000
set_option maxHeartbeats 4000002
set_option autoImplicit false
namespace C
open PySem PySem.Spec PyProof.Rows L2
noncomputable section
variable {K:PySem.W.Frag} {B:Bas} {st:Sta} {σ:L2.St} {H H' S S':Hp} {ps ps2:List (V × T)} {as as':List Addr}
theorem Rel.U5 (r:Rel K B st σ H ps S as) {i:Nat} {t:T} (e:st.env[i]? = some (some (t,true))):∃ S',Rel K B { st with env:=st.env.set i (some (t,false)) } σ H ps S' as:=by
  obtain ⟨v,S',_,R⟩:=r.freeze e
  exact ⟨S',R.drop⟩
theorem Rel.au:∀ (cap:List Nat) {st:Sta} {S:Hp},Rel K B st σ H ps S as→∃ S',Rel K B { st with env:=au cap st.env } σ H ps S' as
  | [],st,S,r=>⟨S,r⟩
  | i::l,st,S,r=>by
    unfold C.au
    rw [List.foldl_cons]
    split
    · rename_i t f e
      cases f with
      | true =>
        obtain ⟨S1,R1⟩:=r.U5 e
        exact Rel.au l R1
      | false =>
        have e2:st.env.set i (some (t,false))=st.env:=by
          apply List.ext_getElem?
          intro j
          by_cases hij:i=j
          · subst hij
            rw [List.getElem?_set_self (List.getElem?_eq_some_iff.mp e).1,e]
          · rw [List.getElem?_set_ne hij]
        rw [e2]
        exact Rel.au l r
    · exact Rel.au l r
noncomputable def Gh (env:List Slot):Nat→List Slot
  | 0=>env
  | n+1=>match (Gh env n)[n]? with
    | some (some (t,_))=>(Gh env n).set n (some (t,false))
    | _=>Gh env n
theorem Lj (env:List Slot):∀ n,(Gh env n).length=env.length
  | 0=>rfl
  | n+1=>by
    rw [Gh]
    split
    · rw [List.length_set]; exact Lj env n
    · exact Lj env n
theorem Kh (env:List Slot):∀ (n j:Nat),(Gh env n)[j]? = if j<n then (env[j]?).map kh else env[j]?
  | 0,j=>by rw [if_neg (Nat.not_lt_zero _)]; rfl
  | n+1,j=>by
    have ihn:=Kh env n n
    rw [if_neg (Nat.lt_irrefl _)] at ihn
    have ihj:=Kh env n j
    rw [Gh,ihn]
    by_cases hj:j=n
    · subst hj
      rw [if_pos (Nat.lt_succ_self _)]
      cases z:env[j]? with
      | none=>simp only [z,Option.map_none]; rw [ihn,z]
      | some s =>
        have hl:j<(Gh env j).length:=by rw [Lj]; exact (List.getElem?_eq_some_iff.mp z).1
        cases s with
        | none=>simp only [Option.map_some]; rw [ihn,z]; rfl
        | some p=>obtain ⟨t,f⟩:=p; simp only [Option.map_some]; rw [List.getElem?_set_self hl]; rfl
    · have e1:(if j<n+1 then (env[j]?).map kh else env[j]?)=(if j<n then (env[j]?).map kh else env[j]?):=by
        by_cases hlt:j<n
        · rw [if_pos hlt,if_pos (Nat.lt_succ_of_lt hlt)]
        · rw [if_neg hlt,if_neg (by omega)]
      rw [e1,← ihj]
      split
      · rw [List.getElem?_set_ne (Ne.symm hj)]
      · rfl
theorem Yu (env:List Slot):Gh env env.length=env.map kh:=by
  apply List.ext_getElem?
  intro j
  rw [Kh,List.getElem?_map]
  by_cases hj:j<env.length
  · rw [if_pos hj]
  · rw [if_neg hj,List.getElem?_eq_none (Nat.le_of_not_lt hj)]; rfl
theorem Rel.Gh (r:Rel K B st σ H ps S as):∀ n,∃ S',Rel K B { st with env:=C.Gh st.env n } σ H ps S' as
  | 0=>⟨S,r⟩
  | n+1=>by
    obtain ⟨S1,R1⟩:=Rel.Gh r n
    rw [C.Gh]
    split
    · rename_i t f e
      cases f with
      | true=>exact R1.U5 e
      | false =>
        have e2:(C.Gh st.env n).set n (some (t,false))=C.Gh st.env n:=by
          apply List.ext_getElem?
          intro j
          by_cases hij:n=j
          · subst hij
            rw [List.getElem?_set_self (List.getElem?_eq_some_iff.mp e).1,e]
          · rw [List.getElem?_set_ne hij]
        rw [e2]
        exact ⟨S1,R1⟩
    · exact ⟨S1,R1⟩
theorem Rel.ur (r:Rel K B st σ H ps S as):∃ S',Rel K B (ur st) σ H ps S' as:=by
  obtain ⟨S',R⟩:=r.Gh st.env.length
  rw [Yu] at R
  exact ⟨S',R⟩
noncomputable def a4x (st:Sta):Prop:=∀ (i:Nat) t,st.env[i]?≠some (some (t,true))
theorem Ek (st:Sta):a4x (C.ur st):=fun i t e=>by
  unfold C.ur at e
  rw [List.getElem?_map] at e
  cases z:st.env[i]? with
  | none=>rw [z] at e; cases e
  | some s =>
    rw [z] at e
    cases s with
    | none=>cases e
    | some p=>obtain ⟨t,f⟩:=p; cases e
theorem Rel.rebase (r:Rel K B st σ H ps S as) (n:a4x st):Rel K ⟨S,as,H⟩ st σ H ps S as :=
  ⟨r.sub,⟨yq.refl _,nol,fun p o a b c=>⟨a,b,c⟩⟩,fun i t f e=>by
    obtain ⟨v,h1,h2,_⟩:=r.slots i t f e
    exact ⟨v,h1,h2,fun z=>by subst z; exact absurd e (n i t)⟩,r.apart,r.sto,r.pend,r.len⟩
end
theorem Yx {g:G} {c:M Bool} {e:M T} {t:T} {r acc us:List T} {s s':Sta} (h:Ew g c e (t::r) s acc=some (us,s')):∃ s1 b s2,g t s=some s1∧c s1=some (b,s2) ∧
    ((b=true∧∃ u s3,e s2=some (u,s3)∧acc.length<lim∧Ew g c e r (ur s3) (acc++[u])=some (us,s'))∨(b=false∧Ew g c e r (ur s2) acc=some (us,s'))):=by
  rw [Ew] at h
  split at h
  · rename_i s1 e1
    split at h
    · rename_i s2 e2
      split at h
      · rename_i u s3 e3
        split at h
        · rename_i hl; exact ⟨s1,true,s2,e1,e2,.inl ⟨rfl,u,s3,e3,hl,h⟩⟩
        · cases h
      · cases h
    · rename_i s2 e2; exact ⟨s1,false,s2,e1,e2,.inr ⟨rfl,h⟩⟩
    · cases h
  · cases h
theorem Qg {nv:Nat} {cap:List Nat} {g:G} {it:M (List T)} {c:M Bool} {e:M T} {s s':Sta} {v:T} (h:zj nv cap g it c e s=some (v,s')):∃ ts s1 us s2,it s=some (ts,s1) ∧
    Ew g c e ts ⟨List.replicate nv none++cap.map (fun i=>((au cap s1.env)[i]?).getD none),s1.sto⟩ []=some (us,s2)∧v=.lst us∧s'=⟨au cap s1.env,s2.sto⟩:=by
  unfold zj at h
  split at h
  · rename_i ts s1 e1
    dsimp only at h
    split at h
    · rename_i us s2 e2; cases h; exact ⟨ts,s1,us,s2,e1,e2,rfl,rfl⟩
    · cases h
  · cases h
noncomputable section
variable {K:PySem.W.Frag} {B:Bas} {st:Sta} {σ:L2.St} {H H' S S':Hp} {ps ps2:List (V × T)} {as as':List Addr} {D:Addr} {ob:HO}
theorem Js.mem {sto:List SO} (r:Js K S as H sto) {a:Addr} (h:a∈as):∃ o,H a=some o:=by
  obtain ⟨n,hn⟩:=List.getElem?_of_mem h
  have hl:=(List.getElem?_eq_some_iff.mp hn).1
  rw [r.len] at hl
  obtain ⟨a',h1,h2,h3⟩:=r.at' n _ (List.getElem?_eq_getElem hl)
  rw [hn] at h1; cases h1
  exact h3.there
theorem Rel.fresh (r:Rel K B st σ H ps S as) (h:H D=none):B.H D=none∧S D=none∧D∉as∧Kg st σ D:=by
  have sD:S D=none:=r.sub.free h
  have nD:D∉as:=fun z=>by obtain ⟨o,e⟩:=r.sto.mem z; rw [h] at e; cases e
  refine ⟨?_,sD,nD,fun j u e1 e2=>?_⟩
  · cases q:B.H D with
    | none=>rfl
    | some o =>
      have b1:B.S D=none:=by
        cases z:B.S D with
        | none=>rfl
        | some u=>have:=r.grow.same _ _ z; rw [sD] at this; cases this
      have b2:D∉B.as:=fun z=>by obtain ⟨l,e⟩:=r.grow.more; exact nD (by rw [e]; exact List.mem_append_left _ z)
      have:=(r.grow.keep D o q b1 b2).1
      rw [h] at this; cases this
  · obtain ⟨v,h1,_,h3⟩:=r.slots j u true e1
    rw [e2] at h1; cases h1
    obtain ⟨p,ep,o⟩:=h3 rfl
    cases ep
    obtain ⟨ob,ho⟩:=o.own.there
    rw [h] at ho; cases ho
theorem Rel.aa0 (r:Rel K B st σ H ps S as) (bD:B.H D=none) (sD:S D=none) (nD:D∉as) (no:Kg st σ D):Rel K B st σ (upd H D ob) ps S as:=by
  have ne:∀ b u,S b=some u→b≠D:=fun b u e z=>by subst z; rw [sD] at e; cases e
  refine ⟨fun b u e=>by rw [ji (ne b u e)]; exact r.sub _ _ e,⟨r.grow.same,r.grow.more,fun p o x y z=>?_⟩,fun i t f e=>?_,r.apart,⟨r.sto.len,r.sto.nd,fun n so e=>?_⟩,r.pend,r.len⟩
  · obtain ⟨a,b,c⟩:=r.grow.keep p o x y z
    exact ⟨by rw [ji (fun w=>by subst w; rw [bD] at x; cases x)]; exact a,b,c⟩
  · obtain ⟨v,h1,h2,h3⟩:=r.slots i t f e
    refine ⟨v,h1,h2,fun z=>?_⟩
    obtain ⟨p,rfl,o⟩:=h3 z
    have n:p≠D:=fun w=>by subst w; subst z; exact no i t e h1
    exact ⟨p,rfl,o.own.mono (yq.refl _) (ji n).symm,o.out,o.nas,o.new⟩
  · obtain ⟨a,h1,h2,h3⟩:=r.sto.at' n so e
    exact ⟨a,h1,h2,h3.mono (yq.refl _) (ji (fun w=>by subst w; exact nD (List.mem_of_getElem? h1))).symm⟩
theorem Rel.a9n (r:Rel K B st σ H ps S as) (no:a4x st) (sD:S D=none) (nD:D∉as):Rel K ⟨S,as,upd H D ob⟩ st σ (upd H D ob) ps S as:=by
  have ne:∀ b u,S b=some u→b≠D:=fun b u e z=>by subst z; rw [sD] at e; cases e
  refine ⟨fun b u e=>by rw [ji (ne b u e)]; exact r.sub _ _ e,⟨yq.refl _,nol,fun p o x y z=>⟨x,y,z⟩⟩,fun i t f e=>?_,r.apart,⟨r.sto.len,r.sto.nd,fun n so e=>?_⟩,r.pend,r.len⟩
  · obtain ⟨v,h1,h2,_⟩:=r.slots i t f e
    exact ⟨v,h1,h2,fun z=>by subst z; exact absurd e (no i t)⟩
  · obtain ⟨a,h1,h2,h3⟩:=r.sto.at' n so e
    exact ⟨a,h1,h2,h3.mono (yq.refl _) (ji (fun w=>by subst w; exact nD (List.mem_of_getElem? h1))).symm⟩
end
theorem Ht:∀ (cap:List Nat) (env:List Slot) (k:Nat),(∀ t,env[k]?≠some (some (t,true)))→∀ t,(au cap env)[k]?≠some (some (t,true))
  | [],env,k,h=>h
  | i::l,env,k,h=>by
    have e:au (i::l) env=au l (match env[i]? with | some (some (t,_))=>env.set i (some (t,false)) | _=>env):=rfl
    rw [e]
    refine Ht l _ k fun t=>?_
    split
    · rename_i t' f e'
      by_cases hk:i=k
      · subst hk
        rw [List.getElem?_set_self (List.getElem?_eq_some_iff.mp e').1]
        intro z; cases z
      · rw [List.getElem?_set_ne hk]; exact h t
    · exact h t
theorem Hh:∀ (cap:List Nat) (env:List Slot) (k:Nat),k∈cap→∀ t,(au cap env)[k]?≠some (some (t,true))
  | [],env,k,h=>by simp at h
  | i::l,env,k,h=>by
    have e:au (i::l) env=au l (match env[i]? with | some (some (t,_))=>env.set i (some (t,false)) | _=>env):=rfl
    rw [e]
    rcases List.mem_cons.mp h with rfl | h' -- here
    · refine Ht l _ k fun t=>?_
      split
      · rename_i t' f e'
        rw [List.getElem?_set_self (List.getElem?_eq_some_iff.mp e').1]
        intro z; cases z
      · rename_i hx
        intro z
        exact hx _ _ z
    · exact Hh l _ k h'
noncomputable def gE (K:PySem.W.Frag) (g:G):TG:=fun v σ H Q=>∃ B,gOf K B g v σ H Q
noncomputable def cE (K:PySem.W.Frag) (c:M Bool):TT:=fun σ H Q=>∃ B,cOf K B c σ H Q
noncomputable def eE (K:PySem.W.Frag) (e:M T):TE:=fun σ H Q=>∃ B,tOf K B e σ H Q
theorem pgE {X:Cx} {tg:Expr} {g:G} (h:∀ B,PG X tg (gOf X.K B g)):PG X tg (gE X.K g):=fun pins s σ H x u Q I r ⟨B,q⟩=>h B pins s σ H x u Q I r q
theorem ptE {X:Cx} {e:Expr} {c:M Bool} (h:∀ B,PT X e (cOf X.K B c)):PT X e (cE X.K c):=fun pins s σ H Q I ⟨B,q⟩=>h B pins s σ H Q I q
theorem peE {X:Cx} {e:Expr} {m:M T} (h:∀ B,PE X e (tOf X.K B m)):PE X e (eE X.K m):=fun pins s σ H Q I ⟨B,q⟩=>h B pins s σ H Q I q
theorem vf {X:Cx}:PTs X [] (cE X.K iw):=fun pins s σ H Q I z9=>by
  obtain ⟨B,st,ps,S,as,R,b,st',e,q⟩:=z9
  cases e
  exact a6r pins s σ H Q I (q H S as R)
theorem a2s {X:Cx} {e:Expr} {c:M Bool} (h:∀ B,PT X e (cOf X.K B c)):PTs X [e] (cE X.K c):=a68 (ptE h)
noncomputable section
variable {X:Cx} {scope:Scope} {N:List Str}
theorem Q7 {B:Bas} {nv:Nat} {cap:List Nat} {g:G} {c:M Bool} {e:M T} {ts us:List T} {env:List Slot} {sto1:List SO} {s2:Sta} {σ:L2.St} {H1 S1:Hp} {as1:List Addr} {ps ps':List (V × T)} {J:It} {Q:VK}
    (hN:N.length=nv+cap.length) (hv:∀ i x,i<nv→N[i]? = some x→True)
    (hcap:∀ (j k:Nat),cap[j]? = some k→∃ x,N[nv+j]? = some x∧X.N[k]? = some x∧aa8 X scope x)
    (R1:Rel X.K B ⟨env,sto1⟩ σ H1 (ps'++ps) S1 as1) (hno:∀ k∈cap,∀ t,env[k]?≠some (some (t,true)))
    (facts:∀ S as H,yq B.S S→(∃ l,as=B.as++l)→(∀ p∈ps',Rep X.K S as p.1 p.2)→yq S H→La X.K S as H J ts)
    (hc:Ew g c e ts ⟨List.replicate nv none++cap.map (fun i=>(env[i]?).getD none),sto1⟩ []=some (us,s2))
    (fin:∀ D H' S' as',Rel X.K B ⟨env,s2.sto⟩ σ H' (ps'++ps) S' as'→Lb X.K B S' as' H' D (.lst us)→Kg ⟨env,s2.sto⟩ σ D→Q (.ref D) H') :
    S8 X scope N (gE X.K g) (cE X.K c) (eE X.K e) σ J H1 Q:=by
  intro D hD
  obtain ⟨bD,sD1,nD1,noD⟩:=R1.fresh hD
  have capg:∀ (i:Nat) s,(List.replicate nv (none:Slot)++cap.map (fun i=>(env[i]?).getD none))[i]? = some (some s)→∃ j k,i=nv+j∧cap[j]? = some k∧env[k]? = some (some s):=fun i s h=>by
    by_cases hi:i<nv
    · rw [List.getElem?_append_left (by rw [List.length_replicate]; exact hi)] at h
      have:=List.eq_of_mem_replicate (List.mem_of_getElem? h); cases this
    · rw [List.getElem?_append_right (by rw [List.length_replicate]; exact Nat.le_of_not_lt hi),List.length_replicate,List.getElem?_map] at h
      cases z:cap[i - nv]? with
      | none=>rw [z] at h; cases h
      | some k =>
        rw [z] at h
        refine ⟨i - nv,k,by omega,z,?_⟩
        cases w:env[k]? with
        | none=>simp [w] at h
        | some s'=>simp [w] at h; rw [h]
  have sig:∀ (j k:Nat) v,cap[j]? = some k→σ[k]? = some (some v)→(List.replicate nv (none:Option V)++cap.map (fun i=>(σ[i]?).getD none))[nv+j]? = some (some v):=fun j k v h1 h2=>by
    rw [List.getElem?_append_right (by rw [List.length_replicate]; omega),List.length_replicate,Nat.add_sub_cancel_left,List.getElem?_map,h1]
    simp [h2]
  refine ⟨List.replicate nv none++cap.map (fun i=>(σ[i]?).getD none),by rw [List.length_append,List.length_replicate,List.length_map,hN],fun i v x h1 h2 _=>?_,?_⟩
  · by_cases hi:i<nv
    · rw [List.getElem?_append_left (by rw [List.length_replicate]; exact hi)] at h1
      have:=List.eq_of_mem_replicate (List.mem_of_getElem? h1); cases this
    · rw [List.getElem?_append_right (by rw [List.length_replicate]; exact Nat.le_of_not_lt hi),List.length_replicate,List.getElem?_map] at h1
      cases z:cap[i - nv]? with
      | none=>rw [z] at h1; cases h1
      | some k =>
        rw [z] at h1
        obtain ⟨y,n1,n2,ck⟩:=hcap _ _ z
        have e:nv+(i - nv)=i:=by omega
        rw [e,h2] at n1; cases n1
        refine ⟨k,n2,?_,ck⟩
        cases w:σ[k]? with
        | none=>simp [w] at h1
        | some s'=>simp [w] at h1; rw [h1]
  refine ⟨fun i m σ' H'=>m=ts.length - i∧i≤ts.length∧∃ sti Si asi acc accv,Rel X.K ⟨Si,asi,H'⟩ sti σ' H' [] Si asi∧a4x sti∧Rel X.K B ⟨env,sti.sto⟩ σ H' (ps'++ps) Si asi∧H' D=some (.lst accv)∧Si D=none∧D∉asi ∧
    vh X.K Si asi accv acc∧Ew g c e (ts.drop i) sti acc=some (us,s2),⟨ts.length,by simp,Nat.zero_le _,_,S1,as1,[],[],?_,?_,?_,jh,sD1,nD1,.nil,hc⟩,?_⟩
  · refine Rel.a9n (B:=B) (H:=H1) ⟨R1.sub,R1.grow,fun i t f h=>?_,fun i j t u p hi hj=>?_,R1.sto,(fun p hp=>by cases hp),?_⟩ (fun i t h=>?_) sD1 nD1
    · obtain ⟨j,k,rfl,hk,ek⟩:=capg i _ h
      obtain ⟨v,h1,h2,h3⟩:=R1.slots k t f ek
      exact ⟨v,sig j k v hk h1,h2,h3⟩
    · obtain ⟨j,k,rfl,hk,ek⟩:=capg i _ hi
      exact absurd ek (hno k (List.mem_of_getElem? hk) t)
    · show (List.replicate nv (none:Option V)++cap.map _).length=(List.replicate nv (none:Slot)++cap.map _).length
      rw [List.length_append,List.length_append,List.length_replicate,List.length_replicate,List.length_map,List.length_map]
    · obtain ⟨j,k,rfl,hk,ek⟩:=capg i _ h
      exact absurd ek (hno k (List.mem_of_getElem? hk) t)
  · intro i t h
    obtain ⟨j,k,rfl,hk,ek⟩:=capg i _ h
    exact absurd ek (hno k (List.mem_of_getElem? hk) t)
  · exact R1.aa0 bD sD1 nD1 noD
  rintro i m σ' H' ⟨rfl,hi,sti,Si,asi,acc,accv,Ri,no,Ro,hD',sD,nD,rA,ei⟩
  have F:=facts Si asi H' Ro.grow.same Ro.grow.more (fun p hp=>Ro.pend p (List.mem_append_left _ hp)) Ri.sub
  by_cases hlt:i<ts.length
  · rw [List.drop_eq_getElem_cons hlt] at ei
    obtain ⟨s3,b,s4,eg,ec,er⟩:=Yx ei
    have ht:ts[i]? = some ts[i]:=List.getElem?_eq_getElem hlt
    refine .inr ⟨(F.go i _ ht).1,fun x H2 y=>?_⟩
    obtain ⟨S2,ex,rx⟩:=(F.go i _ ht).2 x H2 y
    refine ⟨⟨Si,asi,H'⟩,sti,[],S2,asi,_,(Ri.ext ex).push rx,s3,eg,fun σ3 H3 S3 as3 R3=>⟨⟨Si,asi,H'⟩,s3,[],S3,as3,R3,b,s4,ec,fun H4 S4 as4 R4=>?_⟩⟩
    rcases er with ⟨rfl,w,s5,ee,hlen,erest⟩ | ⟨rfl,erest⟩
    · refine a72 ⟨⟨Si,asi,H'⟩,s4,[],S4,as4,R4,w,s5,ee,fun y H5 S5 as5 R5=>?_⟩
      obtain ⟨S6,R6⟩:=R5.ur
      obtain ⟨k1,k2,k3⟩:=R6.grow.keep D _ hD' sD nD
      have Ro2:=Ro.call R6.grow R6.sub R6.sto
      refine ⟨accv,k1,?_,ts.length - (i+1),by omega,rfl,hlt,ur s5,S6,as5,acc++[w],accv++[y],R6.drop.a9n (Ek _) k2 k3,Ek _,Ro2.aa0 bD k2 k3 noD,jh,k2,k3,(rA.mono R6.grow.same R6.grow.more).append (.cons R6.top .nil),erest⟩
      rw [rA.length]; exact Nat.lt_of_lt_of_le hlen yc
    · refine a6l ?_
      obtain ⟨S6,R6⟩:=R4.ur
      obtain ⟨k1,k2,k3⟩:=R6.grow.keep D _ hD' sD nD
      have Ro2:=Ro.call R6.grow R6.sub R6.sto
      exact ⟨ts.length - (i+1),by omega,rfl,hlt,ur s4,S6,as4,acc,accv,R6.rebase (Ek _),Ek _,Ro2,k1,k2,k3,rA.mono R6.grow.same R6.grow.more,erest⟩
  · have hie:i=ts.length:=by omega
    subst hie
    rw [List.drop_length] at ei
    cases ei
    exact .inl ⟨F.stop _ (Nat.le_refl _),fin D H' Si asi Ro ⟨⟨accv,hD',rA⟩,sD,nD,bD⟩ noD⟩
theorem Rel.give {K:PySem.W.Frag} {B:Bas} {st:Sta} {σ:L2.St} {H S:Hp} {ps:List (V × T)} {as:List Addr} {p:Addr} {t:T} (r:Rel K B st σ H ps S as) (o:Lb K B S as H p t) (no:Kg st σ p):∃ S',Rel K B st σ H ((.ref p,t)::ps) S' as:=by
  obtain ⟨ob,ho⟩:=o.own.there
  have sS:yq S (upd S p ob):=yq.upd o.out ob
  have rep:Rep K (upd S p ob) as (.ref p) t:=by
    have w:=o.own
    cases t with
    | lst ts=>obtain ⟨vs,h,q⟩:=w; rw [ho] at h; cases h; exact .lst (SqL.of jh) (q.mono sS nol)
    | dic ts=>obtain ⟨vs,h,q⟩:=w; rw [ho] at h; cases h; exact .dic (.inl jh) (q.mono sS nol)
    | _=>exact w.elim
  have outs:∀ q,S q=none→q≠p→upd S p ob q=none:=fun q h n=>by rw [ji n]; exact h
  refine ⟨upd S p ob,Rel.push (v:=.ref p) (t:=t) ⟨?_,?_,?_,r.apart,?_,fun q hq=>(r.pend q hq).mono sS nol,r.len⟩ rep⟩
  · intro b u q
    by_cases z:b=p
    · subst z; rw [jh] at q; cases q; exact ho
    · rw [ji z] at q; exact r.sub _ _ q
  · refine ⟨r.grow.same.trans sS,r.grow.more,fun q w a b c=>?_⟩
    obtain ⟨x,y,z⟩:=r.grow.keep q w a b c
    refine ⟨x,outs q y fun n=>?_,z⟩
    subst n; rw [o.new] at a; cases a
  · intro j u f ej
    obtain ⟨v',a1,a2,a3⟩:=r.slots j u f ej
    refine ⟨v',a1,fun z=>(a2 z).mono sS nol,fun z=>?_⟩
    subst z
    obtain ⟨p',rfl,o'⟩:=a3 rfl
    refine ⟨p',rfl,o'.own.mono sS rfl,outs p' o'.out fun n=>?_,o'.nas,o'.new⟩
    subst n
    exact no j u ej a1
  · refine ⟨r.sto.len,r.sto.nd,fun n so en=>?_⟩
    obtain ⟨a,a1,a2,a3⟩:=r.sto.at' n so en
    refine ⟨a,a1,outs a a2 fun z=>?_,a3.mono sS rfl⟩
    subst z
    exact o.nas (List.mem_of_getElem? a1)
theorem a5n {K:PySem.W.Frag} {B:Bas} {m:M T} {σ:L2.St} {H:Hp} {Q:VK} (h:tOf K B m σ H Q):fOf K B m σ H Q:=by
  obtain ⟨st,ps,S,as,R,t,st',e,q⟩:=h
  refine ⟨st,ps,S,as,R,t,st',e,fun p H' S' as' R' o n=>?_⟩
  obtain ⟨S2,R2⟩:=R'.give o n
  exact q _ H' S2 as' R2
theorem uh {e:Expr} {B:Bas} {m:M T} (h:PE X e (fOf X.K B m)):PE X e (tOf X.K B m):=h.imp fun σ H Q=>a5n
variable {B:Bas} {nv:Nat} {cap:List Nat} {g:G} {it:M (List T)} {c:M Bool} {e:M T} {tg iter elt:Expr} {ifs:List Expr} {pos:Pos}
structure a0s (X:Cx) (scope:Scope) (N:List Str) (nv:Nat) (cap:List Nat):Prop where
  len:N.length=nv+cap.length
  at':∀ (j k:Nat),cap[j]? = some k→∃ x,N[nv+j]? = some x∧X.N[k]? = some x∧aa8 X scope x
theorem a5f (co:a0s X scope N nv cap) (hsz:∀ st ts st',it st=some (ts,st')→ts.length≤sizeLine) {σ:L2.St} {H:Hp} {Q:VK} (h:fOf X.K B (zj nv cap g it c e) σ H Q) :
    a4w X scope N (iOf X.K B it) (gE X.K g) (cE X.K c) (eE X.K e) σ H Q:=by
  obtain ⟨st,ps,S,as,R,t,st',e,q⟩:=h
  obtain ⟨ts,s1,us,s2,e1,e2,rfl,rfl⟩:=Qg e
  refine ⟨st,ps,S,as,R,ts,s1,e1,hsz _ _ _ e1,fun J H1 S1 as1 ps' R1 facts=>?_⟩
  obtain ⟨S2,R2⟩:=R1.au cap
  exact Q7 co.len (fun _ _ _ _=>trivial) co.at' R2 (fun k hk=>Hh cap s1.env k hk) (fun S as H _ _=>facts S as H) e2 fun D H' S' as' R' o n=>q D H' S' as' (R'.pick fun p hp=>List.mem_append_right _ hp) o n
theorem Ah (co:a0s X scope N nv cap) (sc:Jk X scope N) (calm:X.calm=true) (hi:PI X tg iter (iOf X.K B it)) (hsz:∀ st ts st',it st=some (ts,st')→ts.length≤sizeLine)
    (hg:∀ C s₀ H₀ ex pn,PG (za X scope N C s₀ H₀ ex pn) tg (gE X.K g)) (hc:∀ C s₀ H₀ ex pn,PTs (za X scope N C s₀ H₀ ex pn) ifs (cE X.K c)) (he:∀ C s₀ H₀ ex pn,PE (za X scope N C s₀ H₀ ex pn) elt (eE X.K e))
    (hs:∀ x,foldedSetIterable iter X.env x=pure x:=by intro _; rfl):PE X (.ListComp elt [⟨tg,iter,ifs,0⟩] scope pos) (fOf X.K B (zj nv cap g it c e)) :=
  (Zq sc calm hi hg hc he hs).imp fun σ H Q h=>a5f co hsz h
end
end C
end
noncomputable section
set_option linter.all false
set_option maxRecDepth 100000
set_option maxHeartbeats 4000002
set_option autoImplicit false
namespace C
open PySem PySem.Spec PyProof.Rows L2
noncomputable section
variable {X:Cx}
theorem Ui {f:Value→Value→Sem Value} {g:T→T→Option T} {r:R2} (h:OpR X f r)
    (k:∀ S as x y t u w,Rep X.K S as x t→Rep X.K S as y u→g t u=some w→∀ (H:Hp) (Q:VK),yq S H→(∀ v H' S',Ext S H S' H'→Rep X.K S' as v w→Q v H')→r x y H Q):OpT X f g:=by
  intro pins s σ H x y v u Q I rx ry z8
  obtain ⟨S,as,t,w,z,sub,ht,hu,hf,q⟩:=z8
  exact h pins s σ H x y v u Q I rx ry (k S as x y t w z ht hu hf H Q sub q)
theorem Ey {K:PySem.W.Frag} {S:Hp} {as:List Addr} {x y:V} {t u w:T} {g:T→T→Option T} {P:Prop} (ht:Rep K S as x t) (hu:Rep K S as y u) (hf:g t u=some w)
    (n1:∀ t u,(∀ i,t≠.int i)→g t u=none) (n2:∀ i u,(∀ j,u≠.int j)→g (.int i) u=none) (k:∀ i j,x=.int i→y=.int j→g (.int i) (.int j)=some w→P):P:=by
  by_cases h1:∃ i,t=.int i
  · obtain ⟨i,rfl⟩:=h1
    by_cases h2:∃ j,u=.int j
    · obtain ⟨j,rfl⟩:=h2
      cases ht; cases hu
      exact k i j rfl rfl hf
    · rw [n2 i u fun j e=>h2 ⟨j,e⟩] at hf; cases hf
  · rw [n1 t u fun i e=>h1 ⟨i,e⟩] at hf; cases hf
theorem Br:OpT X (binaryOp .Sub) ju:=Ui a8a fun S as x y t u w ht hu hf H Q sub q =>
  Ey (g:=ju) ht hu hf (fun t u h=>by cases t <;> first | rfl | exact absurd rfl (h _)) (fun i u h=>by cases u <;> first | rfl | exact absurd rfl (h _)) fun i j ex ey hf=>by
  subst ex ey; cases hf
  exact ⟨_,_,rfl,rfl,q _ H S (Ext.refl sub) (.int _)⟩
theorem Cd:OpT X (binaryOp .Mod) kj:=Ui a8e fun S as x y t u w ht hu hf H Q sub q =>
  Ey (g:=kj) ht hu hf (fun t u h=>by cases t <;> first | rfl | exact absurd rfl (h _)) (fun i u h=>by cases u <;> first | rfl | exact absurd rfl (h _)) fun i j ex ey hf=>by
  subst ex ey
  simp only [kj] at hf
  split at hf
  · cases hf; exact ⟨_,_,rfl,rfl,by assumption,q _ H S (Ext.refl sub) (.int _)⟩
  · cases hf
noncomputable def aai (i j:Int):Prop:=0<j∧(j<1073741824∨j.natAbs<fdl)
theorem a4h:OpR X (binaryOp .FloorDiv) (rI aai fun i j=>.int (i / j)):=opI fun i j _ _ _ _ _ hc q=>by
  have h1:(0:Int)<j:=hc.1
  have h2:j.natAbs<2 ^ 200:=by
    rcases hc.2 with h | h
    · exact Nat.lt_trans (show j.natAbs<1073741824 by omega) (by decide)
    · exact h
  exact floordiv_int (by omega) (by rw [Int.fdiv_eq_ediv_of_nonneg i (by omega)]; exact q) (.inl (PyProof.noPylong_of_log2 (Nat.lt_trans ((Nat.log2_lt (by omega)).mpr h2) (by decide))))
theorem Ge:OpT X (binaryOp .FloorDiv) j6:=Ui a4h fun S as x y t u w ht hu hf H Q sub q =>
  Ey (g:=j6) ht hu hf (fun t u h=>by cases t <;> first | rfl | exact absurd rfl (h _)) (fun i u h=>by cases u <;> first | rfl | exact absurd rfl (h _)) fun i j ex ey hf=>by
  subst ex ey
  simp only [j6] at hf
  split at hf
  · rename_i hc; cases hf; exact ⟨_,_,rfl,rfl,hc,q _ H S (Ext.refl sub) (.int _)⟩
  · cases hf
theorem Oh:OpT X (binaryOp .Pow) Vn:=Ui a9m fun S as x y t u w ht hu hf H Q sub q =>
  Ey (g:=Vn) ht hu hf (fun t u h=>by cases t <;> first | rfl | exact absurd rfl (h _)) (fun i u h=>by cases u <;> first | rfl | exact absurd rfl (h _)) fun i j ex ey hf=>by
  subst ex ey
  simp only [Vn] at hf
  split at hf
  · rename_i h; cases hf; exact ⟨_,_,rfl,rfl,⟨h.1,by omega,by omega⟩,q _ H S (Ext.refl sub) (.int _)⟩
  · cases hf
theorem Qq:OpT X (compareOp .Lt) ltT:=Ui abg fun S as x y t u w ht hu hf H Q sub q =>
  Ey (g:=ltT) ht hu hf (fun t u h=>by cases t <;> first | rfl | exact absurd rfl (h _)) (fun i u h=>by cases u <;> first | rfl | exact absurd rfl (h _)) fun i j ex ey hf=>by
  subst ex ey; cases hf
  exact ⟨_,_,rfl,rfl,q _ H S (Ext.refl sub) (.bl _)⟩
theorem a89:OpT X (compareOp .LtE) leT:=Ui aag fun S as x y t u w ht hu hf H Q sub q =>
  Ey (g:=leT) ht hu hf (fun t u h=>by cases t <;> first | rfl | exact absurd rfl (h _)) (fun i u h=>by cases u <;> first | rfl | exact absurd rfl (h _)) fun i j ex ey hf=>by
  subst ex ey; cases hf
  exact ⟨_,_,rfl,rfl,q _ H S (Ext.refl sub) (.bl _)⟩
theorem a5w:OpT X (compareOp .Gt) gtT:=Ui aay fun S as x y t u w ht hu hf H Q sub q =>
  Ey (g:=gtT) ht hu hf (fun t u h=>by cases t <;> first | rfl | exact absurd rfl (h _)) (fun i u h=>by cases u <;> first | rfl | exact absurd rfl (h _)) fun i j ex ey hf=>by
  subst ex ey; cases hf
  exact ⟨_,_,rfl,rfl,q _ H S (Ext.refl sub) (.bl _)⟩
theorem a0x:UnT X (unaryOp .USub) mj:=by
  intro pins s σ H x v Q I rx z8
  obtain ⟨S,as,t,w,sub,ht,hf,q⟩:=z8
  cases ht <;> simp only [mj,reduceCtorEq] at hf
  cases hf
  exact a5l pins s σ H _ v Q I rx ⟨_,rfl,q _ H S (Ext.refl sub) (.int _)⟩
noncomputable def abl (K:PySem.W.Frag):R2:=fun x y H Q=>∃ l b xs zs,x=.ref l∧y=.ref b∧SqL K H l xs∧SqL K H b zs∧xs.length+zs.length≤sizeLine∧∀ p,H p=none→Q (.ref p) (upd H p (.lst (xs++zs)))
theorem a67:OpR X (binaryOp .Add) (abl X.K):=by
  intro pins s σ H x y v u Q I rx ry h
  obtain ⟨l,b,xs,zs,rfl,rfl,hH,hB,hz,q⟩:=h
  cases rx
  cases ry
  obtain ⟨its,r,p1,hl⟩:=I.list hH
  obtain ⟨its2,r2,p2,hl2⟩:=I.list hB
  obtain ⟨⟨cls,dd,data,sl⟩,n,ho,hc,hd0,hd⟩:=id p1
  obtain ⟨⟨cls2,dd2,data2,sl2⟩,n2,ho2,hc2,hd02,hd2⟩:=id p2
  simp only at hc hd hc2 hd2
  subst hc hd hc2 hd2
  refine concat_meets ⟨_,ho,rfl⟩ ⟨_,ho2,rfl⟩ noFill_list_add seq_list_add PySem.F.slot_list_add PySem.F.entry_list_add (PySem.F.args_list_add_2 _ _)
      (list_addW l b its.toArray its2.toArray n n2 dd dd2 sl sl2 (by rw [List.size_toArray,List.size_toArray,← r.length,← r2.length]; exact hz)) ⟨ho,ho2,?_⟩
  have ea:its.toArray++its2.toArray=(its++its2).toArray:=by simp
  rw [ea]
  exact ⟨.ref _,_,I.acj (t':=s.toks) (r.append r2) (by rw [List.length_append]; exact hz),rfl,q _ I.fresh⟩
noncomputable def a96 (K:PySem.W.Frag):R2:=fun x y H Q=>∃ a b ys,x=.ref a∧y=.ref b∧SqT K H a []∧SqT K H b ys∧Q (.ref b) H
theorem a4a:OpR X (binaryOp .Add) (a96 X.K):=by
  intro pins s σ H x y v u Q I rx ry h
  obtain ⟨a,b,ys,rfl,rfl,ha,hb,q⟩:=h
  cases rx
  cases ry
  obtain ⟨its,r1,p1,_⟩:=I.tuple ha
  obtain ⟨its2,r2,p2,_⟩:=I.tuple hb
  cases r1
  obtain ⟨⟨cls,dd,data,sl⟩,ho,hc,n,hd⟩:=id p1
  obtain ⟨⟨cls2,dd2,data2,sl2⟩,ho2,hc2,n2,hd2⟩:=id p2
  simp only at hc hd hc2 hd2
  subst hc hd hc2 hd2
  exact concat_meets ⟨_,ho,rfl⟩ ⟨_,ho2,rfl⟩ noFill_tuple_add seq_tuple_add PySem.F.slot_tuple_add PySem.F.entry_tuple_add (PySem.F.args_tuple_add_2 _ _)
      (tuple_addW0 a b _ its2.toArray n n2 dd dd2 sl sl2 (by rfl)) ⟨ho,ho2,⟨.ref b,H,I,rfl,q⟩⟩
theorem vm:OpT X (binaryOp .Add) jr:=by
  intro pins s σ H x y v u Q I rx ry z8
  obtain ⟨S,as,t,t2,w,sub,ht,hu,hf,q⟩:=z8
  cases ht <;> first | exact nomatch (show none=some w from hf) | cases hu <;> first | exact nomatch (show none=some w from hf) | simp only [jr] at hf
  · cases hf
    exact a93 pins s σ H _ _ v u Q I rx ry ⟨_,_,rfl,rfl,q _ H S (Ext.refl sub) (.int _)⟩
  · split at hf
    · rename_i hl; cases hf
      exact Wr pins s σ H _ _ v u Q I rx ry ⟨_,_,rfl,rfl,Nat.le_trans (Nat.le_of_lt hl) yc,q _ H S (Ext.refl sub) (.str _)⟩
    · cases hf
  · rename_i a vs ts hs hr b ws us hs2 hr2
    split at hf
    · rename_i hl; cases hf
      have hz:vs.length+ws.length≤sizeLine:=by rw [hr.length,hr2.length]; exact Nat.le_trans (Nat.le_of_lt hl) yc
      cases hr with
      | nil=>exact a4a pins s σ H _ _ v u Q I rx ry ⟨_,_,_,rfl,rfl,uy sub hs,uy sub hs2,q _ H S (Ext.refl sub) (.tup hs2 hr2)⟩
      | @cons v0 t0 vs0 ts0 h1 h2 =>
        refine a6m pins s σ H _ _ v u Q I rx ry ⟨_,_,_,_,rfl,rfl,uy sub hs,uy sub hs2,by simp,hz,fun z=>?_,fun z p hp=>?_⟩
        · subst z
          cases hr2
          rw [List.append_nil] at q
          exact q _ H S (Ext.refl sub) (.tup hs (.cons h1 h2))
        · have x:=Ext.laid sub hp (.tup ((v0::vs0)++ws))
          exact q _ _ _ x (.tup (SqT.of jh) (((vh.cons h1 h2).append hr2).mono x.s nol))
    · cases hf
  · rename_i a vs ts hs hr b ws us hs2 hr2
    split at hf
    · rename_i hl; cases hf
      have hz:vs.length+ws.length≤sizeLine:=by rw [hr.length,hr2.length]; exact Nat.le_trans (Nat.le_of_lt hl) yc
      refine a67 pins s σ H _ _ v u Q I rx ry ⟨_,_,_,_,rfl,rfl,ou sub hs,ou sub hs2,hz,fun p hp=>?_⟩
      have x:=Ext.laid sub hp (.lst (vs++ws))
      exact q _ _ _ x (.lst (SqL.of jh) ((hr.append hr2).mono x.s nol))
    · cases hf
theorem a7q (x:Str) (n:Int) (h:0≤n):Txt.mul x n=⟨((List.replicate n.toNat x.cps.toList).flatten).toArray⟩:=by
  have key:∀ (k:Nat) (acc:Array Nat),(List.replicate k x.cps).foldl (· ++ ·) acc=acc++((List.replicate k x.cps.toList).flatten).toArray:=by
    intro k
    induction k with
    | zero=>intro acc; simp
    | succ k ih =>
      intro acc
      rw [List.replicate_succ,List.foldl_cons,ih,List.replicate_succ,List.flatten_cons]
      apply Array.ext'
      simp
  unfold Txt.mul
  by_cases h1:n<1
  · have:n=0:=by omega
    subst this
    rw [if_pos h1]; rfl
  · rw [if_neg h1]
    by_cases h2:(n==1||x.length==0)=true
    · rw [if_pos h2]
      rw [Bool.or_eq_true] at h2
      rcases h2 with h2 | h2
      · have:n=1:=by simpa using h2
        subst this
        cases x; simp
      · have h3:x.cps.size=0:=by simpa [Str.length] using h2
        obtain ⟨c⟩:=x
        have h4:c = #[]:=Array.eq_empty_of_size_eq_zero h3
        subst h4
        congr 1
        apply Array.ext'
        simp
    · rw [if_neg h2,key]
      congr 1
      apply Array.ext'
      simp
theorem Fv:OpT X (binaryOp .Mult) Mh:=by
  intro pins s σ H x y v u Q I rx ry z8
  obtain ⟨S,as,t,t2,w,sub,ht,hu,hf,q⟩:=z8
  cases ht <;> first | exact nomatch (show none=some w from hf) | cases hu <;> first | exact nomatch (show none=some w from hf) | simp only [Mh] at hf
  · split at hf
    · rename_i hb; cases hf
      refine a88 pins s σ H _ _ v u Q I rx ry ⟨_,_,rfl,rfl,?_,q _ H S (Ext.refl sub) (.int _)⟩
      rw [Bool.or_eq_true] at hb
      rcases hb with h | h
      · exact .inl (of_decide_eq_true h)
      · exact .inr (of_decide_eq_true h)
    · cases hf
  · rename_i z j
    split at hf
    · rename_i hb; cases hf
      obtain ⟨t',rfl⟩:=rx
      obtain ⟨t2',rfl⟩:=ry
      refine SB.mul ⟨?_,fun _ _=>?_,fun _ _=>?_⟩ fun t3 k=>⟨.str (Txt.mul z j),H,I.tok _,⟨_,rfl⟩,?_⟩
      · have h1:¬ j < -(2 ^ 63:Int):=by omega
        have h2:¬ j ≥ 2 ^ 63:=by omega
        rw [decide_eq_false h1,decide_eq_false h2]; rfl
      · have h1:(z.length:Int)≤100:=by omega
        have h2:(100:Int)≤(2 ^ 63 - 1) / j:=by
          have hj:0<j:=by
            rcases Int.lt_or_le 0 j with h | h
            · exact h
            · exfalso
              have:j=0:=by omega
              subst this
              rename_i a _; exact a (by decide)
          exact (Int.le_ediv_iff_mul_le hj).mpr (by omega)
        omega
      · have h3:z.length * j.toNat≤100 * 1000:=Nat.mul_le_mul hb.2.2 (by omega)
        unfold Builtin.Str.tooLong
        rw [sizeLine_eq]
        exact decide_eq_false (by omega)
      · rw [a7q z j hb.1]; exact q _ H S (Ext.refl sub) (.str _)
    · cases hf
end
end C
end
noncomputable section
set_option linter.all false
set_option maxRecDepth 100000
set_option maxHeartbeats 4000002
set_option autoImplicit false
namespace C
open PySem PySem.Spec PyProof.Rows L2
noncomputable section
variable {X:Cx} {B:Bas} {a b c e o:Expr} {m m1 m2:M T} {pos p:Pos}
theorem Q6 (n:Nat) (i:Int):ixI n i=ixN n i:=rfl
theorem a2c {K:PySem.W.Frag} {S:Hp} {as:List Addr} {y:V} {t:T} {q:L2.Key} (r:Rep K S as y t) (h:K4 t=some q):y=kV q:=by
  cases r <;> simp only [K4,reduceCtorEq] at h <;> (cases h; rfl)
noncomputable def ab3:R2:=fun x y H Q=>∃ a v,x=.ref a∧a1q H a y (some v)∧Q v H
theorem a78 (hu:X.A.units+1<cLine):IxR X ab3:=by
  intro value slice pins s σ H x y v u Q I rx ry z8 hs
  obtain ⟨a,w,ex,g,q⟩:=z8
  subst ex
  cases rx
  refine tail_any (Tz I g) slot_dict_getitem.lookup (Zt hu I g ry fun w' s' I' r'=>⟨w,H,I',r',q⟩) hs
theorem a1u (hu:X.A.units+1<cLine):IxR X (r2 X.K iz):=by
  intro value slice pins s σ H x y v u Q I rx ry z8 hs
  obtain ⟨S,as,t,t2,w,sub,ht,hu2,hf,q⟩:=z8
  cases ht with
  | @tup a vs ts h1 h2 =>
    cases hu2 <;> simp only [iz,reduceCtorEq] at hf
    rename_i i
    obtain ⟨j,e1,e2⟩:=Option.bind_eq_some_iff.mp hf
    obtain ⟨z,hz,rz⟩:=h2.get e2
    refine a9a value slice pins s σ H _ _ v u Q I rx ry ⟨a,vs,i,z,rfl,rfl,uy sub h1,?_,q z H S (Ext.refl sub) rz⟩ hs
    rw [Q6,← h2.length] at e1
    unfold atI; rw [e1]; exact hz
  | @lst a vs ts h1 h2 =>
    cases hu2 <;> simp only [iz,reduceCtorEq] at hf
    rename_i i
    obtain ⟨j,e1,e2⟩:=Option.bind_eq_some_iff.mp hf
    obtain ⟨z,hz,rz⟩:=h2.get e2
    refine Zi value slice pins s σ H _ _ v u Q I rx ry ⟨a,vs,i,z,rfl,rfl,ou sub h1,?_,q z H S (Ext.refl sub) rz⟩ hs
    rw [Q6,← h2.length] at e1
    unfold atI; rw [e1]; exact hz
  | str z =>
    cases hu2 <;> simp only [iz,reduceCtorEq] at hf
    rename_i i
    split at hf
    · rename_i hl
      obtain ⟨j,e1,e2⟩:=Option.bind_eq_some_iff.mp hf
      obtain ⟨cc,e3,e4⟩:=Option.map_eq_some_iff.mp e2
      subst e4
      refine a92 value slice pins s σ H _ _ v u Q I rx ry ⟨z,i,cc,rfl,rfl,Nat.le_trans (Nat.le_of_lt hl) yc,?_,q _ H S (Ext.refl sub) (.str _)⟩ hs
      rw [Q6] at e1
      unfold atI; rw [e1]; exact e3
    · cases hf
  | @dic a kvs ts h1 h2 =>
    simp only [iz] at hf
    obtain ⟨k,e1,e2⟩:=Option.bind_eq_some_iff.mp hf
    have ey:=a2c hu2 e1
    subst ey
    rcases h2.get k with ⟨z,t',a1,a2,a3⟩ | ⟨_,a2⟩
    · rw [e2] at a2; cases a2
      exact a78 hu value slice pins s σ H _ _ v u Q I rx ry ⟨a,z,rfl,.inl ⟨kvs,k,Dp sub h1,rfl,a1.symm⟩,q z H S (Ext.refl sub) a3⟩ hs
    · rw [e2] at a2; cases a2
  | _=>simp only [iz,reduceCtorEq] at hf
theorem m9 (hu:X.A.units+1<cLine) (ha:PE X a (tOf X.K B m1)) (hb:PE X b (tOf X.K B m2)) (hs:U8 b):PE X (.Subscript a b pos) (tOf X.K B (mOp iz m1 m2)):=Vf (a8w (a1u hu) ha hb hs)
theorem Hv:Xw X (.builtin "len") lq:=by
  intro pins s σ H xs us Q I rs z8
  obtain ⟨S,as,ts,w,sub,hr,hf,q⟩:=z8
  cases hr with
  | nil=>simp only [lq,reduceCtorEq] at hf
  | @cons x t xs' ts' h1 h2 =>
    cases h2 with
    | cons h3 h4=>simp only [lq,reduceCtorEq] at hf
    | nil =>
      cases h1 with
      | tup g1 g2=>simp only [lq] at hf; cases hf; exact Ea pins s σ H _ us Q I rs ⟨_,_,rfl,.inr (uy sub g1),by rw [g2.length]; exact q _ H S (Ext.refl sub) (.int _)⟩
      | lst g1 g2=>simp only [lq] at hf; cases hf; exact Ea pins s σ H _ us Q I rs ⟨_,_,rfl,.inl (ou sub g1),by rw [g2.length]; exact q _ H S (Ext.refl sub) (.int _)⟩
      | str z =>
        simp only [lq] at hf
        split at hf
        · rename_i hl; cases hf; exact Qh pins s σ H _ us Q I rs ⟨_,rfl,Nat.le_trans (Nat.le_of_lt hl) yc,q _ H S (Ext.refl sub) (.int _)⟩
        · cases hf
      | @dic a kvs ts g1 g2 =>
        simp only [lq] at hf; cases hf
        obtain ⟨u,rfl,ru⟩:=rs.one
        cases ru
        exact a9s I (Dp sub g1) fun t s' I'=>⟨.int kvs.length,H,I',⟨t,rfl⟩,by rw [g2.length]; exact q _ H S (Ext.refl sub) (.int _)⟩
      | _=>simp only [lq,reduceCtorEq] at hf
theorem zq:Xw X (.type "tuple") Aj:=by
  intro pins s σ H xs us Q I rs z8
  obtain ⟨S,as,ts,w,sub,hr,hf,q⟩:=z8
  cases hr with
  | nil=>simp only [Aj,reduceCtorEq] at hf
  | @cons x t xs' ts' h1 h2 =>
    cases h2 with
    | cons h3 h4=>simp only [Aj,reduceCtorEq] at hf
    | nil =>
      cases h1 with
      | @tup a vs ts g1 g2=>simp only [Aj] at hf; cases hf; exact Iz pins s σ H _ us Q I rs ⟨_,_,rfl,.inr ⟨uy sub g1,q _ H S (Ext.refl sub) (.tup g1 g2)⟩⟩
      | @lst a vs ts g1 g2 =>
        simp only [Aj] at hf; cases hf
        refine Iz pins s σ H _ us Q I rs ⟨_,_,rfl,.inl ⟨ou sub g1,fun p hp=>?_⟩⟩
        have x:=Ext.laid sub hp (.tup vs)
        exact q _ _ _ x (.tup (SqT.of jh) (g2.mono x.s nol))
      | _=>simp only [Aj,reduceCtorEq] at hf
theorem Et.put {K:PySem.W.Frag} {S:Hp} {as:List Addr} {k:L2.Key} {v:V} {t:T} (r:Rep K S as v t):∀ {vs:List (L2.Key × V)} {ts:List (L2.Key × T)},Et K S as vs ts→Et K S as (a1s vs k v) (Rw k t ts):=by
  intro vs ts h
  have any:∀ {vs:List (L2.Key × V)} {ts:List (L2.Key × T)},Et K S as vs ts→(vs.any fun kv=>decide (kv.1=k))=(ts.any fun p=>decide (p.1=k)):=by
    intro vs ts h
    induction vs generalizing ts with
    | nil=>cases h; rfl
    | cons p r ih=>cases h with | cons h1 h2=>rw [List.any_cons,List.any_cons,ih h2]
  have mp:∀ {vs:List (L2.Key × V)} {ts:List (L2.Key × T)},Et K S as vs ts→Et K S as (vs.map fun kv=>if kv.1=k then (kv.1,v) else kv) (ts.map fun p=>if p.1=k then (p.1,t) else p):=by
    intro vs ts h
    induction vs generalizing ts with
    | nil=>cases h; exact .nil
    | cons p rr ih =>
      cases h with
      | @cons q v0 t0 _ _ h1 h2 =>
        rw [List.map_cons,List.map_cons]
        by_cases e:q=k
        · rw [if_pos e,if_pos e]; exact .cons r (ih h2)
        · rw [if_neg e,if_neg e]; exact .cons h1 (ih h2)
  have ap:∀ {vs:List (L2.Key × V)} {ts:List (L2.Key × T)},Et K S as vs ts→Et K S as (vs++[(k,v)]) (ts++[(k,t)]):=by
    intro vs ts h
    induction vs generalizing ts with
    | nil=>cases h; exact .cons r .nil
    | cons p rr ih=>cases h with | cons h1 h2=>exact .cons h1 (ih h2)
  unfold a1s Rw
  rw [any h]
  split
  · exact mp h
  · exact ap h
end
end C
end
noncomputable section
set_option linter.all false
set_option maxRecDepth 100000
set_option maxHeartbeats 4000002
set_option autoImplicit false
namespace C
open PySem PySem.Spec PyProof.Rows L2
theorem Tr {i:Nat} {s s':Sta} {t:T} (h:Gz i s=some (t,s')):s'=s∧((∃ xs f,s.env[i]? = some (some (.lst xs,f))∧t=.int xs.length)∨(∃ xs f,s.env[i]? = some (some (.dic xs,f))∧t=.int xs.length)):=by
  unfold Gz at h
  split at h
  · rename_i xs f e; cases h; exact ⟨rfl,.inl ⟨xs,f,e,rfl⟩⟩
  · rename_i xs f e; cases h; exact ⟨rfl,.inr ⟨xs,f,e,rfl⟩⟩
  · cases h
noncomputable section
variable {K:PySem.W.Frag} {B:Bas} {st:Sta} {σ:L2.St} {H S:Hp} {ps:List (V × T)} {as:List Addr}
theorem Rel.dictAt (r:Rel K B st σ H ps S as) {i:Nat} {kvs:List (L2.Key × T)} {f:Bool} (e:st.env[i]? = some (some (.dic kvs,f))):∃ p vs,σ[i]? = some (some (.ref p))∧Rd H p (.dK vs)∧Et K S as vs kvs:=by
  obtain ⟨v,h1,h2,h3⟩:=r.slots i _ f e
  cases f with
  | false =>
    have h:=h2 rfl
    cases h with
    | dic a b=>exact ⟨_,_,h1,Dp r.sub a,b⟩
  | true =>
    obtain ⟨p,rfl,o⟩:=h3 rfl
    obtain ⟨vs,h,q⟩:=o.own
    exact ⟨p,vs,h1,.inl h,q⟩
end
noncomputable section
variable {X:Cx} {B:Bas} {a b c e o k d:Expr} {m mo mk md mv:M T} {pos p:Pos}
theorem Rk {i:Nat} {s:Sta} (h:j5 i s=true):∃ kvs f,s.env[i]? = some (some (.lst kvs,f)):=by
  unfold j5 at h
  split at h
  · rename_i kvs f e; exact ⟨kvs,f,e⟩
  · cases h
end
end C
end
noncomputable section
set_option linter.all false
set_option maxRecDepth 100000
set_option maxHeartbeats 4000002
set_option autoImplicit false
namespace C
open PySem PySem.Spec PyProof.Rows L2
theorem jq {ms:M (List T)} {n:Nat} (h:∀ st ts st',ms st=some (ts,st')→ts.length≤n) (hn:n≤1000):∀ st ts st',ms st=some (ts,st')→ts.length≤1000:=fun st ts st' e=>Nat.le_trans (h st ts st' e) hn
theorem yw {m:M T}:∀ st ts st',jm m st=some (ts,st')→ts.length≤sizeLine:=fun st ts st' e=>by
  unfold jm at e
  split at e
  · split at e
    · rename_i h; cases e; exact Nat.le_trans (Nat.le_of_lt h) yc
    · cases e
  · split at e
    · rename_i h; cases e; exact Nat.le_trans (Nat.le_of_lt h) yc
    · cases e
  · cases e
theorem K5 {m:M T}:∀ st ts st',fj m st=some (ts,st')→ts.length≤sizeLine:=fun st ts st' e=>by
  obtain ⟨n,_,h,rfl⟩:=Nt e
  unfold El
  rw [List.length_map,List.length_range]
  refine Nat.le_trans ?_ yc
  show n.toNat≤1000000
  omega
noncomputable def j9 (P:Program) (w:World) (K:PySem.W.Frag) (mg:Str→Option Value) (base:Heap) (x:Str) (k:Nat) (ps:List Str) (F:Fn):Prop :=
  ∃ f fd,Dh P w K mg base CX0 k f fd ps (spF K ps.length F)∧Ph K fd ps []∧PySem.W.keepIn K (.ref f)=true∧mg x=some (.ref f)
theorem j9.mono {P:Program} {w:World} {K:PySem.W.Frag} {mg:Str→Option Value} {base:Heap} {x:Str} {j k:Nat} {ps:List Str} {F:Fn} (d:j9 P w K mg base x j ps F) (h:j≤k):j9 P w K mg base x k ps F:=by
  obtain ⟨f,fd,h1,h2⟩:=d
  exact ⟨f,fd,h1.mono h,h2⟩
noncomputable section
variable {X:Cx} {B:Bas} {a b c e o k:Expr} {m m1 m2:M T} {pos p:Pos} {es:List Expr} {ms:M (List T)} {F:Fn} {x:Str} {n:Nat} {pn:List Str}
theorem gb (D:j9 X.prog X.w X.K X.mg X.base x n pn F) (hr:Jl n X.A) (hg:Gl X x)
    (ha:PA X (e::es) (aOf X.K B ms)) (hl:∀ st ts st',ms st=some (ts,st')→ts.length=pn.length) (hdb:(x==("__debug__" : Str))=false:=by decide)
    (he:starEach (e::es) X.env=(false,eval e X.env)::starEach es X.env:=by rfl) (hpl:(backTo pos (starEach es X.env)).any (·.1)=false:=by rfl) :
    PE X (.Call (.Name x p) (e::es) [] pos) (tOf X.K B (dw F ms)):=by
  obtain ⟨f,fd,h1,h2,h3,h4⟩:=D
  exact a7t h1 hr hg h4 h3 h2 ha hl hdb he hpl
theorem Gw (h:PA X es (aOf X.K B ms)) (hm:∀ st ts st',ms st=some (ts,st')→ts.length≤1000):PE X (.List es pos) (fOf X.K B (jg (fun l=>some (.lst l)) ms)) :=
  (a0y h).imp fun σ H Q z9=>by
    obtain ⟨st,ps,S,as,R,t,st',e,q⟩:=z9
    obtain ⟨ts,e1,e2⟩:=Hr e
    cases e2
    refine ⟨st,ps,S,as,R,ts,st',e1,fun vs H1 S1 as1 R1 rs=>⟨?_,fun p hp=>?_⟩⟩
    · rw [rs.length]; exact Nat.le_of_lt (Ir (hm _ _ _ e1))
    · obtain ⟨bD,sD,nD,no⟩:=R1.fresh hp
      exact q p _ S1 as1 (R1.aa0 bD sD nD no) ⟨⟨vs,jh,rs⟩,sD,nD,bD⟩ no
theorem Rel.listAt {K:PySem.W.Frag} {B:Bas} {st:Sta} {σ:L2.St} {H S:Hp} {ps:List (V × T)} {as:List Addr} (r:Rel K B st σ H ps S as) {i:Nat} {xs:List T} {f:Bool} (e:st.env[i]? = some (some (.lst xs,f))):∃ p vs,σ[i]? = some (some (.ref p))∧SqL K H p vs∧vh K S as vs xs:=by
  obtain ⟨v,h1,h2,h3⟩:=r.slots i _ f e
  cases f with
  | false =>
    have h:=h2 rfl
    cases h with
    | lst a b=>exact ⟨_,_,h1,ou r.sub a,b⟩
  | true =>
    obtain ⟨p,rfl,o⟩:=h3 rfl
    obtain ⟨vs,h,q⟩:=o.own
    exact ⟨p,vs,h1,SqL.of h,q⟩
theorem Bs (i:Nat) {st:Stmt} (h:PS X st (a3q (tBM X.K "list" U6 (a1r i) (Ws (tOf X.K B m) a7y)))):PS X st (sOf X.K B (cg i m)):=h.imp fun D σ H z9=>by
  obtain ⟨st,ps,S,as,R,fl,st',e,q⟩:=z9
  obtain ⟨hd,t,s1,xs,e1,e2,hl,rfl,rfl⟩:=Tt e
  obtain ⟨xs0,f0,e0⟩:=Rk hd
  obtain ⟨p0,vs0,s0,q0,_⟩:=R.listAt e0
  refine ⟨_,s0,.inl ⟨rfl,_,q0⟩,st,ps,S,as,R,t,s1,e1,fun v H1 S1 as1 R1=>?_⟩
  obtain ⟨w,h1,_,h3⟩:=R1.slots i _ true e2
  rw [s0] at h1; cases h1
  obtain ⟨p',ep,ow⟩:=h3 rfl
  cases ep
  obtain ⟨vs,hH,h4⟩:=ow.own
  exact ⟨p0,vs,v,rfl,rfl,hH,by rw [h4.length]; exact Nat.lt_of_lt_of_le hl yc,q _ _ S1 as1 (R1.drop.turn e2 s0 ⟨_,jh,h4.append (.cons R1.top .nil)⟩)⟩
end
end C
end
noncomputable section
set_option linter.all false
set_option maxRecDepth 100000
set_option maxHeartbeats 4000002
set_option autoImplicit false
namespace C
open PySem PySem.Spec PyProof.Rows L2
noncomputable section
variable {X:Cx} {B:Bas} {a b c e o k:Expr} {m m1 m2:M T} {pos p:Pos}
theorem Qz {K:PySem.W.Frag} {S:Hp} {as:List Addr}:∀ {vs:List V} {ts:List T} {l:List Int},vh K S as vs ts→Xg ts=some l→vs=l.map V.int
  | _,_,l,.nil,h=>by cases h; rfl
  | _,_,l,.cons (t:=t) h1 h2,h=>by
    cases h1 <;> simp only [Xg,reduceCtorEq] at h
    obtain ⟨l',e1,e2⟩:=Option.map_eq_some_iff.mp h
    subst e2
    rw [Qz h2 e1]; rfl
theorem Nb {K:PySem.W.Frag} {S:Hp} {as:List Addr}:∀ {vs:List V} {ts:List T} {l:List Bool},vh K S as vs ts→Nm ts=some l→vs=l.map V.bl
  | _,_,l,.nil,h=>by cases h; rfl
  | _,_,l,.cons (t:=t) h1 h2,h=>by
    cases h1 <;> simp only [Nm,reduceCtorEq] at h
    obtain ⟨l',e1,e2⟩:=Option.map_eq_some_iff.mp h
    subst e2
    rw [Nb h2 e1]; rfl
theorem Lq {K:PySem.W.Frag} {S:Hp} {as:List Addr}:∀ {vs:List V} {ts:List T} {l:List Str},vh K S as vs ts→Jg ts=some l→vs=l.map V.str
  | _,_,l,.nil,h=>by cases h; rfl
  | _,_,l,.cons (t:=t) h1 h2,h=>by
    cases h1 <;> simp only [Jg,reduceCtorEq] at h
    obtain ⟨l',e1,e2⟩:=Option.map_eq_some_iff.mp h
    subst e2
    rw [Lq h2 e1]; rfl
theorem a3d {l:List Int} {us:List Value} (r:yh (l.map V.int) us) {i:Nat} {v:Value} (h:us.toArray[i]? = some v):∃ t,v=.int (l.getD i 0) t:=by
  rw [List.getElem?_toArray] at h
  have hi:i<(l.map V.int).length:=by rw [r.length]; exact (List.getElem?_eq_some_iff.mp h).1
  rw [List.length_map] at hi
  have e:(l.map V.int)[i]? = some (.int l[i]):=by rw [List.getElem?_map,List.getElem?_eq_getElem hi]; rfl
  obtain ⟨u,h1,t,h2⟩:=r.get e
  rw [h] at h1; cases h1
  exact ⟨t,by rw [h2,List.getD_eq_getElem?_getD,List.getElem?_eq_getElem hi]; rfl⟩
theorem a0m {l:List Bool} {us:List Value} (r:yh (l.map V.bl) us) {i:Nat} {v:Value} (h:us.toArray[i]? = some v):v=.bool (l.getD i true):=by
  rw [List.getElem?_toArray] at h
  have hi:i<(l.map V.bl).length:=by rw [r.length]; exact (List.getElem?_eq_some_iff.mp h).1
  rw [List.length_map] at hi
  have e:(l.map V.bl)[i]? = some (.bl l[i]):=by rw [List.getElem?_map,List.getElem?_eq_getElem hi]; rfl
  obtain ⟨u,h1,h2⟩:=r.get e
  rw [h] at h1; cases h1
  rw [h2,List.getD_eq_getElem?_getD,List.getElem?_eq_getElem hi]; rfl
theorem Inv.j5 {pins:List (Addr × Obj)} {σ:L2.St} {H:Hp} {s:Shared} {a:Addr} {xs:List V} (I:L2.Inv X pins σ H s) (h:SqL X.K H a xs):a<s.heap.objs.size:=by
  obtain ⟨its,_,⟨o,n,h1,_⟩,_⟩:=I.list h
  exact Heap.lt_size h1
theorem Y8 (hc:X.calm=true):Xw X (.builtin "sum") a6f:=by
  intro pins s σ H xs us Q I rs z8
  obtain ⟨S,as,ts,w,sub,hr,hf,q⟩:=z8
  cases hr with
  | nil=>simp only [a6f,reduceCtorEq] at hf
  | @cons x t xs' ts' h1 h2 =>
    cases h2 with
    | cons h3 h4=>simp only [a6f,reduceCtorEq] at hf
    | nil =>
      cases h1 with
      | @lst a vs ts g1 g2 =>
        simp only [a6f] at hf
        obtain ⟨l,e1,e2⟩:=Option.map_eq_some_iff.mp hf
        subst e2
        have ev:=Qz g2 e1
        subst ev
        obtain ⟨u,rfl,ru⟩:=rs.one
        cases ru
        obtain ⟨its,r,p,hz⟩:=I.list (ou sub g1)
        have hlt:=Inv.j5 I (ou sub g1)
        refine call_sum_walkG (wpAny_pyIter_list p.isList ?_)
        refine ⟨_,_,_,_,_,_,fun i=>l.getD i 0,rfl,Walks.list (A:=X.A.in1) (show X.A.in1.handled=none from I.ok.hd hc) s.heap.objs.size a (Nat.ne_of_lt hlt) its.toArray,And.intro ⟨_,Heap.get?_push_size _ rfl,rfl,rfl⟩ (PlainL.keeps p fun b o e=>Heap.get?_push_of_some _ e).isList,fun b hb=>?_,fun i v hv=>a3d r hv,fun h' tk t' hk=>?_⟩
        · rw [Heap.size_push]
          rcases List.mem_cons.mp hb with rfl | hb -- here
          · exact Nat.lt_succ_self _
          · rw [List.mem_singleton.mp hb]; exact Nat.lt_succ_of_lt hlt -- here
        · have hl:its.toArray.size=l.length:=by rw [List.size_toArray,← r.length,List.length_map]
          rw [hl,preSum_getD,List.take_length]
          exact ⟨.int l.sum,H,I.kept (h':=h') (t':=tk) fun b u e=>hk b u (by simp; exact Nat.ne_of_lt (Heap.lt_size e)) (Heap.get?_push_of_some _ e),⟨_,rfl⟩,q _ H S (Ext.refl sub) (.int _)⟩
      | _=>simp only [a6f,reduceCtorEq] at hf
theorem a1n (l:List Bool) (d:Bool):((List.range l.length).any fun i=>l.getD i d)=l.any id:=by
  induction l with
  | nil=>rfl
  | cons x r ih =>
    rw [List.length_cons,List.range_succ_eq_map,List.any_cons,List.any_map,List.any_cons,← ih]
    rfl
theorem a0p (hc:X.calm=true):Xw X (.builtin "any") a7f:=by
  intro pins s σ H xs us Q I rs z8
  obtain ⟨S,as,ts,w,sub,hr,hf,q⟩:=z8
  cases hr with
  | nil=>simp only [a7f,reduceCtorEq] at hf
  | @cons x t xs' ts' h1 h2 =>
    cases h2 with
    | cons h3 h4=>simp only [a7f,reduceCtorEq] at hf
    | nil =>
      cases h1 with
      | @lst a vs ts g1 g2 =>
        simp only [a7f] at hf
        obtain ⟨l,e1,e2⟩:=Option.map_eq_some_iff.mp hf
        subst e2
        have ev:=Nb g2 e1
        subst ev
        obtain ⟨u,rfl,ru⟩:=rs.one
        cases ru
        obtain ⟨its,r,p,hz⟩:=I.list (ou sub g1)
        have hlt:=Inv.j5 I (ou sub g1)
        refine call_any_walk (wpAny_pyIter_list p.isList ?_)
        refine ⟨_,_,_,_,_,_,fun i=>l.getD i true,rfl,Walks.list (A:=X.A.in1) (show X.A.in1.handled=none from I.ok.hd hc) s.heap.objs.size a (Nat.ne_of_lt hlt) its.toArray,And.intro ⟨_,Heap.get?_push_size _ rfl,rfl,rfl⟩ (PlainL.keeps p fun b o e=>Heap.get?_push_of_some _ e).isList,fun i v s Q E hv hq=>?_,fun h' tk hk=>?_⟩
        · have e:=a0m r hv
          subst e
          exact wpAny_truthy_bool hq
        · have hl:its.toArray.size=l.length:=by rw [List.size_toArray,← r.length,List.length_map]
          rw [hl,a1n]
          exact ⟨.bl (l.any id),H,I.kept (h':=h') (t':=tk) fun b u e=>hk b u (by simp; exact Nat.ne_of_lt (Heap.lt_size e)) (Heap.get?_push_of_some _ e),rfl,q _ H S (Ext.refl sub) (.bl _)⟩
      | _=>simp only [a7f,reduceCtorEq] at hf
theorem J6:∀ {l:List Str} {us:List Value},yh (l.map V.str) us→StrsAre us l
  | [],_,r=>by cases r; exact .nil
  | x::l,_,r=>by
    rw [List.map_cons] at r
    cases r with
    | cons r1 r2=>obtain ⟨t,rfl⟩:=r1; exact .cons x t (J6 r2)
theorem Hq:∀ {l:List Str} {us:List Value},StrsAre us l→yh (l.map V.str) us
  | _,_,.nil=>.nil
  | _,_,.cons x t h=>.cons ⟨t,rfl⟩ (Hq h)
noncomputable abbrev Gg (a b:Str):Prop:=¬ b.cps.toList<a.cps.toList
theorem Mf {a b c:Str} (h1:Gg a b) (h2:Gg b c):Gg a c:=fun h=>by
  have h3:a.cps.toList≤b.cps.toList:=List.not_lt.mp h1
  have h4:b.cps.toList≤c.cps.toList:=List.not_lt.mp h2
  exact List.not_lt.mpr (List.le_trans h3 h4) h
theorem X5 {a b:Str} (h1:Gg a b) (h2:Gg b a):a=b:=by
  have h3:a.cps.toList≤b.cps.toList:=List.not_lt.mp h1
  have h4:b.cps.toList≤a.cps.toList:=List.not_lt.mp h2
  have h5:=List.le_antisymm h3 h4
  cases a; cases b
  simp at h5; subst h5; rfl
theorem Kr:∀ (p:Str) (l:List Str),risingS p l=true→(p::l).Pairwise Gg
  | p,[],_=>by simp
  | p,x::r,h=>by
    rw [risingS,Bool.and_eq_true] at h
    have ih:=Kr x r h.2
    have hx:Gg p x:=fun z=>by
      have:=h.1
      rw [ltCps_eq,decide_eq_true z] at this
      cases this
    refine List.pairwise_cons.mpr ⟨fun y hy=>?_,ih⟩
    rcases List.mem_cons.mp hy with rfl | hy -- here
    · exact hx
    · exact Mf hx (List.rel_of_pairwise_cons ih hy)
theorem T7 (l:List Str) (h:sortedS l=true):l.Pairwise Gg:=by
  cases l with
  | nil=>exact .nil
  | cons x r=>exact Kr x r h
theorem Lf (x:Str):∀ l,(Mg x l).Perm (x::l)
  | []=>.refl _
  | y::r=>by
    rw [Mg]
    split
    · exact .refl _
    · exact ((Lf x r).cons y).trans (.swap x y r)
theorem Qw (x:Str):∀ l:List Str,l.Pairwise Gg→(Mg x l).Pairwise Gg
  | [],_=>by simp [Mg]
  | y::r,h=>by
    rw [Mg]
    split
    · rename_i hx
      have hx:=of_decide_eq_true hx
      have hxy:Gg x y:=fun z=>List.lt_irrefl _ (List.lt_trans hx z)
      refine List.pairwise_cons.mpr ⟨fun z hz=>?_,h⟩
      rcases List.mem_cons.mp hz with rfl | hz -- here
      · exact hxy
      · exact Mf hxy (List.rel_of_pairwise_cons h hz)
    · rename_i hx
      have hx:Gg y x:=fun z=>hx (decide_eq_true z)
      refine List.pairwise_cons.mpr ⟨fun z hz=>?_,Qw x r (List.pairwise_cons.mp h).2⟩
      rcases List.mem_cons.mp ((Lf x r).mem_iff.mp hz) with rfl | hz
      · exact hx
      · exact List.rel_of_pairwise_cons h hz
theorem Dm:∀ (l acc:List Str),acc.Pairwise Gg→(l.foldl (fun acc x=>Mg x acc) acc).Pairwise Gg∧(l.foldl (fun acc x=>Mg x acc) acc).Perm (l++acc)
  | [],acc,h=>⟨h,.refl _⟩
  | x::l,acc,h=>by
    obtain ⟨h1,h2⟩:=Dm l (Mg x acc) (Qw x acc h)
    exact ⟨h1,h2.trans (((Lf x acc).append_left l).trans (List.perm_middle))⟩
theorem Xh (l:List Str):(Bg l).Pairwise Gg:=(Dm l [] .nil).1
theorem G8 (l:List Str):(Bg l).Perm l:=by
  have:=(Dm l [] .nil).2
  rwa [List.append_nil] at this
theorem O7 {l l':List Str} (h1:sortedS l'=true) (h2:l'.Perm l):l'=Bg l :=
  List.Perm.eq_of_pairwise (le:=Gg) (fun _ _ _ _=>X5) (T7 l' h1) (Xh l) (h2.trans (G8 l).symm)
theorem Ia {K:PySem.W.Frag} {S:Hp} {as:List Addr}:∀ l:List Str,vh K S as (l.map V.str) (l.map T.str)
  | []=>.nil
  | x::l=>.cons (.str x) (Ia l)
theorem Wj {pins:List (Addr × Obj)} {σ:L2.St} {H S:Hp} {s:Shared} {as:List Addr} {a:Addr} {l:List Str} {Q:VK} (I:L2.Inv X pins σ H s) (sub:yq S H) (g1:SqL X.K H a (l.map V.str)) (h64:l.length<64)
    (q:∀ v H' S',Ext S H S' H'→Rep X.K S' as v (.lst ((Bg l).map .str))→Q v H'):wpAny (model X.prog X.w) X.A (call (.builtin "sorted") [.ref a]) (EP X pins σ Q) X.xe s:=by
  obtain ⟨its,r,p,hz⟩:=I.list g1
  refine sorted_strs p.isList (J6 r) (by rw [← r.length,List.length_map]; exact h64) fun out ss' a1 a2 a3=>?_
  have es:=O7 a3 a2
  subst es
  obtain ⟨e,he⟩:=sortedAll_at s.heap its out
  have hl:(List.map V.str (Bg l)).length≤sizeLine:=by
    rw [List.length_map,(G8 l).length_eq]
    exact Nat.le_trans (Nat.le_of_lt h64) (by rw [sizeLine_eq]; decide)
  have hn:H (s.heap.objs.size+1)=none:=I.hok.fresh (Nat.le_succ _)
  have x:=Ext.laid sub hn (.lst ((Bg l).map V.str))
  refine ⟨.ref (s.heap.objs.size+1),_,I.laid (a:=s.heap.objs.size+1) (o:=.lst ((Bg l).map V.str)) (h':=sortedAll s.heap its out) (t':=s.toks) (fun _ _=>sortedAll_old) (Nat.le_succ _) ⟨hl,out.toList,e,Hq a1,he⟩,rfl,q _ _ _ x (.lst (SqL.of jh) (Ia _))⟩
theorem Od:Hj X (.builtin "sorted") (fun xs H Q=>∃ S as ts l,yq S H∧vh X.K S as xs [.lst ts]∧ts.length<64∧Jg ts=some l∧∀ v H' S',Ext S H S' H'→Rep X.K S' as v (.lst ((Bg l).map .str))→Q v H'):=by
  intro pins s σ H xs us Q I rs z8
  obtain ⟨S,as,ts,l,sub,hr,h64,e1,q⟩:=z8
  cases hr with
  | cons h1 h2 =>
    cases h2
    cases h1 with
    | @lst a vs _ g1 g2 =>
      have ev:=Lq g2 e1
      subst ev
      obtain ⟨u,rfl,ru⟩:=rs.one
      cases ru
      have hl:=g2.length
      rw [List.length_map] at hl
      exact Wj I sub (ou sub g1) (by omega) q
example (K:PySem.W.Frag):PySem.W.kitOne K (.type "bool") (.type "int")=some true:=by rfl
example (K:PySem.W.Frag):PySem.W.kitOne K (.type "str") (.type "int")=some false:=by rfl
end
end C
end
noncomputable section
set_option linter.all false
set_option maxRecDepth 100000
set_option maxHeartbeats 4000002
set_option autoImplicit false
namespace C
open PySem PySem.Spec PyProof.Rows L2
theorem Rt (l b:Addr) (xs0 ys0:Array Value) (n n2:Nat) (dd2:Option Addr) (sl2:Array (Option Value)) (hs0:¬(!xs0.isEmpty&&Builtin.List.listTooLong (xs0.size+ys0.size))=true) (hs1:xs0.size≤sizeLine) (hs2:xs0.size+ys0.size≤sizeLine+1) :
    Meets (Builtin.«list.extend» ⟨[.ref l,.ref b],[]⟩) (fun _ R s=>s.heap.get? l=some { cls:=.type "list",dict:=none,data:=.seq xs0 n,slots:=#[] }∧s.heap.get? b=some { cls:=.type "list",dict:=dd2,data:=.seq ys0 n2,slots:=sl2 }∧R (.ok (.ret Value.none)) { s with heap:=s.heap.update l (Obj.mapSeq fun x=>x++ys0),toks:=s.toks }) :=
  .of_wp fun pr wd Ar R z h=>by
    obtain ⟨hp,gs,dr,tk,os⟩:=z; obtain ⟨hl,hb,h⟩:=h; have f1:=AutoSeq1.idx_int; have f2:=AutoSeq1.sub_tuple_tuple; have f3:=AutoSeq1.sub_list_list; have f4:=AutoSeq1.sub_tuple_list; have f5:=AutoSeq1.sub_list_tuple
    have hz':(xs0++ys0).size≤sizeLine+1:=by rw [Array.size_append]; exact hs2
    wp_walk using (wpAny_updateSeq hl rfl (hz:=hs1) (_hz':=hz')),AutoSeq1.wpAny_loadPart' hl,AutoSeq1.wpAny_loadPart' hb; exact ⟨_,rfl,h⟩
theorem Pq (l b:Addr) (xs0 ys0:Array Value) (n n2:Nat) (dd2:Option Addr) (sl2:Array (Option Value)) (hs0:¬(!xs0.isEmpty&&Builtin.List.listTooLong (xs0.size+ys0.size))=true) (hs1:xs0.size≤sizeLine) (hs2:xs0.size+ys0.size≤sizeLine+1) :
    Meets (Builtin.«list.extend» ⟨[.ref l,.ref b],[]⟩) (fun _ R s=>s.heap.get? l=some { cls:=.type "list",dict:=none,data:=.seq xs0 n,slots:=#[] }∧s.heap.get? b=some { cls:=.type "tuple",dict:=dd2,data:=.seq ys0 n2,slots:=sl2 }∧R (.ok (.ret Value.none)) { s with heap:=s.heap.update l (Obj.mapSeq fun x=>x++ys0),toks:=s.toks }) :=
  .of_wp fun pr wd Ar R z h=>by
    obtain ⟨hp,gs,dr,tk,os⟩:=z; obtain ⟨hl,hb,h⟩:=h; have f1:=AutoSeq1.idx_int; have f2:=AutoSeq1.sub_tuple_tuple; have f3:=AutoSeq1.sub_list_list; have f4:=AutoSeq1.sub_tuple_list; have f5:=AutoSeq1.sub_list_tuple
    have hz':(xs0++ys0).size≤sizeLine+1:=by rw [Array.size_append]; exact hs2
    wp_walk using (wpAny_updateSeq hl rfl (hz:=hs1) (_hz':=hz')),AutoSeq1.wpAny_loadPart' hl,AutoSeq1.wpAny_loadPart' hb; exact ⟨_,rfl,h⟩
noncomputable section
variable {X:Cx} {B:Bas} {m:M T}
noncomputable def Va (K:PySem.W.Frag):V→List V→Hp→VK→Prop:=fun x vs H Q=>∃ l b xs zs,x=.ref l∧vs=[.ref b]∧H l=some (.lst xs)∧(SqL K H b zs∨SqT K H b zs)∧xs.length+zs.length≤sizeLine∧Q .non (upd H l (.lst (xs++zs)))
theorem J9:MtM X "list.extend" (Va X.K):=by
  intro pins s σ H x vs v us Q I rx rv h
  obtain ⟨l,b,xs,zs,rfl,rfl,hH,hB,hz,q⟩:=h
  cases rx
  obtain ⟨u,rfl,ru⟩:=rv.one
  cases ru
  obtain ⟨z,its,n,r,hl,e⟩:=I.aaj hH
  have fin:∀ its2:List Value,yh zs its2→L2.Inv X pins σ (upd H l (.lst (xs++zs))) { s with heap:=s.heap.update l (Obj.mapSeq fun x=>x++its2.toArray),toks:=s.toks }:=fun its2 r2 =>
    I.aaz (its':=its++its2) hH e (by simp) (r.append r2) (by rw [List.length_append]; exact hz)
  have hlong:∀ its2:List Value,yh zs its2→¬ (!its.toArray.isEmpty&&Builtin.List.listTooLong (its.toArray.size+its2.toArray.size))=true:=fun its2 r2=>by
    have hsz:its.toArray.size+its2.toArray.size≤sizeLine:=by rw [List.size_toArray,List.size_toArray,← hl,← r2.length]; exact hz
    rw [a4i hsz,Bool.and_false]
    exact Bool.false_ne_true
  rcases hB with hB | hB
  · obtain ⟨its2,r2,⟨⟨cls2,dd2,data2,sl2⟩,n2,ho2,hc2,hd02,hd2⟩,_⟩:=I.list hB
    simp only at hc2 hd2
    subst hc2 hd2
    refine call_meets F.slot_list_extend ⟨_,e,rfl⟩ F.entry_list_extend (F.args_list_extend_2 _ _)
      (Rt l b its.toArray its2.toArray n n2 dd2 sl2 (hlong its2 r2) (by rw [List.size_toArray,← hl]; omega) (by rw [List.size_toArray,List.size_toArray,← hl,← r2.length]; omega)) ⟨e,ho2,?_⟩
    exact ⟨.non,_,fin its2 r2,rfl,q⟩
  · obtain ⟨its2,r2,⟨⟨cls2,dd2,data2,sl2⟩,ho2,hc2,n2,hd2⟩,_⟩:=I.tuple hB
    simp only at hc2 hd2
    subst hc2 hd2
    refine call_meets F.slot_list_extend ⟨_,e,rfl⟩ F.entry_list_extend (F.args_list_extend_2 _ _)
      (Pq l b its.toArray its2.toArray n n2 dd2 sl2 (hlong its2 r2) (by rw [List.size_toArray,← hl]; omega) (by rw [List.size_toArray,List.size_toArray,← hl,← r2.length]; omega)) ⟨e,ho2,?_⟩
    exact ⟨.non,_,fin its2 r2,rfl,q⟩
theorem Lw (i:Nat) {st:Stmt} (h:PS X st (a3q (tBM X.K "list" (Va X.K) (a1r i) (Ws (tOf X.K B m) a7y)))):PS X st (sOf X.K B (cu i m)):=h.imp fun D σ H z9=>by
  obtain ⟨st,ps,S,as,R,fl,st',e,q⟩:=z9
  obtain ⟨hd,t,s1,xs,ys,e1,ey,e2,hl,rfl,rfl⟩:=Uc e
  obtain ⟨xs0,f0,e0⟩:=Rk hd
  obtain ⟨p0,vs0,s0,q0,_⟩:=R.listAt e0
  refine ⟨_,s0,.inl ⟨rfl,_,q0⟩,st,ps,S,as,R,t,s1,e1,fun v H1 S1 as1 R1=>?_⟩
  obtain ⟨w,h1,_,h3⟩:=R1.slots i _ true e2
  rw [s0] at h1; cases h1
  obtain ⟨p',ep,ow⟩:=h3 rfl
  cases ep
  obtain ⟨vs,hH,h4⟩:=ow.own
  have top:=R1.top
  cases top with
  | @tup b zs _ g1 g2 =>
    simp only [j4] at ey; cases ey
    exact ⟨p0,b,vs,zs,rfl,rfl,hH,.inr (uy R1.sub g1),by rw [h4.length,g2.length]; exact Nat.le_trans (Nat.le_of_lt hl) yc,q _ _ S1 as1 (R1.drop.turn e2 s0 ⟨_,jh,h4.append g2⟩)⟩
  | @lst b zs _ g1 g2 =>
    simp only [j4] at ey; cases ey
    exact ⟨p0,b,vs,zs,rfl,rfl,hH,.inl (ou R1.sub g1),by rw [h4.length,g2.length]; exact Nat.le_trans (Nat.le_of_lt hl) yc,q _ _ S1 as1 (R1.drop.turn e2 s0 ⟨_,jh,h4.append g2⟩)⟩
  | _=>simp only [j4,reduceCtorEq] at ey
end
end C
end
noncomputable section
set_option linter.all false
set_option maxRecDepth 100000
set_option maxHeartbeats 4000002
set_option autoImplicit false
namespace C
open PySem PySem.Spec PyProof.Rows L2
theorem Rel.newObj {K:PySem.W.Frag} {B:Bas} {st:Sta} {σ:L2.St} {H S:Hp} {ps:List (V × T)} {as:List Addr} {p:Addr} {ob:HO} {so:SO} (r:Rel K B st σ H ps S as) (hp:H p=none) (h:Zu K S (as++[p]) (upd H p ob) p so) :
    Rel K B { st with sto:=st.sto++[so] } σ (upd H p ob) ((.ref p,.obj st.sto.length)::ps) S (as++[p]):=by
  obtain ⟨bD,sD,nD,no⟩:=r.fresh hp
  have mo:∃ l,as++[p]=as++l:=⟨[p],rfl⟩
  have other:∀ q,q≠p→H q=upd H p ob q:=fun q n=>(ji n).symm
  refine Rel.push (st:={ st with sto:=st.sto++[so] }) (H:=upd H p ob) (v:=.ref p) (t:=.obj st.sto.length) ⟨fun b u e=>?_,⟨r.grow.same,?_,fun q o a b c=>?_⟩,fun i t f e=>?_,r.apart,⟨?_,?_,fun n so2 e=>?_⟩,fun q hq=>(r.pend q hq).mono (yq.refl _) mo,r.len⟩ (.obj ?_)
  · rw [ji (fun z=>by subst z; rw [sD] at e; cases e)]; exact r.sub _ _ e
  · obtain ⟨l,e⟩:=r.grow.more
    exact ⟨l++[p],by rw [e,List.append_assoc]⟩
  · obtain ⟨x,y,z⟩:=r.grow.keep q o a b c
    have n:q≠p:=fun w=>by subst w; rw [bD] at a; cases a
    refine ⟨by rw [ji n]; exact x,y,fun m=>?_⟩
    rcases List.mem_append.mp m with m | m
    · exact z m
    · exact n (List.mem_singleton.mp m)
  · obtain ⟨v,h1,h2,h3⟩:=r.slots i t f e
    refine ⟨v,h1,fun z=>(h2 z).mono (yq.refl _) mo,fun z=>?_⟩
    obtain ⟨q,rfl,o⟩:=h3 z
    have n:q≠p:=fun w=>by subst w; subst z; exact no i t e h1
    refine ⟨q,rfl,o.own.more (yq.refl _) mo (other q n),o.out,fun m=>?_,o.new⟩
    rcases List.mem_append.mp m with m | m
    · exact o.nas m
    · exact n (List.mem_singleton.mp m)
  · show (as++[p]).length=(st.sto++[so]).length
    rw [List.length_append,List.length_append,r.sto.len]; rfl
  · refine List.nodup_append.mpr ⟨r.sto.nd,by simp,fun a ha b hb=>?_⟩
    rw [List.mem_singleton.mp hb]
    intro z; subst z; exact nD ha
  · have e:(st.sto++[so])[n]? = some so2:=e
    by_cases hn:n<st.sto.length
    · rw [List.getElem?_append_left hn] at e
      obtain ⟨a,h1,h2,h3⟩:=r.sto.at' n so2 e
      have na:a≠p:=fun z=>by subst z; exact nD (List.mem_of_getElem? h1)
      refine ⟨a,a02 h1,h2,?_⟩
      cases so2 with
      | dic ts=>obtain ⟨vs,x,y⟩:=h3; exact ⟨vs,by rw [ji na]; exact x,y.mono (yq.refl _) mo⟩
      | lst ts=>obtain ⟨vs,x,y⟩:=h3; exact ⟨vs,by rw [ji na]; exact x,y.mono (yq.refl _) mo⟩
      | ins _ _=>exact h3.elim
    · rw [List.getElem?_append_right (Nat.le_of_not_lt hn)] at e
      have hn0:n - st.sto.length=0:=by
        have:=(List.getElem?_eq_some_iff.mp e).1
        simp at this; omega
      rw [hn0] at e; cases e
      have hne:n=as.length:=by rw [r.sto.len]; omega
      subst hne
      exact ⟨p,by rw [List.getElem?_append_right (Nat.le_refl _),Nat.sub_self]; rfl,sD,h⟩
  · rw [← r.sto.len,List.getElem?_append_right (Nat.le_refl _),Nat.sub_self]; rfl
noncomputable def PN (X:Cx) (e:Expr) (N:L2.St→V→Prop):Prop:=PE X e (fun σ H Q=>∃ v,N σ v∧Q v H)
noncomputable def MN (K:PySem.W.Frag) (m:M T) (N:L2.St→V→Prop):Prop:=∀ (B:Bas) (st:Sta) (σ:L2.St) (H:Hp) (ps:List (V × T)) (S:Hp) (as:List Addr) (t:T) (st':Sta),Rel K B st σ H ps S as→m st=some (t,st')→st'=st∧∃ v,N σ v∧Rep K S as v t
structure PM (X:Cx) (e:Expr) (m:M T) (N:L2.St→V→Prop):Prop where
  p:PN X e N
  m:MN X.K m N
noncomputable section
variable {X:Cx} {B:Bas} {a b e e1 e2:Expr} {m m1 m2:M T} {N N1 N2:L2.St→V→Prop} {pos p:Pos}
end
end C
end
noncomputable section
set_option linter.all false
set_option autoImplicit false
namespace C
open PySem PySem.Spec PyProof.Rows L2
inductive a2u:List Expr→List Str→Prop where
  | nil:a2u [] []
  | cons {x:Str} {k:Nat} {q:Pos} {es:List Expr} {xs:List Str}:a2u es xs→a2u (.Constant (.str x) k q::es) (x::xs)
theorem Zw {X:Cx} {B:Bas}:∀ {es:List Expr} {xs:List Str},a2u es xs→PA X es (aOf X.K B (j8 xs))
  | _,_,.nil=>dz
  | _,_,.cons h=>aj sy (Zw h)
theorem Wf:∀ (xs:List Str) (st:Sta) (ts:List T) (st':Sta),j8 xs st=some (ts,st')→ts.length≤xs.length
  | [],st,ts,st',e=>je st ts st' e
  | _::xs,st,ts,st',e=>dh (Wf xs) st ts st' e
noncomputable section
variable {X:Cx} {B:Bas} {a b c e o k:Expr} {m m1 m2:M T} {pos p p2:Pos}
theorem a03 (i:Nat) (hm:X.mg "len" = none) {es:Expr} (hg:Gl X "len") (h:PE X es (a1r i)) (he:starEach [es] X.env=(false,eval es X.env)::starEach [] X.env:=by rfl) (hpl:(backTo pos (starEach [] X.env)).any (·.1)=false:=by rfl) :
    PE X (.Call (.Name "len" p) [es] [] pos) (tOf X.K B (Gz i)):=by
  have hc:Hj X (.builtin "len") (fun xs H Q=>∃ q,xs=[.ref q]∧((∃ ys,SqL X.K H q ys∧Q (.int ys.length) H)∨(∃ kvs,Rd H q (.dK kvs)∧Q (.int kvs.length) H))):=by
    intro pins s σ H xs us Q I rs z8
    obtain ⟨q,ex,h⟩:=z8
    rcases h with ⟨ys,h1,h2⟩ | ⟨kvs,h1,h2⟩
    · exact Ea pins s σ H xs us Q I rs ⟨q,ys,ex,.inl h1,h2⟩
    · subst ex
      obtain ⟨u,rfl,ru⟩:=rs.one
      cases ru
      exact a9s I h1 fun t s' I'=>⟨.int kvs.length,H,I',⟨t,rfl⟩,h2⟩
  refine (Ca hc hg hm PySem.boot_len (vp h Bd he) (by decide) (by decide) he hpl).imp fun σ H Q z0=>?_
  obtain ⟨st,ps,S,as,R,t,st',e,q⟩:=z0
  obtain ⟨rfl,h⟩:=Tr e
  rcases h with ⟨xs,f,e1,rfl⟩ | ⟨xs,f,e1,rfl⟩
  · obtain ⟨p0,vs,s0,h1,h2⟩:=R.listAt e1
    exact ⟨_,s0,p0,rfl,.inl ⟨vs,h1,by rw [h2.length]; exact q _ H S as (R.push (.int _))⟩⟩
  · obtain ⟨p0,vs,s0,h1,h2⟩:=R.dictAt e1
    exact ⟨_,s0,p0,rfl,.inr ⟨vs,h1,by rw [h2.length]; exact q _ H S as (R.push (.int _))⟩⟩
end
end C
end
noncomputable section
set_option linter.all false
set_option autoImplicit false
namespace C
open PySem
mutual
theorem Fd:∀ (t:T) {d:PyData},dat t=some d→d.canLay0=true
  | .non,_,h=>by simp only [dat] at h; cases h; simp only [PyData.canLay0]
  | .bl b,_,h=>by simp only [dat] at h; cases h; simp only [PyData.canLay0]
  | .int i,_,h=>by simp only [dat] at h; cases h; simp only [PyData.canLay0]
  | .str x,_,h=>by
    simp only [dat] at h
    split at h
    · rename_i hx; cases h; exact hx
    · cases h
  | .tup xs,_,h=>by
    simp only [dat] at h
    obtain ⟨l,e1,e2⟩:=Option.map_eq_some_iff.mp h
    subst e2
    simp only [PyData.canLay0]
    exact O6 xs e1
  | .lst xs,_,h=>by
    simp only [dat] at h
    obtain ⟨l,e1,e2⟩:=Option.map_eq_some_iff.mp h
    subst e2
    simp only [PyData.canLay0]
    exact O6 xs e1
  | .dic _,_,h=>by simp only [dat] at h; cases h
  | .obj _,_,h=>by simp only [dat] at h; cases h
theorem O6:∀ (ts:List T) {l:List PyData},Px ts=some l→PyData.canLayAll0 l=true
  | [],_,h=>by simp only [Px] at h; cases h; simp only [PyData.canLayAll0]
  | x::r,_,h=>by
    simp only [Px] at h
    split at h
    · rename_i a ea
      obtain ⟨l,e1,e2⟩:=Option.map_eq_some_iff.mp h
      subst e2
      simp only [PyData.canLayAll0]
      rw [Fd x ea,O6 r e1]; rfl
    · cases h
end
theorem a1l {x:T} {r:List T} {l:List PyData} (h:Px (x::r)=some l):∃ a l',dat x=some a∧Px r=some l'∧l=a::l':=by
  simp only [Px] at h
  split at h
  · rename_i a ea
    obtain ⟨l,e1,e2⟩:=Option.map_eq_some_iff.mp h
    exact ⟨a,l,ea,e1,e2.symm⟩
  · cases h
theorem Sx {t u:T} {b:Bool} (h:eqD t u=some b):∃ x y,dat t=some x∧dat u=some y∧x.depth≤40∧b=PyData.eqv x y:=by
  unfold eqD at h
  split at h
  · rename_i x ex
    split at h
    · rename_i y ey
      split at h
      · rename_i hd; cases h; exact ⟨x,y,ex,ey,hd,rfl⟩
      · cases h
    · cases h
  · cases h
theorem a74 {t u:T} {b:Bool} (h:eqT t u=some b):(∃ x y,t=.dic x∧u=.dic y∧((x.length=y.length∧a81 x y=some b)∨(x.length≠y.length∧b=false)))∨eqD t u=some b:=by
  unfold eqT at h
  split at h
  · split at h
    · rename_i hl; exact .inl ⟨_,_,rfl,rfl,.inl ⟨hl,h⟩⟩
    · rename_i hl; cases h; exact .inl ⟨_,_,rfl,rfl,.inr ⟨hl,rfl⟩⟩
  · exact .inr h
end C
end
noncomputable section
set_option linter.all false
set_option maxRecDepth 100000
set_option maxHeartbeats 4000002
set_option autoImplicit false
namespace C
open PySem PySem.Spec PyProof.Rows L2
noncomputable section
variable {X:Cx} {pins:List (Addr × Obj)} {σ:L2.St} {H S:Hp} {s:Shared} {as:List Addr}
mutual
theorem Rep.reads (I:L2.Inv X pins σ H s) (sub:yq S H):∀ {v:V} {t:T},Rep X.K S as v t→∀ {d:PyData} {u:Value},dat t=some d→Dc v u→∃ bs,Reads s.heap u d bs
  | _,_,.non,_,_,e,r=>by simp only [dat] at e; cases e; cases r; exact ⟨_,.none⟩
  | _,_,.bl b,_,_,e,r=>by simp only [dat] at e; cases e; cases r; exact ⟨_,.bool b⟩
  | _,_,.int i,_,_,e,r=>by simp only [dat] at e; cases e; obtain ⟨t,rfl⟩:=r; exact ⟨_,.int i t⟩
  | _,_,.str x,_,_,e,r=>by
    simp only [dat] at e
    split at e
    · cases e; obtain ⟨t,rfl⟩:=r; exact ⟨_,.str x t⟩
    · cases e
  | _,_,.tup h q,_,_,e,r=>by
    simp only [dat] at e
    obtain ⟨l,e1,e2⟩:=Option.map_eq_some_iff.mp e
    subst e2
    cases r
    obtain ⟨its,rv,⟨o,h1,h2,n,h3⟩,_⟩:=I.tuple (uy sub h)
    obtain ⟨bs,rb⟩:=vh.reads I sub q e1 rv
    exact ⟨_,.tuple h1 h2 h3 rb⟩
  | _,_,.lst h q,_,_,e,r=>by
    simp only [dat] at e
    obtain ⟨l,e1,e2⟩:=Option.map_eq_some_iff.mp e
    subst e2
    cases r
    obtain ⟨its,rv,⟨o,n,h1,h2,_,h3⟩,_⟩:=I.list (ou sub h)
    obtain ⟨bs,rb⟩:=vh.reads I sub q e1 rv
    exact ⟨_,.list h1 h2 h3 rb⟩
  | _,_,.dic _ _,_,_,e,_=>by simp only [dat] at e; cases e
  | _,_,.obj _,_,_,e,_=>by simp only [dat] at e; cases e
theorem vh.reads (I:L2.Inv X pins σ H s) (sub:yq S H):∀ {vs:List V} {ts:List T},vh X.K S as vs ts→∀ {ds:List PyData} {us:List Value},Px ts=some ds→yh vs us→∃ bs,ReadsAll s.heap us ds bs
  | _,_,.nil,_,_,e,r=>by simp only [Px] at e; cases e; cases r; exact ⟨_,.nil⟩
  | _,_,.cons h q,_,_,e,r=>by
    obtain ⟨a,l,e1,e2,e3⟩:=a1l e
    subst e3
    cases r with
    | cons r1 r2 =>
      obtain ⟨b1,x1⟩:=Rep.reads I sub h e1 r1
      obtain ⟨b2,x2⟩:=vh.reads I sub q e2 r2
      exact ⟨_,.cons x1 x2⟩
end
theorem a5p (I:L2.Inv X pins σ H s) (sub:yq S H) {x y:V} {t u:T} {v w:Value} {b:Bool} {A:Around} (hx:Rep X.K S as x t) (hy:Rep X.K S as y u) (rx:Dc x v) (ry:Dc y w) (e:eqD t u=some b) (hu:A.units+40<cLine):SeqAt.EqAt A s v w b:=by
  obtain ⟨dx,dy,e1,e2,hd,rfl⟩:=Sx e
  obtain ⟨b1,x1⟩:=hx.reads I sub e1 rx
  obtain ⟨b2,x2⟩:=hy.reads I sub e2 ry
  exact SeqAt.eqAt_reads dx dy A s v w b1 b2 x1 x2 (Fd _ e1) (Fd _ e2) (by have:=Nat.min_le_left dx.depth dy.depth; omega)
theorem a0n (I:L2.Inv X pins σ H s) (sub:yq S H) {A:Around} (hu:A.units+40<cLine) {kb:List (L2.Key × V)} {ub:List (L2.Key × T)} {wb:List (L2.Key × Value)} (rb:Et X.K S as kb ub) (vb:KV kb wb) :
    ∀ {ka:List (L2.Key × V)} {ua:List (L2.Key × T)} {wa:List (L2.Key × Value)} {r:Bool},Et X.K S as ka ua→KV ka wa→a81 ua ub=some r→PySem.W.KeqHits A s wb wa r
  | _,_,_,_,.nil,va,e=>by
    simp only [a81] at e; cases e
    cases va
    exact .nil
  | _,_,_,_,.cons (k:=k) h q,va,e=>by
    simp only [a81] at e
    cases va with
    | @cons _ p2 _ _ hp hr =>
      obtain ⟨pk,pv⟩:=p2
      obtain ⟨ek,rv⟩:=hp
      dsimp only at ek rv
      subst ek
      rcases rb.get k with ⟨z,t',a1,a2,a3⟩ | ⟨a1,a2⟩
      · rw [a2] at e
        dsimp only at e
        have rel:=KV.val vb k
        rw [a1] at rel
        obtain ⟨w',hw,rw'⟩:=Ry.some_of rel
        split at e
        · rename_i eb he
          obtain ⟨b',e1,e2⟩:=Option.map_eq_some_iff.mp e
          subst e2
          exact .hit hw (a5p I sub h a3 rv rw' he hu) (a0n I sub hu rb vb q hr e1)
        · cases e
      · rw [a2] at e
        cases e
        have rel:=KV.val vb k
        rw [a1] at rel
        exact .miss (Ry.none_of rel)
end
noncomputable section
variable {X:Cx}
theorem Qf {op:CmpOp} {neg:Bool} (hop:(op=.Eq∧neg=false)∨(op=.NotEq∧neg=true)) {g:T→T→Option T} (hg:∀ t u w,g t u=some w→∃ b,eqT t u=some b∧w=.bl (xor neg b)) (hu:X.A.units+64<cLine):OpT X (compareOp op) g:=by
  intro pins s σ H x y v u Q I rx ry z8
  obtain ⟨S,as,t,t2,w,sub,ht,hu2,hf,q⟩:=z8
  obtain ⟨b,e,rfl⟩:=hg _ _ _ hf
  have fin:EP X pins σ Q (.bool (xor neg b)) s:=⟨.bl (xor neg b),H,I,rfl,q _ H S (Ext.refl sub) (.bl _)⟩
  rcases a74 e with ⟨xs,ys,rfl,rfl,hd⟩ | he
  · cases ht with
    | @dic a kvs _ g1 g2 =>
      cases hu2 with
      | @dic a' kvs' _ k1 k2 =>
        cases rx
        cases ry
        obtain ⟨z,hs,vs,rel,dd⟩:=P0 I.hok (Dp sub g1)
        obtain ⟨z',hs',vs',rel',dd'⟩:=P0 I.hok (Dp sub k1)
        have l1:vs.length=xs.length:=by rw [← rel.length]; exact g2.length
        have l2:vs'.length=ys.length:=by rw [← rel'.length]; exact k2.length
        have hu1:X.A.in1.units+40<cLine:=by show X.A.units+1+40<cLine; omega
        rcases hd with ⟨hl,eb⟩ | ⟨hl,rfl⟩
        · have hits:vs.length=vs'.length→PySem.W.KeqHits X.A.in1 s vs' vs b:=fun _=>a0n I sub hu1 k2 rel' g2 rel eb
          have el:(vs.length==vs'.length)=true:=by rw [l1,l2,hl]; exact beq_self_eq_true _
          rcases hop with ⟨rfl,rfl⟩ | ⟨rfl,rfl⟩
          · refine PySem.W.keq_eq hs hs' dd dd' (by omega) hits ?_
            rw [el]; simpa using fin
          · refine PySem.W.keq_ne hs hs' dd dd' (by omega) hits ?_
            rw [el]; simpa using fin
        · have hits:vs.length=vs'.length→PySem.W.KeqHits X.A.in1 s vs' vs true:=fun h=>absurd (by rw [← l1,← l2]; exact h) hl
          have el:(vs.length==vs'.length)=false:=by rw [l1,l2]; exact beq_eq_false_iff_ne.mpr hl
          rcases hop with ⟨rfl,rfl⟩ | ⟨rfl,rfl⟩
          · refine PySem.W.keq_eq hs hs' dd dd' (by omega) hits ?_
            rw [el]; simpa using fin
          · refine PySem.W.keq_ne hs hs' dd dd' (by omega) hits ?_
            rw [el]; simpa using fin
  · obtain ⟨dx,dy,e1,e2,hd,rfl⟩:=Sx he
    obtain ⟨b1,x1⟩:=ht.reads I sub e1 rx
    obtain ⟨b2,x2⟩:=hu2.reads I sub e2 ry
    have hm:X.A.units+min dx.depth dy.depth<cLine:=by have:=Nat.min_le_left dx.depth dy.depth; omega
    rcases hop with ⟨rfl,rfl⟩ | ⟨rfl,rfl⟩
    · exact SeqAt.compareEq_reads x1 x2 (Fd _ e1) (Fd _ e2) hm (by simpa using fin)
    · exact SeqAt.compareNe_reads x1 x2 (Fd _ e1) (Fd _ e2) hm (by simpa using fin)
theorem zx (hu:X.A.units+64<cLine):OpT X (compareOp .Eq) eqO:=Qf (.inl ⟨rfl,rfl⟩) (fun t u w h=>by
  unfold eqO at h
  split at h
  · rename_i b e; cases h; exact ⟨b,e,by simp⟩
  · cases h) hu
theorem Yj (hu:X.A.units+64<cLine):OpT X (compareOp .NotEq) neO:=Qf (.inr ⟨rfl,rfl⟩) (fun t u w h=>by
  unfold neO at h
  split at h
  · rename_i b e; cases h; exact ⟨b,e,by simp⟩
  · cases h) hu
open Classical in
noncomputable def a5v (h:Heap) (dx:PyData) (y:Value):Bool:=if e:∃ d bs,Reads h y d bs∧d.canLay0=true then PyData.eqv (Classical.choose e) dx else false
theorem a65 {h:Heap} {dx d:PyData} {y:Value} {bs:List Addr} (r:Reads h y d bs) (l:d.canLay0=true):a5v h dx y=PyData.eqv d dx:=by
  have e:∃ d bs,Reads h y d bs∧d.canLay0=true:=⟨d,bs,r,l⟩
  unfold a5v
  rw [dif_pos e]
  obtain ⟨bs',r',l'⟩:=Classical.choose_spec e
  rw [SeqAt.Reads.unique _ _ _ _ _ l' r' r]
theorem Za {pins:List (Addr × Obj)} {σ:L2.St} {H S:Hp} {s:Shared} {as:List Addr} {A:Around} (I:L2.Inv X pins σ H s) (sub:yq S H) (hu:A.units+40<cLine) {x:V} {t:T} {v:Value} {dx:PyData} (hx:Rep X.K S as x t) (rx:Dc x v) (ex:dat t=some dx) :
    ∀ {vs:List V} {ts:List T} {us:List Value} {b:Bool},vh X.K S as vs ts→yh vs us→inL t ts=some b→(∀ y∈us,SeqAt.EqAt A s y v (a5v s.heap dx y))∧us.any (a5v s.heap dx)=b
  | _,_,_,_,.nil,r,e=>by simp only [inL] at e; cases e; cases r; exact ⟨fun y h=>(nomatch h),rfl⟩
  | _,_,_,_,.cons h q,r,e=>by
    simp only [inL] at e
    cases r with
    | @cons _ u1 _ us1 r1 r2 =>
      split at e
      · rename_i eb he
        obtain ⟨b',e1,e2⟩:=Option.map_eq_some_iff.mp e
        subst e2
        obtain ⟨i1,i2⟩:=Za I sub hu hx rx ex q r2 e1
        obtain ⟨dy,dx',f1,f2,hd,rfl⟩:=Sx he
        rw [ex] at f2; cases f2
        obtain ⟨b1,x1⟩:=h.reads I sub f1 r1
        have hb:=a65 (dx:=dx) x1 (Fd _ f1)
        refine ⟨fun y hy=>?_,by rw [List.any_cons,i2,hb]⟩
        rcases List.mem_cons.mp hy with rfl | hy -- here
        · rw [hb]; exact a5p I sub h hx r1 rx he hu
        · exact i1 y hy
      · cases e
theorem Z8 {t u w:T} (h:inT t u=some w):(∃ ys b,(u=.tup ys∨u=.lst ys)∧inL t ys=some b∧(dat t).isSome=true∧w=.bl b)∨(∃ kvs q,u=.dic kvs∧K4 t=some q∧w=.bl (G9 q kvs).isSome):=by
  unfold inT at h
  split at h
  · obtain ⟨q,e1,e2⟩:=Option.map_eq_some_iff.mp h
    exact .inr ⟨_,q,rfl,e1,e2.symm⟩
  · split at h
    · rename_i hd
      split at h
      · obtain ⟨b,e1,e2⟩:=Option.map_eq_some_iff.mp h; exact .inl ⟨_,b,.inl rfl,e1,hd,e2.symm⟩
      · obtain ⟨b,e1,e2⟩:=Option.map_eq_some_iff.mp h; exact .inl ⟨_,b,.inr rfl,e1,hd,e2.symm⟩
      · cases h
    · cases h
theorem Qe {op:CmpOp} {neg:Bool} (hop:(op=.In∧neg=false)∨(op=.NotIn∧neg=true)) {g:T→T→Option T} (hg:∀ t u w,g t u=some w→∃ w',inT t u=some w'∧∃ b,w'=.bl b∧w=.bl (xor neg b)) (hu:X.A.units+64<cLine):OpT X (compareOp op) g:=by
  intro pins s σ H x y v u Q I rx ry z8
  obtain ⟨S,as,t,t2,w,sub,ht,hu2,hf,q⟩:=z8
  obtain ⟨w',ei,b0,rfl,rfl⟩:=hg _ _ _ hf
  rcases Z8 ei with ⟨ys,b,hy,e,hdt,eb⟩ | ⟨kvs,qk,rfl,ek,eb⟩
  · cases eb
    obtain ⟨dx,ex⟩:=Option.isSome_iff_exists.mp hdt
    have fin:EP X pins σ Q (.bool (xor neg b0)) s:=⟨.bl (xor neg b0),H,I,rfl,q _ H S (Ext.refl sub) (.bl _)⟩
    have hu1:X.A.in1.units+40<cLine:=by show X.A.units+1+40<cLine; omega
    rcases hy with rfl | rfl
    · cases hu2 with
      | @tup a vs _ g1 g2 =>
        cases ry
        obtain ⟨its,r,p,hz⟩:=I.tuple (uy sub g1)
        obtain ⟨i1,i2⟩:=Za I sub hu1 ht rx ex g2 r e
        have he:∀ y,y∈its.toArray→SeqAt.EqAt X.A.in1 s y v (a5v s.heap dx y):=fun y hy=>i1 y (by simpa using hy)
        have ha:its.toArray.any (a5v s.heap dx)=b0:=by rw [← i2]; simp
        rcases hop with ⟨rfl,rfl⟩ | ⟨rfl,rfl⟩
        · exact SeqAt.in_tupleAt _ (show s.heap.IsTuple a its.toArray from p) he (by rw [ha]; simpa using fin)
        · exact SeqAt.notIn_tupleAt _ (show s.heap.IsTuple a its.toArray from p) he (by rw [ha]; simpa using fin)
    · cases hu2 with
      | @lst a vs _ g1 g2 =>
        cases ry
        obtain ⟨its,r,p,hz⟩:=I.list (ou sub g1)
        obtain ⟨i1,i2⟩:=Za I sub hu1 ht rx ex g2 r e
        have he:∀ y,y∈its.toArray→SeqAt.EqAt X.A.in1 s y v (a5v s.heap dx y):=fun y hy=>i1 y (by simpa using hy)
        have ha:its.toArray.any (a5v s.heap dx)=b0:=by rw [← i2]; simp
        rcases hop with ⟨rfl,rfl⟩ | ⟨rfl,rfl⟩
        · exact SeqAt.in_listAt _ p.isList he (by rw [ha]; simpa using fin)
        · exact SeqAt.notIn_listAt _ p.isList he (by rw [ha]; simpa using fin)
  · cases eb
    cases hu2 with
    | @dic a kv _ g1 g2 =>
      cases ry
      have ey:=a2c ht ek
      subst ey
      have hs:(G9 qk kvs).isSome=(U4 kv qk).isSome:=by
        rcases g2.get qk with ⟨z,t',a1,a2,_⟩ | ⟨a1,a2⟩
        · simp [a1,a2]
        · simp [a1,a2]
      rw [hs] at q
      have gd:a1q H a (kV qk) (U4 kv qk):=.inl ⟨kv,qk,Dp sub g1,rfl,rfl⟩
      rcases hop with ⟨rfl,rfl⟩ | ⟨rfl,rfl⟩
      · exact ad0 (by omega) I gd rx fun s' I'=>⟨.bl _,H,I',rfl,by simpa using q _ H S (Ext.refl sub) (.bl _)⟩
      · exact a7c (by omega) I gd rx fun s' I'=>⟨.bl _,H,I',rfl,by simpa using q _ H S (Ext.refl sub) (.bl _)⟩
theorem Hy (hu:X.A.units+64<cLine):OpT X (compareOp .In) inT:=Qe (.inl ⟨rfl,rfl⟩) (fun t u w h=>by
  rcases Z8 h with ⟨ys,b,h1,h2,h3,rfl⟩ | ⟨kvs,q,rfl,h2,rfl⟩
  · exact ⟨_,h,b,rfl,by simp⟩
  · exact ⟨_,h,_,rfl,by simp⟩) hu
theorem Z7 (hu:X.A.units+64<cLine):OpT X (compareOp .NotIn) Pk:=Qe (.inr ⟨rfl,rfl⟩) (fun t u w h=>by
  unfold Pk at h
  split at h
  · rename_i b e
    cases h
    exact ⟨_,e,b,rfl,by simp⟩
  · cases h) hu
end
end C
end
noncomputable section
set_option linter.all false
set_option maxRecDepth 100000
set_option maxHeartbeats 4000002
set_option autoImplicit false
namespace C
open PySem PySem.Spec PyProof.Rows L2
noncomputable def aac (K:PySem.W.Frag) (ar:Nat) (F:Fn):Sp:=fun vs H Q _=>∃ S as sto ts t sto',yq S H∧Js K S as H sto∧vh K S as vs ts∧ts.length=ar∧F ts sto=some (t,sto') ∧
  ∀ p H' S' as',Y4 ⟨S,as,H⟩ S' as' H'→yq S' H'→Js K S' as' H' sto'→Lb K ⟨S,as,H⟩ S' as' H' p t→Q (.ref p) H'
inductive abr (K:PySem.W.Frag) (B:Bas) (s:S) (D:Ends) (σ:L2.St) (H:Hp):Prop
  | mk (st:Sta) (ps:List (V × T)) (S0:Hp) (as:List Addr) (R:Rel K B st σ H ps S0 as) (t:T) (st':Sta) (e:s st=some (.ret t,st')) (q:∀ p σ' H' S' as',Rel K B st' σ' H' ps S' as'→Lb K B S' as' H' p t→D.rt (.ref p) H')
theorem a7r {g:G} {m:M T} {s s':Sta} {fl:Flow} (h:sGo g m s=some (fl,s')):∃ t s1,m s=some (t,s1)∧g t s1=some s'∧fl=.next:=by
  unfold sGo at h
  split at h
  · rename_i t s1 e
    split at h
    · rename_i s2 e2; cases h; exact ⟨t,s1,e,e2,rfl⟩
    · cases h
  · cases h
noncomputable def a85 (v:S):Prop:=∀ s s',v s≠some (.next,s')
theorem Zn (m:M T):a85 (jj m):=fun s s' h=>by
  unfold jj at h
  split at h <;> cases h
noncomputable section
variable {X:Cx} {B:Bas} {a b c e:Expr} {m m1 m2:M T} {pos p:Pos} {u v:S} {es:List Expr} {ms:M (List T)} {k n:Nat} {f:Addr} {fd:FuncData} {pn:List Str} {F:Fn} {x:Str}
theorem a4l (he:PE X e (fOf X.K B m)):PSs X [.Return (some e) pos] (abr X.K B (jj m)):=(Yt (a5e he)).imp fun D σ H z9=>by
  obtain ⟨st,ps,S,as,R,t,st',e,q⟩:=z9
  obtain ⟨t',e1,ef⟩:=Uv e
  cases ef
  exact ⟨st,ps,S,as,R,t,st',e1,fun p H' S' as' R' o _=>q p σ H' S' as' R' o⟩
theorem a9p {g:G} {s:Stmt} (h:PS X s (a5d (tOf X.K B m) (gOf X.K B g))):PS X s (sOf X.K B (sGo g m)):=h.imp fun D σ H z9=>by
  obtain ⟨st,ps,S,as,R,fl,st',e,q⟩:=z9
  obtain ⟨t,s1,e1,e2,rfl⟩:=a7r e
  exact ⟨st,ps,S,as,R,t,s1,e1,fun v H' S' as' R'=>⟨s1,ps,S',as',t,R',st',e2,fun σ' H'' S'' as'' R''=>q σ' H'' S'' as'' R''⟩⟩
end
noncomputable def Ld (P:Program) (w:World) (K:PySem.W.Frag) (mg:Str→Option Value) (base:Heap) (x:Str) (k:Nat) (ps:List Str) (F:Fn):Prop :=
  ∃ f fd,Dh P w K mg base CX0 k f fd ps (aac K ps.length F)∧Ph K fd ps []∧PySem.W.keepIn K (.ref f)=true∧mg x=some (.ref f)
theorem Ld.mono {P:Program} {w:World} {K:PySem.W.Frag} {mg:Str→Option Value} {base:Heap} {x:Str} {j k:Nat} {ps:List Str} {F:Fn} (d:Ld P w K mg base x j ps F) (h:j≤k):Ld P w K mg base x k ps F:=by
  obtain ⟨f,fd,h1,h2⟩:=d
  exact ⟨f,fd,h1.mono h,h2⟩
noncomputable section
variable {X:Cx} {B:Bas} {a b c e:Expr} {m m1 m2:M T} {pos p:Pos} {es:List Expr} {ms:M (List T)} {n:Nat} {pn:List Str} {F:Fn} {x:Str}
theorem a4s (D:Ld X.prog X.w X.K X.mg X.base x n pn F) (hr:Jl n X.A) (hg:Gl X x)
    (ha:PA X (e::es) (aOf X.K B ms)) (hl:∀ st ts st',ms st=some (ts,st')→ts.length=pn.length) (hdb:(x==("__debug__" : Str))=false:=by decide)
    (he:starEach (e::es) X.env=(false,eval e X.env)::starEach es X.env:=by rfl) (hpl:(backTo pos (starEach es X.env)).any (·.1)=false:=by rfl) :
    PE X (.Call (.Name x p) (e::es) [] pos) (fOf X.K B (dw F ms)):=by
  obtain ⟨f,fd,G,hb,hk,hm⟩:=D
  refine (Yy G hr hg hm hk hb .nil a97 ha hdb he hpl).imp fun σ H Q z0=>?_
  obtain ⟨st,ps,S,as,R,t,st',e,q⟩:=z0
  obtain ⟨ts,s1,sto,e1,e2,rfl⟩:=Qx e
  refine ⟨st,ps,S,as,R,ts,s1,e1,fun vs H1 S1 as1 R1 rs=>?_⟩
  show aac X.K pn.length F (vs++[]) H1 Q E0
  rw [List.append_nil]
  exact ⟨S1,as1,s1.sto,ts,t,sto,R1.sub,R1.sto,rs,hl _ _ _ e1,e2,fun p H2 S2 as2 g sub so o=>by
    obtain ⟨b1,b2,b3,b4⟩:=R1.fresh o.new
    exact q p H2 S2 as2 (R1.call g sub so) ⟨o.own,o.out,o.nas,b1⟩ b4⟩
end
noncomputable section
variable {P:Program} {w:World} {K:PySem.W.Frag} {mg:Str→Option Value} {base:Heap}
theorem a3o {x qual:Str} {st:Stmt} {f:Addr} {fd:FuncData} {N ps:List Str} {k:Nat} {b:S} (F:Fun K x qual st f fd) (Sc:m6 N ps (gk st)) (hN:ps.length≤N.length) (he:a85 b)
    (hb:∀ (cdv:Value) (A:Around) (outer:List Env) (s:Shared) (H:Hp) (E:XK) (B:Bas),Jl k (A.deeper (envOfC qual (gk st) s.heap.objs.size f cdv)) →
      PSs (a5m CX0 P w K mg base N qual (gk st) f cdv A outer s H E).nox (jx st) (abr K B b)):Dh P w K mg base CX0 (k+1) f fd ps (aac K ps.length (iu N.length b)):=by
  refine F.ok Sc (fun vs H Q E h=>?_) fun cdv A outer s H vs Q E hr h=>?_
  · obtain ⟨S,as,sto,ts,t,sto',h1,h2,h3,h4,_⟩:=h
    rw [h3.length,h4]
  · obtain ⟨S,as,sto,ts,t,sto',h1,h2,h3,h4,h5,q⟩:=h
    refine ⟨_,hb cdv A outer s H E ⟨S,as,H⟩ hr,?_⟩
    have lv:vs.length=ps.length:=by rw [h3.length,h4]
    have R:Rel K ⟨S,as,H⟩ ⟨ts.map (fun t=>some (t,false))++List.replicate (N.length - ts.length) none,sto⟩ (L2.start N vs) H [] S as:=Rb h1 h2 h3 (by rw [h4]; exact hN)
    unfold iu at h5
    split at h5
    · rename_i t' s' e
      cases h5
      exact ⟨_,[],S,as,R,t,s',e,fun p σ' H' S' as' R' o=>q p H' S' as' R'.grow R'.sub R'.sto o⟩
    · rename_i s' e
      exact absurd e (he _ _)
    · cases h5
end
end C
end
noncomputable section
set_option linter.all false
set_option maxRecDepth 100000
set_option maxHeartbeats 4000002
set_option autoImplicit false
namespace C
open PySem PySem.Spec PyProof.Rows L2
noncomputable section
variable {X:Cx} {B:Bas} {a b c e:Expr} {m m1 m2:M T} {pos p p2 pos2:Pos}
theorem Ext.junk {S H:Hp} (h:yq S H) {p:Addr} (n:H p=none) (o:HO):Ext S H S (upd H p o) :=
  ⟨yq.refl _,yq.upd n o,fun b u q=>(yq.upd n o) _ _ (h _ _ q),fun _ q=>.inl q⟩
noncomputable def Y6:List Nat→TGs
  | []=>abw
  | i::is=>a95 (O4 i) (Y6 is)
theorem Wb {K:PySem.W.Frag} {H S:Hp} {as:List Addr} {ps:List (V × T)}:∀ (is:List Nat) {vs:List V} {xs:List T} {st:Sta} {σ:L2.St} {Q:L2.St→Hp→Prop},Rel K B st σ H ps S as→vh K S as vs xs→xs.length=is.length →
    (∀ σ',Rel K B ((is.zip xs).foldl (fun s p=>bw p.1 p.2 false s) st) σ' H ps S as→Q σ' H)→Y6 is vs σ H Q
  | [],_,_,_,_,_,R,.nil,_,q=>⟨rfl,q _ R⟩
  | i::is,_,_,_,_,_,R,.cons r rs,hl,q=>⟨_,_,rfl,Wb is (R.put (i:=i) r) rs (by simpa using hl) q⟩
  | [],_,_,_,_,_,_,.cons _ _,hl,_=>by simp at hl
  | _::_,_,_,_,_,_,_,.nil,hl,_=>by simp at hl
theorem Gm {is:List Nat} {tg:Expr} (h:PG X tg (ac0 X.K is.length (Y6 is))):PG X tg (gOf X.K B (jw is)):=fun pins s σ H x u Q I r z9=>h pins s σ H x u Q I r (by
  obtain ⟨st,ps,S,as,t,R,st',e,q⟩:=z9
  have top:=R.top
  cases t with
  | tup xs =>
    cases top with
    | @tup a vs _ g1 g2 =>
      simp only [jw] at e
      split at e
      · rename_i hl
        cases e
        exact ⟨a,vs,rfl,uy R.sub g1,by rw [g2.length]; exact hl,Wb is R.drop g2 hl fun σ' R'=>q σ' H S as R'⟩
      · cases e
  | _=>simp only [jw,reduceCtorEq] at e)
end
end C
namespace C
open PySem PySem.Spec PyProof.Rows L2
end C
end
noncomputable section
set_option autoImplicit false
namespace C
open PySem
noncomputable def Dd:Nat→M Bool→S→S
  | 0,_,_=>fun _=>none
  | n+1,c,b=>fun s=>match c s with
    | some (false,s1)=>some (.next,s1)
    | some (true,s1)=>match b s1 with
      | some (.next,s2)=>Dd n c b s2
      | some (.cont,s2)=>Dd n c b s2
      | some (.brk,s2)=>some (.next,s2)
      | some (.ret v,s2)=>some (.ret v,s2)
      | none=>none
    | none=>none
noncomputable def a80 (i j:Nat):S:=fun s=>match s.env[i]? with
  | some (some (.lst xs,true))=>match xs[xs.length - 1]? with
    | some t=>some (.next,bw j t false (bw i (.lst xs.dropLast) true s))
    | none=>none
  | _=>none
end C
end
noncomputable section
set_option autoImplicit false
namespace C
open PySem
noncomputable def a6x (xs ys:List T):List T:=(xs.zip ys).map fun p=>.tup [p.1,p.2]
noncomputable def sIx (n d:Nat):Option Int→Nat
  | none=>d
  | some v=>if v<0 then (v+(n:Int)).toNat else min v.toNat n
noncomputable def a82 (xs:List T) (lo hi:Option Int):List T:=(xs.drop (sIx xs.length 0 lo)).take (sIx xs.length xs.length hi - sIx xs.length 0 lo)
noncomputable def a2h (lo hi:Option Int):T→Option T
  | .lst xs=>some (.lst (a82 xs lo hi))
  | .tup xs=>if sIx xs.length 0 lo=0∧sIx xs.length xs.length hi=xs.length then none else some (.tup (a82 xs lo hi))
  | _=>none
noncomputable def K1 (e:M T):M (Option Int):=fun s=>match e s with
  | some (.int i,s1)=>some (some i,s1)
  | _=>none
noncomputable def Ij (m:M T) (lo hi:M (Option Int)):M T:=fun s=>match m s with
  | some (t,s1)=>match lo s1 with
    | some (l,s2)=>match hi s2 with
      | some (h,s3)=>match a2h l h t with
        | some u=>some (u,s3)
        | none=>none
      | none=>none
    | none=>none
  | none=>none
end C
end
noncomputable section
set_option linter.all false
set_option autoImplicit false
namespace C
open PySem
noncomputable def Kf (t u:T):Option T:=match j4 t,j4 u with
  | some xs,some ys=>if xs.length<lim∧ys.length<lim then (Bw (a6x xs ys)).map fun l=>.dic (l.foldl (fun d p=>Rw p.1 p.2 d) []) else none
  | _,_=>none
noncomputable def Q0 (xs:List T):List T:=xs.zipIdx.map fun p=>.tup [.int (p.2:Int),p.1]
noncomputable def Qi (a:M T):M (List T):=fun s=>match a s with
  | some (.lst xs,s1)=>if xs.length<lim then some (Q0 xs,s1) else none
  | _=>none
noncomputable def a9b (f:List (Key × T)→List T) (a:M T):M (List T):=fun s=>match a s with
  | some (.dic kvs,s1)=>if kvs.length<lim then some (f kvs,s1) else none
  | _=>none
noncomputable def Jr (kvs:List (Key × T)):List T:=kvs.map fun p=>.tup [Xj p.1,p.2]
noncomputable def Pz (a:M T):M (List T):=a9b Jr a
end C
end
noncomputable section
set_option linter.all false
set_option maxRecDepth 100000
set_option maxHeartbeats 4000002
set_option autoImplicit false
namespace C
open PySem PySem.Spec PyProof.Rows L2
noncomputable section
variable {X:Cx} {B:Bas} {a b c e lo hi:Expr} {m m1 m2 ml mh:M T} {pos p p2:Pos}
theorem Yq {K:PySem.W.Frag} {S:Hp} {as:List Addr} {x:V} {t:T} (r:Rep K S as x t):decide (x=V.non)=a2l t:=by
  cases r <;> rfl
theorem a2o {K:PySem.W.Frag} {S:Hp} {as:List Addr} {x:V} {t:T} (r:Rep K S as x t) (h:a2l t=true):x=.non:=by
  cases r <;> first | rfl | cases h
theorem Z6:OpT X (compareOp .IsNot) Nj:=by
  intro pins s σ H x y v u Q I rx ry z8
  obtain ⟨S,as,t,t2,w,sub,ht,hu2,hf,q⟩:=z8
  unfold Nj at hf
  split at hf
  · rename_i hn; cases hf
    exact a6p pins s σ H x y v u Q I rx ry ⟨a2o hu2 hn,by rw [Yq ht]; exact q _ H S (Ext.refl sub) (.bl _)⟩
  · cases hf
theorem vh.take {K:PySem.W.Frag} {S:Hp} {as:List Addr}:∀ (n:Nat) {vs:List V} {ts:List T},vh K S as vs ts→vh K S as (vs.take n) (ts.take n)
  | 0,_,_,_=>.nil
  | _+1,_,_,.nil=>.nil
  | n+1,_,_,.cons h r=>.cons h (vh.take n r)
end
end C
end
noncomputable section
set_option linter.all false
set_option maxRecDepth 100000
set_option maxHeartbeats 4000002
set_option autoImplicit false
namespace C
open PySem PySem.Spec PyProof.Rows L2
theorem Xi {o k:M T} {s s':Sta} {t:T} (h:Di o k s=some (t,s')):∃ n s1 i xs j,o s=some (.obj n,s1)∧k s1=some (.int i,s')∧s'.sto[n]? = some (.lst xs)∧ixI xs.length i=some j∧xs[j]? = some t:=by
  unfold Di at h
  split at h
  · rename_i n s1 e1
    split at h
    · rename_i i s2 e2
      split at h
      · rename_i xs e3
        split at h
        · rename_i t' e4
          cases h
          obtain ⟨j,e5,e6⟩:=Option.bind_eq_some_iff.mp e4
          exact ⟨n,s1,i,xs,j,e1,e2,e3,e5,e6⟩
        · cases h
      · cases h
    · cases h
  · cases h
theorem Ug {o:M T} {s s':Sta} {t:T} (h:G4 o s=some (t,s')):∃ n xs,o s=some (.obj n,s')∧s'.sto[n]? = some (.lst xs)∧t=.int xs.length:=by
  unfold G4 at h
  split at h
  · rename_i n s1 e1
    split at h
    · rename_i xs e3; cases h; exact ⟨n,xs,e1,e3,rfl⟩
    · cases h
  · cases h
theorem Ul {a:M (List T)} {s s':Sta} {t:T} (h:Eo a s=some (t,s')):∃ ts s1,a s=some (ts,s1)∧t=.obj s1.sto.length∧s' = { s1 with sto:=s1.sto++[.lst ts] }:=by
  unfold Eo at h
  split at h
  · rename_i ts s1 e1; cases h; exact ⟨ts,s1,e1,rfl,rfl⟩
  · cases h
theorem Xf {o k v:M T} {s s':Sta} {fl:Flow} (h:Gj o k v s=some (fl,s')) :
    ∃ t s1 n s2 i s3 xs j,v s=some (t,s1)∧o s1=some (.obj n,s2)∧k s2=some (.int i,s3)∧s3.sto[n]? = some (.lst xs)∧ixI xs.length i=some j∧fl=.next∧s' = { s3 with sto:=s3.sto.set n (.lst (xs.set j t)) }:=by
  unfold Gj at h
  split at h
  · rename_i t s1 e
    split at h
    · rename_i n s2 eo
      split at h
      · rename_i i s3 ek
        split at h
        · rename_i xs ex
          split at h
          · rename_i j ej; cases h; exact ⟨t,s1,n,s2,i,s3,xs,j,e,eo,ek,ex,ej,rfl,rfl⟩
          · cases h
        · cases h
      · cases h
    · cases h
  · cases h
theorem U7 {i:Nat} {v:M T} {s s':Sta} {fl:Flow} (h:Lz i v s=some (fl,s')) :
    ∃ n ys t s1 xs,s.env[i]? = some (some (.obj n,false))∧s.sto[n]? = some (.lst ys)∧v s=some (t,s1)∧s1.sto[n]? = some (.lst xs)∧xs.length<lim∧fl=.next∧s' = { s1 with sto:=s1.sto.set n (.lst (xs++[t])) }:=by
  unfold Lz at h
  split at h
  · rename_i n e
    split at h
    · rename_i ys ey
      split at h
      · rename_i t s1 ev'
        split at h
        · rename_i xs ex
          split at h
          · rename_i hl; cases h; exact ⟨n,ys,t,s1,xs,e,ey,ev',ex,hl,rfl,rfl⟩
          · cases h
        · cases h
      · cases h
    · cases h
  · cases h
theorem vh.set {K:PySem.W.Frag} {S:Hp} {as:List Addr} {v:V} {t:T} (h:Rep K S as v t):∀ {vs:List V} {ts:List T} (j:Nat),vh K S as vs ts→vh K S as (vs.set j v) (ts.set j t)
  | _,_,_,.nil=>.nil
  | _,_,0,.cons _ r=>.cons h r
  | _,_,j+1,.cons q r=>.cons q (vh.set h j r)
noncomputable section
variable {X:Cx} {B:Bas} {a b c e o k:Expr} {m mo mk mv:M T} {pos p:Pos}
theorem Dj (ho:PE X o (tOf X.K B mo)) (hk:PE X k (tOf X.K B mk)) (hs:U8 k):PE X (.Subscript o k pos) (tOf X.K B (Di mo mk)):=(a8w Zi ho hk hs).imp fun σ H Q z9=>by
  obtain ⟨st,ps,S,as,R,t,st',e,q⟩:=z9
  obtain ⟨n,s1,i,xs,j,e1,e2,e3,e4,e5⟩:=Xi e
  refine ⟨st,ps,S,as,R,_,s1,e1,fun v H1 S1 as1 R1=>⟨s1,_,S1,as1,R1,_,st',e2,fun u H2 S2 as2 R2=>?_⟩⟩
  have t2:=R2.top2
  cases R2.top
  cases t2 with
  | @obj _ a ha =>
    obtain ⟨a',h1,h2,vs,h3,h4⟩:=R2.sto.at' n _ e3
    rw [ha] at h1; cases h1
    obtain ⟨z,hz,rz⟩:=h4.get e5
    refine ⟨a,vs,i,z,rfl,rfl,SqL.of h3,?_,q z H2 S2 as2 (R2.drop.drop.push rz)⟩
    rw [Q6,← h4.length] at e4
    unfold atI; rw [e4]; exact hz
theorem a08 (hg:Gl X "len") (hm:X.mg "len" = none) (ho:PE X o (tOf X.K B mo)) (he:starEach [o] X.env=(false,eval o X.env)::starEach [] X.env:=by rfl) (hpl:(backTo pos (starEach [] X.env)).any (·.1)=false:=by rfl) :
    PE X (.Call (.Name "len" p) [o] [] pos) (tOf X.K B (G4 mo)):=(Ca Ea hg hm PySem.boot_len (vp ho Bd he) (by decide) (by decide) he hpl).imp fun σ H Q z9=>by
  obtain ⟨st,ps,S,as,R,t,st',e,q⟩:=z9
  obtain ⟨n,xs,e1,e2,rfl⟩:=Ug e
  refine ⟨st,ps,S,as,R,_,st',e1,fun v H1 S1 as1 R1=>?_⟩
  have t1:=R1.top
  cases t1 with
  | @obj _ a ha =>
    obtain ⟨a',h1,h2,vs,h3,h4⟩:=R1.sto.at' n _ e2
    rw [ha] at h1; cases h1
    exact ⟨a,vs,rfl,.inl (SqL.of h3),by rw [h4.length]; exact q _ H1 S1 as1 (R1.drop.push (.int _))⟩
theorem Le {es:List Expr} {ms:M (List T)} (h:PA X es (aOf X.K B ms)) (hm:∀ st ts st',ms st=some (ts,st')→ts.length≤1000):PE X (.List es pos) (tOf X.K B (Eo ms)) :=
  (a0y h).imp fun σ H Q z9=>by
    obtain ⟨st,ps,S,as,R,t,st',e,q⟩:=z9
    obtain ⟨ts,s1,e1,rfl,rfl⟩:=Ul e
    refine ⟨st,ps,S,as,R,ts,s1,e1,fun vs H1 S1 as1 R1 rs=>⟨?_,fun p hp=>?_⟩⟩
    · rw [rs.length]; exact Nat.le_of_lt (Ir (hm _ _ _ e1))
    · exact q _ _ _ _ (R1.newObj hp ⟨vs,jh,rs.mono (yq.refl _) ⟨[p],rfl⟩⟩)
theorem K6 {st:Stmt} (h:PS X st (a5d (tOf X.K B mv) (ac2 (tOf X.K B mo) (tOf X.K B mk) a8c))):PS X st (sOf X.K B (Gj mo mk mv)):=h.imp fun D σ H z9=>by
  obtain ⟨st,ps,S,as,R,fl,st',e,q⟩:=z9
  obtain ⟨t,s1,n,s2,i,s3,xs,j,e1,e2,e3,e4,e5,rfl,rfl⟩:=Xf e
  refine ⟨st,ps,S,as,R,t,s1,e1,fun v H1 S1 as1 R1=>⟨s1,_,S1,as1,R1,_,s2,e2,fun x H2 S2 as2 R2=>⟨s2,_,S2,as2,R2,_,s3,e3,fun y H3 S3 as3 R3=>?_⟩⟩⟩
  have t2:=R3.top2
  cases R3.top
  cases t2 with
  | @obj _ a ha =>
    obtain ⟨a',h1,h2,vs,h3,h4⟩:=R3.sto.at' n _ e4
    rw [ha] at h1; cases h1
    have tv:Rep X.K S3 as3 v t:=R3.pend _ (List.mem_cons_of_mem _ (List.mem_cons_of_mem _ List.mem_cons_self))
    rw [Q6,← h4.length] at e5
    exact ⟨a,vs,i,j,rfl,rfl,h3,e5,q _ _ S3 as3 (R3.drop.drop.drop.a4y e4 ha ⟨_,jh,vh.set tv j h4⟩)⟩
theorem a1k (i:Nat) {st:Stmt} (h:PS X st (a3q (tBM X.K "list" U6 (a1r i) (Ws (tOf X.K B mv) a7y)))):PS X st (sOf X.K B (Lz i mv)):=h.imp fun D σ H z9=>by
  obtain ⟨st,ps,S,as,R,fl,st',e,q⟩:=z9
  obtain ⟨n,ys,t,s1,xs,e0,ey,e1,e2,hl,rfl,rfl⟩:=U7 e
  obtain ⟨w,h1,h2,_⟩:=R.slots i _ false e0
  have r0:=h2 rfl
  cases r0 with
  | @obj _ a ha =>
    obtain ⟨a0,l0,_,vs0,l1,_⟩:=R.sto.at' n _ ey
    rw [ha] at l0; cases l0
    refine ⟨_,h1,.inl ⟨rfl,_,SqL.of l1⟩,st,(.ref a,.obj n)::ps,S,as,R.push (h2 rfl),t,s1,e1,fun v H1 S1 as1 R1=>?_⟩
    have t2:=R1.top2
    cases t2 with
    | @obj _ a2 ha2 =>
      obtain ⟨a',k1,k2,vs,k3,k4⟩:=R1.sto.at' n _ e2
      rw [ha2] at k1; cases k1
      exact ⟨a,vs,v,rfl,rfl,k3,by rw [k4.length]; exact Nat.lt_of_lt_of_le hl yc,q _ _ S1 as1 (R1.drop.drop.a4y e2 ha2 ⟨_,jh,k4.append (.cons R1.top .nil)⟩)⟩
end
end C
end
noncomputable section
set_option linter.all false
set_option maxRecDepth 100000
set_option maxHeartbeats 4000002
set_option autoImplicit false
namespace C
open PySem PySem.Spec PyProof.Rows L2
noncomputable section
variable {X:Cx} {B:Bas} {pins:List (Addr × Obj)} {σ:L2.St} {H S:Hp} {s:Shared} {as:List Addr} {Q:VK}
theorem aa4 {R:List Value→Shared→Prop} {A:Around} {E:Value→Shared→Prop} {T:String} {r d:Addr} {n:Nat} {P:Nat→Value→Prop} {OK:Heap→Prop} (KS:PySem.W.KdlSrc X.prog X.w T r d n P OK) (nh:A.handled=none) (ok0:OK s.heap) (sz:n≤sizeLine)
    (k:∀ (h1:Heap) (tk:Nat) (got:Array Value),s.heap.objs.size<h1.objs.size→(∀ b o,s.heap.get? b=some o→h1.get? b=some o)→ItemsOf P got n→R got.toList { s with heap:=h1,toks:=tk }) :
    wpAny (model X.prog X.w) A (collect (.ref r)) R E s:=by
  have lt0:=KS.there _ ok0
  unfold collect
  refine wpAny_bind (wpAny_runValue
    (codeAny_builtin entry_proto_collect' ?_))
  rw [Around.under_plainId
    PySem.F.plain_proto_collect _]
  show wpAny _ A.in1 (newList [] >>= fun z=>again (.builtin "list.__iadd__" ⟨[z,.ref r],[]⟩)) _ _ s
  refine wpAny_bind (wpAny_newObj_type (wpAny_pure ⟨plainId_quiet PySem.F.plain_list_iadd _,codeAny_builtin entry_list_iadd' ?_⟩))
  rw [Around.under_plainId
    PySem.F.plain_list_iadd _]
  change wpAny _ A.in1 (Builtin.List.listExtendWith (.ref s.heap.objs.size) (.ref r) (.ref s.heap.objs.size)) _ _ _
  have new0:(s.heap.push { cls:=.type "list",data:=.seq ([]:List Value).toArray }).get? s.heap.objs.size=some { cls:=.type "list",data:=.seq #[] }:=Heap.get?_push_size _ rfl
  have aa5:=PySem.W.kdl_extend (A:=A) (s:={ s with heap:=s.heap.push { cls:=.type "list",data:=.seq ([]:List Value).toArray } })
    (R:=fun (f:Result) (s1:Shared)=>∃ (h1:Heap) (tk:Nat) (got:Array Value) (c1:Nat),f=.ok (.ret (.ref s.heap.objs.size))∧s1 = { s with heap:=h1,toks:=tk }∧(∀ b o,s.heap.get? b=some o→h1.get? b=some o) ∧
      h1.get? s.heap.objs.size=some { cls:=.type "list",dict:=none,data:=.seq got c1,slots:=#[] }∧ItemsOf P got n)
    KS nh (KS.keep _ _ ok0 fun b _ o e=>Heap.get?_push_of_some _ e) s.heap.objs.size (Nat.ne_of_gt lt0.1) (Nat.ne_of_gt lt0.2) (.ref s.heap.objs.size) 0 new0
    (fun h1 tk got c1 old at1 its=>⟨h1,tk,got,c1,rfl,rfl,fun b o e=>old b o (Nat.ne_of_lt (Heap.lt_size e)) (Heap.get?_push_of_some _ e),at1,its⟩) sz
  have last:∀ (h1:Heap) (tk:Nat) (got:Array Value) (c1:Nat),(∀ b o,s.heap.get? b=some o→h1.get? b=some o)→h1.get? s.heap.objs.size=some { cls:=.type "list",dict:=none,data:=.seq got c1,slots:=#[] }→ItemsOf P got n →
      wpAny (model X.prog X.w) A (load s.heap.objs.size >>= fun o=>match o.data with | .seq xs _=>pure xs.toList | _=>unsupported "internal:collect") R E { s with heap:=h1,toks:=tk } :=
    fun h1 tk got c1 old at1 its=>wpAny_bind (wpAny_load at1 (wpAny_pure (k h1 tk got (Heap.lt_size at1) old its)))
  refine wpAny_mono aa5 (fun fin s1 x=>?_) fun e s1 x=>?_
  · cases fin with
    | done f =>
      obtain ⟨h1,tk,got,c1,ef,rfl,old,at1,its⟩:=x
      cases ef
      exact last h1 tk got c1 old at1 its
    | again c =>
      refine ⟨x.1,codeAny_mono x.2 fun f s2 y=>?_⟩
      obtain ⟨h1,tk,got,c1,rfl,rfl,old,at1,its⟩:=y
      exact last h1 tk got c1 old at1 its
  · obtain ⟨_,_,_,_,ef,_⟩:=x
    cases ef
theorem Zc {T:String} {r d:Addr} {n:Nat} {P:Nat→Value→Prop} {OK:Heap→Prop} {l:List Str} (KS:PySem.W.KdlSrc X.prog X.w T r d n P OK) (hc:X.calm=true) (I:L2.Inv X pins σ H s) (sub:yq S H) (hok:OK s.heap) (h64:n<64)
    (hi:∀ vs:List Value,vs.length=n→(∀ (j:Nat) (v:Value),vs[j]? = some v→P j v)→∃ l',StrsAre vs l'∧l'.Perm l)
    (q:∀ v H' S',Ext S H S' H'→Rep X.K S' as v (.lst ((Bg l).map .str))→Q v H'):wpAny (model X.prog X.w) X.A (call (.builtin "sorted") [.ref r]) (EP X pins σ Q) X.xe s:=by
  have hn:n≤sizeLine:=Nat.le_trans (Nat.le_of_lt h64) (by rw [sizeLine_eq]; decide)
  refine Calls.call_function_entry kind_sorted plain_sorted
    entry_sorted (args_sorted1 _) ?_
  unfold Builtin.«sorted»
  refine wpAny_bind (m:=checkCount "sorted" 1 1 _) (wpAny_pure (wpAny_bind ?_))
  refine (aa4 (A:=X.A.in1) KS (show X.A.in1.handled=none from I.ok.hd hc) hok hn fun h' tk acc hlt hk hacc=>?_)
  have hl:acc.toList.length=n:=Array.length_toList.trans hacc.1
  obtain ⟨l',hS,hp⟩:=hi acc.toList hl fun j v e=>hacc.2 j v (by rw [← Array.getElem?_toList]; exact e)
  refine wpAny_bind (wpAny_newList ?_ (hl ▸ hn))
  have hoL:(h'.push (seqObj "list" acc.toList.toArray 0)).get? h'.objs.size=some (seqObj "list" acc.toList.toArray 0):=Heap.get?_push_size _ rfl
  refine wpAny_bind (wpAny_holding (wpAny_call_entry slot_list_sort ⟨_,hoL,rfl⟩ entry_list_sort (list_sort_treeK strKind_oneLt hoL hS.keysOf (fun v₁ v₂ rest e=>keyKind_strs (by rw [← e]; exact hS)) (by rw [hl]; exact h64) fun st' a1 a2=>⟨_,rfl,?_⟩) (args_list_sort _)))
  refine wpAny_pure ⟨_,rfl,(?_:EP X pins σ Q _ _)⟩
  obtain ⟨ss',b1,b2,b3⟩:=sorted_out_str hS a1 a2
  have es:=O7 b3 (b2.trans hp)
  subst es
  have hle:=Nat.le_of_lt hlt
  obtain ⟨e,he⟩:=sortedHeap_at (out:=(arrOf st').map (·.2)) hoL
  have hsz:(List.map V.str (Bg l)).length≤sizeLine:=by
    rw [List.length_map,(G8 l).length_eq,← hp.length_eq,← hS.length,hl]
    exact hn
  have hnn:H h'.objs.size=none:=I.hok.fresh hle
  have x:=Ext.laid sub hnn (.lst ((Bg l).map V.str))
  refine ⟨.ref h'.objs.size,_,I.laid (a:=h'.objs.size) (o:=.lst ((Bg l).map V.str)) (t':=tk) (fun b u eb=>?_) hle ⟨hsz,_,e,Hq b1,he⟩,rfl,q _ _ _ x (.lst (SqL.of jh) (Ia _))⟩
  have hb:=Heap.lt_size (hk _ _ eb)
  rw [sortedHeap_old (Nat.ne_of_lt hb) (by rw [Heap.size_push]; exact Nat.lt_succ_of_lt hb)]
  exact Heap.get?_push_of_some _ (hk _ _ eb)
theorem Pu:∀ {kvs:List (L2.Key × V)} {ts:List (L2.Key × T)} {l:List Str},kvs.map (·.1)=ts.map (·.1)→Jg (ts.map fun p=>Xj p.1)=some l→kvs.map (·.1)=l.map Sum.inr
  | [],[],l,_,h=>by simp only [List.map_nil,Jg] at h; cases h; rfl
  | (k,v)::kvs,(k2,t)::ts,l,e,h=>by
    simp only [List.map_cons,List.cons.injEq] at e
    obtain ⟨e1,e2⟩:=e
    subst e1
    cases k with
    | inl i=>simp only [List.map_cons,Xj,Jg,reduceCtorEq] at h
    | inr x =>
      simp only [List.map_cons,Xj,Jg] at h
      obtain ⟨l',h1,h2⟩:=Option.map_eq_some_iff.mp h
      subst h2
      rw [List.map_cons,List.map_cons,Pu e2 h1]
theorem Et.keys {K:PySem.W.Frag} {S:Hp} {as:List Addr}:∀ {kvs:List (L2.Key × V)} {ts:List (L2.Key × T)},Et K S as kvs ts→kvs.map (·.1)=ts.map (·.1)
  | _,_,.nil=>rfl
  | _,_,.cons h q=>by rw [List.map_cons,List.map_cons,Et.keys q]
theorem Ji {prog:Program} {w:World}:∀ {vs:List (L2.Key × Value)} {us:List Value} {l:List Str},vs.map (·.1)=l.map Sum.inr→us.length=vs.length→(∀ (j:Nat) (v:Value),us[j]? = some v→∃ k x,vs[j]? = some (k,x)∧(vo prog w).is k v=true)→StrsAre us l
  | [],us,l,e,hl,h=>by
    cases us with
    | cons _ _=>simp at hl
    | nil=>cases l with
      | nil=>exact .nil
      | cons _ _=>simp at e
  | (k,x)::vs,us,l,e,hl,h=>by
    cases us with
    | nil=>simp at hl
    | cons u us =>
      cases l with
      | nil=>simp at e
      | cons y l =>
        simp only [List.map_cons,List.cons.injEq] at e
        obtain ⟨e1,e2⟩:=e
        subst e1
        obtain ⟨k',x',h1,h2⟩:=h 0 u rfl
        simp only [List.getElem?_cons_zero,Option.some.injEq,Prod.mk.injEq] at h1
        obtain ⟨rfl,rfl⟩:=h1
        rw [Wi] at h2
        have hu:∃ t,u=.str y t:=by
          rcases vd h2 with ⟨i,t,e',_⟩ | ⟨z,t,e',hz⟩
          · cases e'
          · cases e'; exact ⟨t,hz⟩
        obtain ⟨t,rfl⟩:=hu
        exact .cons y t (Ji e2 (by simpa using hl) fun j v ev=>by simpa using h (j+1) v (by simpa using ev))
theorem Jo (hc:X.calm=true):Xw X (.builtin "sorted") Em:=by
  intro pins s σ H xs us Q I rs z8
  obtain ⟨S,as,ts,w,sub,hr,hf,q⟩:=z8
  cases hr with
  | nil=>simp only [Em,reduceCtorEq] at hf
  | @cons x t xs' ts' h1 h2 =>
    cases h2 with
    | cons h3 h4=>cases h1 <;> simp only [Em,reduceCtorEq] at hf
    | nil =>
      cases h1 with
      | @lst a vs ts g1 g2 =>
        simp only [Em] at hf
        split at hf
        · rename_i h64
          obtain ⟨l,e1,e2⟩:=Option.map_eq_some_iff.mp hf
          subst e2
          exact Od pins s σ H _ us Q I rs ⟨S,as,ts,l,sub,.cons (.lst g1 g2) .nil,h64,e1,q⟩
        · cases hf
      | @dic a kvs ts g1 g2 =>
        simp only [Em] at hf
        split at hf
        · rename_i h64
          obtain ⟨l,e1,e2⟩:=Option.map_eq_some_iff.mp hf
          subst e2
          obtain ⟨u,rfl,ru⟩:=rs.one
          cases ru
          obtain ⟨z,hd,vs,rel,dd⟩:=P0 I.hok (Dp sub g1)
          obtain ⟨ep,hat⟩:=dd.dictAt
          have hlen:vs.length=ts.length:=by rw [← rel.length]; exact g2.length
          have hk:=Pu g2.keys e1
          rw [KV.keys rel] at hk
          exact Zc (PySem.W.kdl_dict (knd:=vo X.prog X.w) (kvs:=vs) (ep:=ep) hd) hc I sub hat (by rw [hlen]; exact h64) (fun us hl hp=>⟨l,Ji hk hl hp,.refl _⟩) q
        · cases hf
      | _=>simp only [Em,reduceCtorEq] at hf
end
end C
end
noncomputable section
set_option linter.all false
set_option maxRecDepth 100000
set_option maxHeartbeats 4000002
set_option autoImplicit false
namespace C
open PySem PySem.Spec PyProof.Rows L2
noncomputable section
variable {prog:Program} {w:World} {A:Around} {E:Value→Shared→Prop} {s:Shared}
theorem N5:typeLookup (.type "list") "keys" = pure none:=am_miss_of_fast (by decide +kernel)
theorem Yz {l:Addr} {xs:Array Value} {k:Nat} {sl:Array (Option Value)} {Q:Option Value→Shared→Prop} (hx:s.heap.get? l=some { cls:=.type "list",dict:=none,data:=.seq xs k,slots:=sl }) (nh:A.handled=none)
    (h:∀ h' tk e,Heap.NewExcOf s.heap h' e "AttributeError" → Q none { s with heap:=h',toks:=tk }):wpAny (model prog w) A (getAttr? (.ref l) "keys") Q E s:=by
  obtain ⟨h0,g0,d0,tk,os⟩:=s
  have hT:∀ tk',(⟨h0,g0,d0,tk',os⟩:Shared).TypeIs (.ref l) "list" := fun _=>⟨_,hx,rfl⟩
  have g1:=sub_AttributeError
  have g3:=F.slot_list_getattribute.lookup
  have g4:=F.slot_list_getattribute.bind (.ref l)
  have g5:=am_list_getattr_none
  unfold getAttr?
  unfold getAttrBy?
  unfold getAttrBy
  repeat (any_goals (first | assumption | exact hT _ | ((with_reducible show wpAny _ _ (call (Value.builtin "list.__getattribute__") _ _) _ _ _); refine call_meets F.slot_list_getattribute (hT _) am_entry_list_getattribute (F.args_list_getattribute_2 _ _) (meets_getattribute_miss_list l xs k sl "keys" _ N5 (by decide +kernel)) ⟨hx,nh,fun h' tk' e y=>?_⟩) | wp_step))
  obtain ⟨t',u',he⟩:=y.there
  change wpAny _ _ (getattributeRaised _ _ _ _ _ _ _) _ _ _
  unfold getattributeRaised
  repeat (any_goals first | assumption | wp_step)
  exact h _ _ _ y.of
theorem Lr:typeLookup (.type "tuple") "keys" = pure none:=am_miss_of_fast (by decide +kernel)
theorem X8 {l:Addr} {xs:Array Value} {k:Nat} {sl:Array (Option Value)} {Q:Option Value→Shared→Prop} (hx:s.heap.get? l=some { cls:=.type "tuple",dict:=none,data:=.seq xs k,slots:=sl }) (nh:A.handled=none)
    (h:∀ h' tk e,Heap.NewExcOf s.heap h' e "AttributeError" → Q none { s with heap:=h',toks:=tk }):wpAny (model prog w) A (getAttr? (.ref l) "keys") Q E s:=by
  obtain ⟨h0,g0,d0,tk,os⟩:=s
  have hT:∀ tk',(⟨h0,g0,d0,tk',os⟩:Shared).TypeIs (.ref l) "tuple" := fun _=>⟨_,hx,rfl⟩
  have g1:=sub_AttributeError
  have g3:=F.slot_tuple_getattribute.lookup
  have g4:=F.slot_tuple_getattribute.bind (.ref l)
  have g5:=am_tuple_getattr_none
  unfold getAttr?
  unfold getAttrBy?
  unfold getAttrBy
  repeat (any_goals (first | assumption | exact hT _ | ((with_reducible show wpAny _ _ (call (Value.builtin "tuple.__getattribute__") _ _) _ _ _); refine call_meets F.slot_tuple_getattribute (hT _) am_entry_tuple_getattribute (F.args_tuple_getattribute_2 _ _) (meets_getattribute_miss_tuple l xs k sl "keys" _ Lr (by decide +kernel)) ⟨hx,nh,fun h' tk' e y=>?_⟩) | wp_step))
  obtain ⟨t',u',he⟩:=y.there
  change wpAny _ _ (getattributeRaised _ _ _ _ _ _ _) _ _ _
  unfold getattributeRaised
  repeat (any_goals first | assumption | wp_step)
  exact h _ _ _ y.of
end
end C
end
noncomputable section
set_option linter.all false
set_option maxRecDepth 100000
set_option maxHeartbeats 4000002
set_option autoImplicit false
namespace C
open PySem PySem.Spec PyProof.Rows L2
theorem Ma {prog:Program} {w:World} {A:Around} {E:Value→Shared→Prop} {s:Shared} {t:Addr} {o:Obj} {xs:Array Value} {m:Nat} {Q:Option (Array Value)→Shared→Prop} (h:s.heap.get? t=some o) (hd:o.data=.seq xs m) (q:Q (some xs) s):wpAny (model prog w) A (seqItems? (.ref t)) Q E s:=by
  show wpAny _ A (load t >>= fun o=>match o.data with | .seq xs _=>pure (some xs) | _=>pure none) _ _ s
  refine wpAny_bind (wpAny_load h ?_)
  rw [hd]
  exact wpAny_pure q
theorem Ax:entryFor table "dict.update.loop" = some Builtin.«dict.update.loop»:=entryFor_of_tree (by kernel_rfl)
theorem nj:plainId "dict.update.loop" = true:=by decide +kernel
noncomputable section
variable {prog:Program} {w:World} {A:Around} {R:Result→Shared→Prop} {I:Addr} {fp wr:List Addr} {G:Array GenState→Array GenState→Prop} {n:Nat} {P:Nat→Value→Prop} {St:Nat→Shared→Prop} {κ:Type} [DecidableEq κ] {knd:PySem.KeyKind prog w κ}
theorem Vw (W:WalksS prog w A.in1 I fp wr G n P St) (D:Addr) (hDf:D∉fp) (result:Value) (h0:Heap) (kvs:Nat→List (κ × Value)) (key:Nat→κ) (val:Nat→Value) (hs:∀ i,kvs (i+1)=stored (kvs i) (key i) (val i)) (hz:∀ i,i≤n→(kvs i).length≤sizeLine)
    (hit:∀ i v,P i v→∃ t kx o m,v=.ref t∧t≠D∧t∉wr∧h0.get? t=some o∧o.cls=.type "tuple" ∧ o.data=.seq #[kx,val i] m∧knd.is (key i) kx=true) :
    ∀ (j i:Nat) (c:Nat) (s:Shared),n - i=j→i≤n→St i s→(∀ b o,b≠D→b∉wr→h0.get? b=some o→s.heap.get? b=some o)→s.heap.DictOf knd D (kvs i) →
      (∀ s',Moved (D::wr) G s s'→s'.heap.DictOf knd D (kvs n)→R (.ok (.ret result)) s')→codeAny (model prog w) A (.builtin "dict.update.loop" ⟨[.ref D,.ref I,rawInt (c:Int),result],[]⟩) R s:=by
  have hDw:D∉wr:=fun z=>hDf (W.sub _ z)
  have more:∀ b∈wr,b∈D::wr:=fun b hb=>List.mem_cons_of_mem _ hb
  intro j
  induction j with
  | zero =>
    intro i c s hk hi hst keep hD hR
    have e:i=n:=by omega
    subst e
    refine codeAny_builtin Ax ?_
    rw [Around.under_plainId nj _]
    change wpAny _ A.in1 (pyNext (.ref I) >>= _) _ _ s
    refine wpAny_bind (W.done s _ _ hst (fun s' hm=>?_))
    show wpAny _ A.in1 (Builtin.Dict.addKeywords D [] >>= fun _=>ret result) _ _ s'
    refine wpAny_bind (wpAny_pure (wpAny_pure (hR s' (hm.mono more) ?_)))
    obtain ⟨o,es,ep,ho,rest⟩:=hD
    exact ⟨o,es,ep,hm.heap D _ hDw ho,rest⟩
  | succ j ih =>
    intro i c s hk hi hst keep hD hR
    have hlt:i<n:=by omega
    refine codeAny_builtin Ax ?_
    rw [Around.under_plainId nj _]
    change wpAny _ A.in1 (pyNext (.ref I) >>= _) _ _ s
    refine wpAny_bind (W.item i s _ _ hlt hst (fun v s' hP hst' hm=>?_))
    obtain ⟨t,kx,o,m,rfl,htD,htw,ht,hc,hd,hkey⟩:=hit i v hP
    have ht':s'.heap.get? t=some o:=hm.heap t o htw (keep t o htD htw ht)
    have hD':s'.heap.DictOf knd D (kvs i):=by
      obtain ⟨o,es,ep,ho,rest⟩:=hD
      exact ⟨o,es,ep,hm.heap D _ hDw ho,rest⟩
    have hT:s'.TypeIs (.ref t) "tuple" := ⟨o,ht',hc⟩
    dsimp only
    refine wpAny_bind (wpAny_holding (wpAny_bind (wpAny_tryCatch ?_)))
    unfold Builtin.Dict.pairItems
    refine wpAny_bind (wpAny_typeOf (T := "tuple") hT ?_)
    rw [if_pos (by decide)]
    refine wpAny_bind (Ma ht' hd ?_)
    refine wpAny_pure ?_
    show wpAny _ A.in1 (holding [kx,val i] (dictSet D kx (val i))) _ _ s'
    refine wpAny_holding (wpAny_dictSet_pairs hkey hD' (fun h2 hD2 same=>?_) (hz i hi))
    rw [← hs i] at hD2
    refine wpAny_pure ⟨plainId_quiet nj _,?_⟩
    have ec:((c:Int)+1)=((c+1:Nat):Int):=by omega
    rw [ec]
    refine ih (i+1) (c+1) _ (by omega) hlt (W.frame _ s' _ _ hst' (Nat.le_succ _) fun b hb o e=>?_) (fun b o hb hw e=>?_) hD2 fun s2 hm2 hD3=>?_
    · rw [same.2 b (fun h:b=D=>hDf (by rw [← h]; exact hb))]; exact e
    · show h2.get? b=some o
      rw [same.2 b hb]; exact hm.heap b o hw (keep b o hb hw e)
    · refine hR s2 (Moved.trans W.gtrans ((hm.mono more).then_heap (Nat.le_succ _) fun b o hb e=>?_) hm2) hD3
      rw [same.2 b (fun h:b=D=>hb (by rw [h]; exact List.mem_cons_self))]; exact e
end
end C
end
noncomputable section
set_option linter.all false
set_option maxRecDepth 100000
set_option maxHeartbeats 4000002
set_option autoImplicit false
namespace C
open PySem PySem.Spec PyProof.Rows L2
noncomputable section
variable {prog:Program} {w:World} {A:Around} {E:Value→Shared→Prop} {s:Shared} {κ:Type} [DecidableEq κ] {knd:PySem.KeyKind prog w κ}
noncomputable def told (key:Nat→κ) (val:Nat→Value):Nat→List (κ × Value)
  | 0=>[]
  | i+1=>stored (told key val i) (key i) (val i)
theorem X6 (l:List (κ × Value)) (k:κ) (v:Value):(stored l k v).length≤l.length+1:=by
  unfold stored
  split
  · rw [List.length_map]; omega
  · rw [List.length_append,List.length_singleton]; exact Nat.le_refl _
theorem Ez (key:Nat→κ) (val:Nat→Value):∀ i,(told key val i).length≤i
  | 0=>Nat.le_refl _
  | i+1=>Nat.le_trans (X6 _ _ _) (Nat.succ_le_succ (Ez key val i))
theorem Rf {l:Addr} {its:Array Value} {m:Nat} {sl:Array (Option Value)} {key:Nat→κ} {val:Nat→Value} {Q:Value→Shared→Prop} (nh:A.handled=none) (hl:s.heap.get? l=some { cls:=.type "list",dict:=none,data:=.seq its m,slots:=sl }) (hz:its.size≤sizeLine)
    (hit:∀ i v,its[i]? = some v→∃ t kx o n,v=.ref t∧s.heap.get? t=some o∧o.cls=.type "tuple" ∧ o.data=.seq #[kx,val i] n∧knd.is (key i) kx=true)
    (q:∀ h' tk,h'.DictOf knd s.heap.objs.size (told key val its.size)→(∀ b o,s.heap.get? b=some o→h'.get? b=some o)→Q (.ref s.heap.objs.size) { s with heap:=h',toks:=tk }) :
    wpAny (model prog w) A (call (.type "dict") [.ref l]) Q E s:=by
  refine callType_codes (Q₁:=fun ob z=>ob=.ref s.heap.objs.size∧z = { s with heap:=s.heap.push { cls:=.type "dict",data:=.dict #[] } }) F.kt_called_dict (F.kt_typeCall_dict_1 _) F.entry_dict_init (kt_code_dict_new _ ⟨rfl,rfl⟩) ?_
  rintro obj s₁ ⟨rfl,rfl⟩
  have new0:(s.heap.push { cls:=.type "dict",data:=.dict #[] }).DictOf knd s.heap.objs.size []:=Heap.DictOf.new s.heap
  have hl1:(s.heap.push { cls:=.type "dict",data:=.dict #[] }).get? l=some { cls:=.type "list",dict:=none,data:=.seq its m,slots:=sl }:=Heap.get?_push_of_some _ hl
  have hll:l<s.heap.objs.size:=Heap.lt_size hl
  refine ⟨new0.typeIs,F.args_dict_init_2 _ _,?_⟩
  unfold Builtin.«dict.__init__» Builtin.Dict.selfAndRest
  refine wpAny_bind (wpAny_bind (wpAny_notOrdered_dict new0.typeIs ?_))
  show wpAny _ _ (pure (s.heap.objs.size,[Value.ref l])) _ _ _
  refine wpAny_pure ?_
  show wpAny _ _ (Builtin.Dict.updateFrom "dict.__init__" s.heap.objs.size (.ref l) [] .none) _ _ _
  unfold Builtin.Dict.updateFrom; refine wpAny_bind (wpAny_typeOf (T := "list") ⟨_,hl1,rfl⟩ ?_)
  rw [if_pos (by decide)]
  refine wpAny_bind (Yz hl1 nh fun h2 tk e ne=>?_)
  rw [if_pos (show (none:Option Value).isNone=true from rfl)]
  have old2:∀ b o,(s.heap.push { cls:=.type "dict",data:=.dict #[] }).get? b=some o→h2.get? b=some o:=fun b o hb=>ne.keeps b o hb
  have hl2:h2.IsList l its:=⟨_,old2 _ _ hl1,rfl,m,rfl⟩
  have hD2:s.heap.objs.size<h2.objs.size:=by
    obtain ⟨o,es,ep,ho,rest⟩:=new0
    exact Heap.lt_size (old2 _ _ ho)
  refine wpAny_bind (wpAny_rule (wpAny_bind (wpAny_pyIter_list hl2 ?_)))
  refine wpAny_pure ⟨plainId_quiet nj _,?_⟩
  have nl:l≠h2.objs.size:=Nat.ne_of_lt (Nat.lt_trans hll hD2)
  have nD:s.heap.objs.size∉[h2.objs.size,l]:=by
    simp only [List.mem_cons,List.mem_singleton,List.not_mem_nil,or_false,not_or]
    exact ⟨Nat.ne_of_lt hD2,Nat.ne_of_gt hll⟩
  have hD3:(h2.push { cls:=.type "list_iterator",data:=.fields #[.ref l,.int 0 0] }).DictOf knd s.heap.objs.size (told key val 0):=by
    obtain ⟨o,es,ep,ho,rest⟩:=new0
    exact ⟨o,es,ep,Heap.get?_push_of_some _ (old2 _ _ ho),rest⟩
  refine Vw (knd:=knd) ((Walks.list (A:=A.in1.in1) (show A.in1.in1.handled=none from nh) h2.objs.size l nl its).toS) s.heap.objs.size nD .none s.heap (told key val) key val (fun _=>rfl) (fun i hi=>Nat.le_trans (Ez key val i) (Nat.le_trans hi hz))
    (fun i v hv=>?_) (its.size - 0) 0 0 _ rfl (Nat.zero_le _) ⟨⟨_,Heap.get?_push_size _ rfl,rfl,rfl⟩,hl2.push _⟩ (fun b o _ _ hb=>Heap.get?_push_of_some _ (old2 _ _ (Heap.get?_push_of_some _ hb))) hD3 fun s3 hm hD4=>?_
  · obtain ⟨t,kx,o,n,rfl,ht,hc,hd,hk⟩:=hit i v hv
    have tl:=Heap.lt_size ht
    refine ⟨t,kx,o,n,rfl,Nat.ne_of_lt tl,?_,ht,hc,hd,hk⟩
    simp only [List.mem_singleton]
    exact Nat.ne_of_lt (Nat.lt_trans tl hD2)
  · obtain ⟨h3,g3,d3,t3,o3⟩:=s3
    have eg:g3=s.gens:=hm.gens
    have ed:d3=s.drawn:=hm.drawn
    have eo:o3=s.os:=hm.os
    subst eg; subst ed; subst eo
    refine ⟨rfl,q h3 t3 hD4 fun b o hb=>?_⟩
    have bl:=Heap.lt_size hb
    refine hm.heap b o ?_ (Heap.get?_push_of_some _ (old2 _ _ (Heap.get?_push_of_some _ hb)))
    simp only [List.mem_cons,List.mem_singleton,List.not_mem_nil,or_false,not_or]
    exact ⟨Nat.ne_of_lt bl,Nat.ne_of_lt (Nat.lt_trans bl hD2)⟩
theorem Oo {l:Addr} {its:Array Value} {m:Nat} {sl:Array (Option Value)} {key:Nat→κ} {val:Nat→Value} {Q:Value→Shared→Prop} (nh:A.handled=none) (hl:s.heap.get? l=some { cls:=.type "tuple",dict:=none,data:=.seq its m,slots:=sl }) (hz:its.size≤sizeLine)
    (hit:∀ i v,its[i]? = some v→∃ t kx o n,v=.ref t∧s.heap.get? t=some o∧o.cls=.type "tuple" ∧ o.data=.seq #[kx,val i] n∧knd.is (key i) kx=true)
    (q:∀ h' tk,h'.DictOf knd s.heap.objs.size (told key val its.size)→(∀ b o,s.heap.get? b=some o→h'.get? b=some o)→Q (.ref s.heap.objs.size) { s with heap:=h',toks:=tk }) :
    wpAny (model prog w) A (call (.type "dict") [.ref l]) Q E s:=by
  refine callType_codes (Q₁:=fun ob z=>ob=.ref s.heap.objs.size∧z = { s with heap:=s.heap.push { cls:=.type "dict",data:=.dict #[] } }) F.kt_called_dict (F.kt_typeCall_dict_1 _) F.entry_dict_init (kt_code_dict_new _ ⟨rfl,rfl⟩) ?_
  rintro obj s₁ ⟨rfl,rfl⟩
  have new0:(s.heap.push { cls:=.type "dict",data:=.dict #[] }).DictOf knd s.heap.objs.size []:=Heap.DictOf.new s.heap
  have hl1:(s.heap.push { cls:=.type "dict",data:=.dict #[] }).get? l=some { cls:=.type "tuple",dict:=none,data:=.seq its m,slots:=sl }:=Heap.get?_push_of_some _ hl
  have hll:l<s.heap.objs.size:=Heap.lt_size hl
  refine ⟨new0.typeIs,F.args_dict_init_2 _ _,?_⟩
  unfold Builtin.«dict.__init__» Builtin.Dict.selfAndRest
  refine wpAny_bind (wpAny_bind (wpAny_notOrdered_dict new0.typeIs ?_))
  show wpAny _ _ (pure (s.heap.objs.size,[Value.ref l])) _ _ _
  refine wpAny_pure ?_
  show wpAny _ _ (Builtin.Dict.updateFrom "dict.__init__" s.heap.objs.size (.ref l) [] .none) _ _ _
  unfold Builtin.Dict.updateFrom; refine wpAny_bind (wpAny_typeOf (T := "tuple") ⟨_,hl1,rfl⟩ ?_)
  rw [if_pos (by decide)]
  refine wpAny_bind (X8 hl1 nh fun h2 tk e ne=>?_)
  rw [if_pos (show (none:Option Value).isNone=true from rfl)]
  have old2:∀ b o,(s.heap.push { cls:=.type "dict",data:=.dict #[] }).get? b=some o→h2.get? b=some o:=fun b o hb=>ne.keeps b o hb
  have hl2:h2.IsTuple l its:=⟨_,old2 _ _ hl1,rfl,m,rfl⟩
  have hD2:s.heap.objs.size<h2.objs.size:=by
    obtain ⟨o,es,ep,ho,rest⟩:=new0
    exact Heap.lt_size (old2 _ _ ho)
  refine wpAny_bind (wpAny_rule (wpAny_bind (wpAny_pyIter_tuple hl2 ?_)))
  refine wpAny_pure ⟨plainId_quiet nj _,?_⟩
  have nl:l≠h2.objs.size:=Nat.ne_of_lt (Nat.lt_trans hll hD2)
  have nD:s.heap.objs.size∉[h2.objs.size,l]:=by
    simp only [List.mem_cons,List.mem_singleton,List.not_mem_nil,or_false,not_or]
    exact ⟨Nat.ne_of_lt hD2,Nat.ne_of_gt hll⟩
  have hD3:(h2.push { cls:=.type "tuple_iterator",data:=.fields #[.ref l,.int 0 0] }).DictOf knd s.heap.objs.size (told key val 0):=by
    obtain ⟨o,es,ep,ho,rest⟩:=new0
    exact ⟨o,es,ep,Heap.get?_push_of_some _ (old2 _ _ ho),rest⟩
  refine Vw (knd:=knd) ((Walks.tuple (A:=A.in1.in1) (show A.in1.in1.handled=none from nh) h2.objs.size l nl its).toS) s.heap.objs.size nD .none s.heap (told key val) key val (fun _=>rfl) (fun i hi=>Nat.le_trans (Ez key val i) (Nat.le_trans hi hz))
    (fun i v hv=>?_) (its.size - 0) 0 0 _ rfl (Nat.zero_le _) ⟨⟨_,Heap.get?_push_size _ rfl,rfl,rfl⟩,hl2.push _⟩ (fun b o _ _ hb=>Heap.get?_push_of_some _ (old2 _ _ (Heap.get?_push_of_some _ hb))) hD3 fun s3 hm hD4=>?_
  · obtain ⟨t,kx,o,n,rfl,ht,hc,hd,hk⟩:=hit i v hv
    have tl:=Heap.lt_size ht
    refine ⟨t,kx,o,n,rfl,Nat.ne_of_lt tl,?_,ht,hc,hd,hk⟩
    simp only [List.mem_singleton]
    exact Nat.ne_of_lt (Nat.lt_trans tl hD2)
  · obtain ⟨h3,g3,d3,t3,o3⟩:=s3
    have eg:g3=s.gens:=hm.gens
    have ed:d3=s.drawn:=hm.drawn
    have eo:o3=s.os:=hm.os
    subst eg; subst ed; subst eo
    refine ⟨rfl,q h3 t3 hD4 fun b o hb=>?_⟩
    have bl:=Heap.lt_size hb
    refine hm.heap b o ?_ (Heap.get?_push_of_some _ (old2 _ _ (Heap.get?_push_of_some _ hb)))
    simp only [List.mem_cons,List.mem_singleton,List.not_mem_nil,or_false,not_or]
    exact ⟨Nat.ne_of_lt bl,Nat.ne_of_lt (Nat.lt_trans bl hD2)⟩
end
end C
end
noncomputable section
set_option linter.all false
set_option maxRecDepth 100000
set_option maxHeartbeats 4000002
set_option autoImplicit false
namespace C
open PySem PySem.Spec PyProof.Rows L2
theorem Kp {x:T} {xs:List T} {l:List (Key × T)} (h:Bw (x::xs)=some l):∃ k v q l',x=.tup [k,v]∧K4 k=some q∧Bw xs=some l'∧l=(q,v)::l':=by
  match x,h with
  | .tup [k,v],h =>
    simp only [Bw] at h
    split at h
    · rename_i q l' e1 e2; cases h; exact ⟨k,v,q,l',rfl,e1,e2,rfl⟩
    · cases h
noncomputable section
variable {X:Cx} {pins:List (Addr × Obj)} {σ:L2.St} {H S:Hp} {s:Shared} {as:List Addr}
inductive G7 (h:Heap) (prog:Program) (w:World):List Value→List L2.Key→List Value→Prop where
  | nil:G7 h prog w [] [] []
  | cons {t:Addr} {kx wv:Value} {o:Obj} {n:Nat} {q:L2.Key} {us:List Value} {qs:List L2.Key} {ws:List Value}:h.get? t=some o→o.cls=.type "tuple" → o.data=.seq #[kx,wv] n→(vo prog w).is q kx=true →
      G7 h prog w us qs ws→G7 h prog w (.ref t::us) (q::qs) (wv::ws)
theorem G7.get {h:Heap} {prog:Program} {w:World}:∀ {us:List Value} {qs:List L2.Key} {ws:List Value},G7 h prog w us qs ws→∀ (i:Nat) (v:Value),us[i]? = some v→∃ t kx o n,v=.ref t∧h.get? t=some o∧o.cls=.type "tuple" ∧ o.data=.seq #[kx,ws.getD i .none] n∧(vo prog w).is (qs.getD i (.inl 0)) kx=true
  | _,_,_,.nil,i,v,e=>by simp at e
  | _,_,_,.cons h1 h2 h3 h4 r,0,v,e=>by simp at e; subst e; exact ⟨_,_,_,_,rfl,h1,h2,h3,h4⟩
  | _,_,_,.cons h1 h2 h3 h4 r,i+1,v,e=>by simpa using r.get i v (by simpa using e)
theorem G7.len {h:Heap} {prog:Program} {w:World}:∀ {us:List Value} {qs:List L2.Key} {ws:List Value},G7 h prog w us qs ws→us.length=qs.length∧us.length=ws.length
  | _,_,_,.nil=>⟨rfl,rfl⟩
  | _,_,_,.cons _ _ _ _ r=>⟨congrArg (· + 1) r.len.1,congrArg (· + 1) r.len.2⟩
theorem Pb (I:L2.Inv X pins σ H s) (sub:yq S H):∀ {vs:List V} {xs:List T} {us:List Value} {l:List (L2.Key × T)},vh X.K S as vs xs→yh vs us→Bw xs=some l →
    ∃ ys ws,G7 s.heap X.prog X.w us (l.map (·.1)) ws∧yh ys ws∧vh X.K S as ys (l.map (·.2))
  | _,_,_,_,.nil,r,e=>by simp only [Bw] at e; cases e; cases r; exact ⟨[],[],.nil,.nil,.nil⟩
  | _,_,_,_,.cons h q,r,e=>by
    obtain ⟨k,v,qk,l',rfl,e1,e2,rfl⟩:=Kp e
    cases r with
    | cons r1 r2 =>
      obtain ⟨ys,ws,p1,p2,p3⟩:=Pb I sub q r2 e2
      cases h with
      | tup g1 g2 =>
        cases g2 with
        | cons a1 g2 =>
          cases g2 with
          | cons a2 g2 =>
            cases g2
            cases r1
            obtain ⟨its,rv,⟨o,o1,o2,n,o3⟩,_⟩:=I.tuple (uy sub g1)
            cases rv with
            | cons b1 rv =>
              cases rv with
              | cons b2 rv =>
                cases rv
                have ek:=a2c a1 e1
                subst ek
                exact ⟨_::ys,_::ws,.cons o1 o2 o3 (Xx b1) p1,.cons b2 p2,.cons a2 p3⟩
theorem Kc (l:List (L2.Key × T)) {ys:List V} {ws:List Value} (hv:yh ys ws) (hr:vh X.K S as ys (l.map (·.2))):∀ i,i≤l.length →
    ∃ kv,KV kv (told (fun i=>(l.map (·.1)).getD i (.inl 0)) (fun i=>ws.getD i .none) i)∧Et X.K S as kv ((l.take i).foldl (fun d p=>Rw p.1 p.2 d) [])
  | 0,_=>⟨[],.nil,.nil⟩
  | i+1,hi=>by
    obtain ⟨kv,k1,k2⟩:=Kc l hv hr i (by omega)
    have hlt:i<l.length:=Nat.lt_of_succ_le hi
    have e1:(l.map (·.2))[i]? = some l[i].2:=by rw [List.getElem?_map,List.getElem?_eq_getElem hlt]; rfl
    obtain ⟨y,h1,h2⟩:=hr.get e1
    obtain ⟨u,h3,h4⟩:=hv.get h1
    have e2:(l.map (·.1)).getD i (.inl 0)=l[i].1:=by rw [List.getD_eq_getElem?_getD,List.getElem?_map,List.getElem?_eq_getElem hlt]; rfl
    have e3:ws.getD i .none=u:=by rw [List.getD_eq_getElem?_getD,h3]; rfl
    refine ⟨a1s kv l[i].1 y,?_,?_⟩
    · have:=k1.put l[i].1 h4
      show KV (a1s kv l[i].1 y) (stored (told (fun i=>(l.map (·.1)).getD i (.inl 0)) (fun i=>ws.getD i .none) i) ((l.map (·.1)).getD i (.inl 0)) (ws.getD i .none))
      rw [e2,e3]
      exact this
    · rw [List.take_succ_eq_append_getElem hlt,List.foldl_append]
      exact k2.put h2
theorem Rv {Q:VK} {a:Addr} {vs:List V} {xs:List T} {l:List (L2.Key × T)} (hc:X.calm=true) (I:L2.Inv X pins σ H s) (sub:yq S H) (g1:SqL X.K S a vs) (g2:vh X.K S as vs xs) (e:Bw xs=some l) (hz:xs.length≤sizeLine)
    (q:∀ p kv,H p=none→kv.length≤sizeLine→Et X.K S as kv (l.foldl (fun d p=>Rw p.1 p.2 d) [])→Q (.ref p) (upd H p (.dK kv))):wpAny (model X.prog X.w) X.A (call (.type "dict") [.ref a]) (EP X pins σ Q) X.xe s:=by
  obtain ⟨its,r,p,_⟩:=I.list (ou sub g1)
  obtain ⟨⟨cls,dd,data,sl⟩,n,ho,hcl,hd0,hd⟩:=id p
  simp only at hcl hd0 hd
  subst hcl hd0 hd
  obtain ⟨ys,ws,p1,p2,p3⟩:=Pb I sub g2 r e
  have hlen:its.length=l.length:=by rw [p1.len.1,List.length_map]
  have hlx:vs.length=its.length:=r.length
  obtain ⟨kv,k1,k2⟩:=Kc l p2 p3 l.length (Nat.le_refl _)
  rw [List.take_length] at k2
  refine Rf (knd:=vo X.prog X.w) (key:=fun i=>(l.map (·.1)).getD i (.inl 0)) (val:=fun i=>ws.getD i .none) (I.ok.hd hc) ho (by rw [List.size_toArray,← hlx,g2.length]; exact hz)
    (fun i v hv=>p1.get i v (by rw [List.getElem?_toArray] at hv; exact hv)) fun h' tk hD old=>?_
  rw [show its.toArray.size=l.length by rw [List.size_toArray,hlen]] at hD
  have kl:kv.length≤sizeLine:=by
    rw [k1.length]
    exact Nat.le_trans (Ez _ _ _) (by rw [← hlen,← hlx,g2.length]; exact hz)
  have hp:H s.heap.objs.size=none:=I.hok.fresh (Nat.le_refl _)
  exact ⟨.ref s.heap.objs.size,_,I.laid (a:=s.heap.objs.size) (o:=.dK kv) (h':=h') (t':=tk) old (Nat.le_refl _) (V0 kl (beq_eq_false_iff_ne.mpr (Ne.symm (Nat.ne_of_lt I.big))) k1 hD),rfl,q _ kv hp kl k2⟩
theorem Ow {Q:VK} {a:Addr} {vs:List V} {xs:List T} {l:List (L2.Key × T)} (hc:X.calm=true) (I:L2.Inv X pins σ H s) (sub:yq S H) (g1:SqT X.K S a vs) (g2:vh X.K S as vs xs) (e:Bw xs=some l) (hz:xs.length≤sizeLine)
    (q:∀ p kv,H p=none→kv.length≤sizeLine→Et X.K S as kv (l.foldl (fun d p=>Rw p.1 p.2 d) [])→Q (.ref p) (upd H p (.dK kv))):wpAny (model X.prog X.w) X.A (call (.type "dict") [.ref a]) (EP X pins σ Q) X.xe s:=by
  obtain ⟨its,r,p,_⟩:=I.a9e (uy sub g1)
  obtain ⟨⟨cls,dd,data,sl⟩,ho,hcl,hd0,n,hd⟩:=id p
  simp only at hcl hd0 hd
  subst hcl hd0 hd
  obtain ⟨ys,ws,p1,p2,p3⟩:=Pb I sub g2 r e
  have hlen:its.length=l.length:=by rw [p1.len.1,List.length_map]
  have hlx:vs.length=its.length:=r.length
  obtain ⟨kv,k1,k2⟩:=Kc l p2 p3 l.length (Nat.le_refl _)
  rw [List.take_length] at k2
  refine Oo (knd:=vo X.prog X.w) (key:=fun i=>(l.map (·.1)).getD i (.inl 0)) (val:=fun i=>ws.getD i .none) (I.ok.hd hc) ho (by rw [List.size_toArray,← hlx,g2.length]; exact hz)
    (fun i v hv=>p1.get i v (by rw [List.getElem?_toArray] at hv; exact hv)) fun h' tk hD old=>?_
  rw [show its.toArray.size=l.length by rw [List.size_toArray,hlen]] at hD
  have kl:kv.length≤sizeLine:=by
    rw [k1.length]
    exact Nat.le_trans (Ez _ _ _) (by rw [← hlen,← hlx,g2.length]; exact hz)
  have hp:H s.heap.objs.size=none:=I.hok.fresh (Nat.le_refl _)
  exact ⟨.ref s.heap.objs.size,_,I.laid (a:=s.heap.objs.size) (o:=.dK kv) (h':=h') (t':=tk) old (Nat.le_refl _) (V0 kl (beq_eq_false_iff_ne.mpr (Ne.symm (Nat.ne_of_lt I.big))) k1 hD),rfl,q _ kv hp kl k2⟩
end
noncomputable section
variable {X:Cx} {B:Bas} {a:Expr} {m:M T} {pos p:Pos}
theorem Xa (hc:X.calm=true):Xw X (.type "dict") Mp:=by
  intro pins s σ H xs us Q I rs z8
  obtain ⟨S,as,ts,w,sub,hr,hf,q⟩:=z8
  cases hr with
  | nil=>simp only [Mp,reduceCtorEq] at hf
  | @cons x t xs' ts' h1 h2 =>
    cases h2 with
    | cons h3 h4=>cases h1 <;> simp only [Mp,reduceCtorEq] at hf
    | nil =>
      obtain ⟨u,rfl,ru⟩:=rs.one
      cases h1 with
      | @lst a vs ts g1 g2 =>
        cases ru
        simp only [Mp] at hf
        split at hf
        · rename_i hl
          obtain ⟨l,e1,e2⟩:=Option.map_eq_some_iff.mp hf
          subst e2
          refine Rv hc I sub g1 g2 e1 (Nat.le_trans (Nat.le_of_lt hl) yc) fun p kv hp _ k2=>?_
          have x:=Ext.laid sub hp (.dK kv)
          exact q _ _ _ x (.dic (.inl jh) (k2.mono x.s nol))
        · cases hf
      | @tup a vs ts g1 g2 =>
        cases ru
        simp only [Mp] at hf
        split at hf
        · rename_i hl
          obtain ⟨l,e1,e2⟩:=Option.map_eq_some_iff.mp hf
          subst e2
          refine Ow hc I sub g1 g2 e1 (Nat.le_trans (Nat.le_of_lt hl) yc) fun p kv hp _ k2=>?_
          have x:=Ext.laid sub hp (.dK kv)
          exact q _ _ _ x (.dic (.inl jh) (k2.mono x.s nol))
        · cases hf
      | @dic a kvs ts g1 g2 =>
        cases ru
        simp only [Mp] at hf
        cases hf
        refine a4t I (Dp sub g1) fun p s' hp I'=>⟨.ref p,_,I',rfl,?_⟩
        have x:=Ext.laid sub hp (.dK kvs)
        exact q _ _ _ x (.dic (.inl jh) (g2.mono x.s nol))
      | _=>simp only [Mp,reduceCtorEq] at hf
end
end C
end
noncomputable section
set_option linter.all false
set_option autoImplicit false
namespace C
open PySem PySem.Spec PyProof.Rows L2
theorem j9.zero {P:Program} {w:World} {K:PySem.W.Frag} {mg:Str→Option Value} {base:Heap} {x qual:Str} {st:Stmt} {f:Addr} {fd:FuncData} {ps:List Str} {k:Nat} (F:Fun K x qual st f fd) (h:mg x=some (.ref f)) (b:Ph K fd ps []):j9 P w K mg base x k ps (fun _ _=>none):=by
  have no:∀ vs H Q E,¬ spF K ps.length (fun _ _=>none) vs H Q E:=fun vs H Q E z=>by
    obtain ⟨S,as,sto,ts,t,sto',_,_,_,_,e,_⟩:=z
    cases e
  exact ⟨f,fd,⟨fun vs H Q E z=>absurd z (no vs H Q E),fun A outer s H args us vs Q E _ _ _ _ z=>absurd z (no vs H Q E)⟩,b,F.kp,h⟩
end C
end
noncomputable section
set_option linter.all false
set_option maxRecDepth 100000
set_option maxHeartbeats 4000002
set_option autoImplicit false
namespace C
open PySem PySem.Spec PyProof.Rows L2
theorem Xv {n:Nat} {c:M Bool} {b:S} {s s':Sta} {fl:Flow} (h:Dd (n+1) c b s=some (fl,s')):(∃ s1,c s=some (false,s1)∧fl=.next∧s'=s1) ∨
    ∃ s1 fb s2,c s=some (true,s1)∧b s1=some (fb,s2)∧(match fb with | .next=>Dd n c b s2=some (fl,s') | .cont=>Dd n c b s2=some (fl,s') | .brk=>fl=.next∧s'=s2 | .ret v=>fl=.ret v∧s'=s2):=by
  rw [Dd] at h
  dsimp only at h
  split at h
  · rename_i s1 e1; cases h; exact .inl ⟨_,e1,rfl,rfl⟩
  · rename_i s1 e1
    split at h
    · rename_i s2 e2; exact .inr ⟨s1,.next,s2,e1,e2,h⟩
    · rename_i s2 e2; exact .inr ⟨s1,.cont,s2,e1,e2,h⟩
    · rename_i s2 e2; cases h; exact .inr ⟨s1,.brk,_,e1,e2,rfl,rfl⟩
    · rename_i v s2 e2; cases h; exact .inr ⟨s1,.ret v,_,e1,e2,rfl,rfl⟩
    · cases h
  · cases h
theorem a4d {i j:Nat} {s s':Sta} {fl:Flow} (h:a80 i j s=some (fl,s')):∃ xs t,s.env[i]? = some (some (.lst xs,true))∧xs[xs.length - 1]? = some t∧fl=.next∧s'=bw j t false (bw i (.lst xs.dropLast) true s):=by
  unfold a80 at h
  split at h
  · rename_i xs e
    split at h
    · rename_i t e2; cases h; exact ⟨xs,t,e,e2,rfl,rfl⟩
    · cases h
  · cases h
theorem vh.dropLast {K:PySem.W.Frag} {S:Hp} {as:List Addr}:∀ {vs:List V} {ts:List T},vh K S as vs ts→vh K S as vs.dropLast ts.dropLast
  | _,_,.nil=>.nil
  | _,_,.cons h .nil=>.nil
  | _,_,.cons h (.cons h2 r)=>.cons h (vh.dropLast (.cons h2 r))
noncomputable section
variable {X:Cx} {B:Bas} {c e:Expr} {m:M T} {pos p:Pos} {u:S} {body:List Stmt}
theorem a4m (n:Nat) {mc:M Bool} (hp:PassesOwn (model X.prog X.w) X.A X.env X.xe) (hc:PT X c (cOf X.K B mc)) (hb:PSs X body (sOf X.K B u)):PS X (.While c body [] pos) (sOf X.K B (Dd n mc u)):=(a4q hp hc hb).imp fun D σ H z9=>by
  obtain ⟨st,ps,S,as,R,fl,st',e,q⟩:=z9
  refine ⟨fun k σ H=>∃ sti Si asi,Rel X.K B sti σ H ps Si asi∧Dd k mc u sti=some (fl,st'),⟨n,st,S,as,R,e⟩,?_⟩
  rintro k σ2 H2 ⟨sti,Si,asi,Ri,ei⟩
  cases k with
  | zero=>rw [Dd] at ei; cases ei
  | succ k =>
    rcases Xv ei with ⟨s1,e1,rfl,rfl⟩ | ⟨s1,fb,s2,e1,e2,er⟩
    · exact ⟨sti,ps,Si,asi,Ri,false,_,e1,fun H3 S3 as3 R3=>a6l (q σ2 H3 S3 as3 R3)⟩
    · refine ⟨sti,ps,Si,asi,Ri,true,s1,e1,fun H3 S3 as3 R3=>a72 ⟨fun σ' H'=>∃ sti Si asi,Rel X.K B sti σ' H' ps Si asi∧Dd k mc u sti=some (fl,st'),fun σ' H' h=>⟨k,Nat.lt_succ_self _,h⟩,s1,ps,S3,as3,R3,fb,s2,e2,?_⟩⟩
      cases fb with
      | next=>exact fun σ' H' S' as' R'=>⟨s2,S',as',R',er⟩
      | cont=>exact fun σ' H' S' as' R'=>⟨s2,S',as',R',er⟩
      | brk =>
        obtain ⟨rfl,rfl⟩:=er
        exact fun σ' H' S' as' R'=>q σ' H' S' as' R'
      | ret v =>
        obtain ⟨rfl,rfl⟩:=er
        exact fun v σ' H' S' as' R'=>q v σ' H' S' as' R'
theorem a9g (i j:Nat) {st:Stmt} (h:PS X st (a5d (ac1 X.K "list" aby (a1r i)) (O4 j))):PS X st (sOf X.K B (a80 i j)):=h.imp fun D σ H z9=>by
  obtain ⟨st,ps,S,as,R,fl,st',e,q⟩:=z9
  obtain ⟨xs,t,e2,e3,rfl,rfl⟩:=a4d e
  obtain ⟨w,h1,_,h3⟩:=R.slots i _ true e2
  obtain ⟨p0,rfl,ow⟩:=h3 rfl
  obtain ⟨vs,hH,h4⟩:=ow.own
  obtain ⟨y,hy,ry⟩:=h4.get e3
  have hy':vs[vs.length - 1]? = some y:=by rw [h4.length]; exact hy
  have R2:=R.turn (ob:=.lst vs.dropLast) (t':=.lst xs.dropLast) e2 h1 ⟨_,jh,h4.dropLast⟩
  exact ⟨_,h1,.inl ⟨rfl,_,SqL.of hH⟩,p0,vs,y,rfl,rfl,hH,hy',q _ _ S as (R2.put (i:=j) ry)⟩
end
end C
end
noncomputable section
set_option linter.all false
set_option maxRecDepth 100000
set_option maxHeartbeats 4000002
set_option autoImplicit false
namespace C
open PySem PySem.Spec PyProof.Rows L2
noncomputable section
variable {X:Cx} {B:Bas} {e st:Expr} {te:TE} {m:M T} {pos p2 p3 p4:Pos} {j:Nat}
end
end C
end
noncomputable section
set_option linter.all false
set_option maxRecDepth 100000
set_option maxHeartbeats 4000002
set_option autoImplicit false
namespace C
open PySem PySem.Spec PyProof.Rows L2
noncomputable section
variable {X:Cx} {B:Bas} {a:Expr} {m:M T} {pos p:Pos}
end
end C
end
noncomputable section
set_option linter.all false
set_option autoImplicit false
namespace C
open PySem PySem.Sem
noncomputable def Fw:Bool→Heap→Addr→Addr→Nat→Prop
  | true,h,it,a,i=>h.IsListIter it a i
  | false,h,it,a,i=>h.IsTupleIter it a i
noncomputable def Az:Bool→Heap→Addr→Array Value→Prop
  | true,h,a,xs=>h.IsList a xs
  | false,h,a,xs=>h.IsTuple a xs
theorem Fw.to {k:Bool} {h h':Heap} {it a:Addr} {i:Nat} (x:Fw k h it a i) (e:∀ o,h.get? it=some o→h'.get? it=some o):Fw k h' it a i:=by
  cases k <;> obtain ⟨o,ho,r⟩:=x <;> exact ⟨o,e o ho,r⟩
theorem Fw.obj {k:Bool} {h:Heap} {it a:Addr} {i:Nat} (x:Fw k h it a i):∃ o,h.get? it=some o∧∀ v,o.data≠.cell v:=by
  cases k <;> obtain ⟨o,ho,_,d⟩:=x <;> exact ⟨o,ho,fun v z=>by rw [d] at z; cases z⟩
theorem Az.to {k:Bool} {h h':Heap} {a:Addr} {xs:Array Value} (x:Az k h a xs) (e:∀ o,h.get? a=some o→h'.get? a=some o):Az k h' a xs:=by
  cases k <;> obtain ⟨o,ho,r⟩:=x <;> exact ⟨o,e o ho,r⟩
noncomputable section
variable {prog:Program} {w:World} {A:Around} {E:Value→Shared→Prop} {s:Shared}
theorem abp {it t:Addr} {i:Nat} {xs:Array Value} {x:Value} {Q:Value→Shared→Prop} (h1:s.heap.IsTupleIter it t i) (h2:s.heap.IsTuple t xs) (h3:xs[i]? = some x)
    (q:∀ h',h'.IsTupleIter it t (i+1)→Heap.SameBut it s.heap h'→Q x { s with heap:=h' }):wpAny (model prog w) A (Builtin.SmallTypes.nextOf (.ref it)) Q E s:=by
  have ty:s.TypeIs (.ref it) "tuple_iterator" := h1.typeIs
  obtain ⟨oi,gi,ci,di⟩:=h1
  obtain ⟨ot,gt,_,m,dt⟩:=h2
  have upd:∀ (h':Heap),h'=s.heap.update it (Obj.mapFields (·.setIfInBounds 1 (rawInt ((i:Int)+1))))→h'.IsTupleIter it t (i+1):=fun h' e=>by
    subst e
    refine ⟨_,Heap.get?_update_self _ gi (Obj.isFreed_of_fields (Obj.data_mapFields di _)),(Obj.cls_mapFields ..).trans ci,?_⟩
    rw [Obj.data_mapFields di]; rfl
  unfold Builtin.SmallTypes.nextOf -- here
  refine wpAny_bind (wpAny_callSpecial?_slot (name:=Str.ofString "__next__") ty F.slot_tuple_iterator_next (wpAny_call_entry F.slot_tuple_iterator_next ty F.entry_tuple_iterator_next ?_ (F.args_tuple_iterator_next_1 _)))
  refine (show wpAny _ _ (field (.ref it) 0 >>= _) _ _ s from wpAny_bind (wpAny_field gi di (x:=.ref t) rfl ?_))
  dsimp only
  rw [if_neg (by intro z; cases z)]
  refine (show wpAny _ _ (field (.ref it) 1 >>= _) _ _ s from wpAny_bind (wpAny_field gi di (x:=.int i 0) rfl ?_))
  refine (show wpAny _ _ (seqItems? (.ref t) >>= _) _ _ s from wpAny_bind (wpAny_seqItems gt dt ?_))
  dsimp only
  rw [Int.toNat_natCast,h3]
  exact wpAny_bind (wpAny_setField gi di (by simp) (wpAny_pure ⟨x,rfl,wpAny_pure (q _ (upd _ rfl) (Heap.SameBut.update ..))⟩))
theorem a0e {it t:Addr} {i:Nat} {xs:Array Value} {Q:Value→Shared→Prop} (hh:A.handled=none) (h1:s.heap.IsTupleIter it t i) (h2:s.heap.IsTuple t xs) (h3:xs[i]? = none)
    (q:∀ h' e,Heap.ExtBut it s.heap h'→(∃ o,h'.get? e=some o∧o.cls=.type "StopIteration")→E (.ref e) { s with heap:=h' }):wpAny (model prog w) A (Builtin.SmallTypes.nextOf (.ref it)) Q E s:=by
  have ty:s.TypeIs (.ref it) "tuple_iterator" := h1.typeIs
  obtain ⟨oi,gi,ci,di⟩:=h1
  obtain ⟨ot,gt,_,m,dt⟩:=h2
  unfold Builtin.SmallTypes.nextOf -- here
  refine wpAny_bind (wpAny_callSpecial?_slot (name:=Str.ofString "__next__") ty F.slot_tuple_iterator_next (wpAny_call_entry F.slot_tuple_iterator_next ty F.entry_tuple_iterator_next ?_ (F.args_tuple_iterator_next_1 _)))
  refine (show wpAny _ _ (field (.ref it) 0 >>= _) _ _ s from wpAny_bind (wpAny_field gi di (x:=.ref t) rfl ?_))
  dsimp only
  rw [if_neg (by intro z; cases z)]
  refine (show wpAny _ _ (field (.ref it) 1 >>= _) _ _ s from wpAny_bind (wpAny_field gi di (x:=.int i 0) rfl ?_))
  refine (show wpAny _ _ (seqItems? (.ref t) >>= _) _ _ s from wpAny_bind (wpAny_seqItems gt dt ?_))
  dsimp only
  rw [Int.toNat_natCast,h3]
  refine wpAny_bind (wpAny_rule (wpAny_bind (wpAny_setField gi di (by simp) ?_)))
  refine (show wpAny _ _ (newExc (.type "StopIteration") [] >>= _) _ _ _ from wpAny_bind ?_)
  simp only [newExc,newTuple]
  refine wpAny_bind (wpAny_newObj_type (wpAny_bind (m:=firstArgMember _ _) (wpAny_of_eq (a:=Value.none) (by first | rfl | (simp only [firstArgMember]; rfl)) (wpAny_newObj_type ?_ (by size_fits)))) (by size_fits))
  simp only [raiseNew]
  refine wpAny_bind (wpAny_handled ?_) -- here
  rw [show A.in1.handled=none from hh] -- here
  exact wpAny_bind (wpAny_pure (wpAny_throw (q _ _ (((Heap.SameBut.update ..).extBut.push _).push _) ⟨_,Heap.get?_push_size _ rfl,rfl⟩)))
theorem Gd {k:Bool} {it a:Addr} {i:Nat} {xs:Array Value} {x:Value} {Q:Value→Shared→Prop} (h1:Fw k s.heap it a i) (h2:Az k s.heap a xs) (h3:xs[i]? = some x)
    (q:∀ h',Fw k h' it a (i+1)→Heap.SameBut it s.heap h'→Q x { s with heap:=h' }):wpAny (model prog w) A (Builtin.SmallTypes.nextOf (.ref it)) Q E s:=by
  cases k with
  | true=>exact wpAny_nextOf_list_item h1 h2 h3 q
  | false=>exact abp h1 h2 h3 q
theorem Ed {k:Bool} {it a:Addr} {i:Nat} {xs:Array Value} {Q:Value→Shared→Prop} (hh:A.handled=none) (h1:Fw k s.heap it a i) (h2:Az k s.heap a xs) (h3:xs[i]? = none)
    (q:∀ h' e,Heap.ExtBut it s.heap h'→(∃ o,h'.get? e=some o∧o.cls=.type "StopIteration")→E (.ref e) { s with heap:=h' }):wpAny (model prog w) A (Builtin.SmallTypes.nextOf (.ref it)) Q E s:=by
  cases k with
  | true=>exact wpAny_nextOf_list_end hh h1 h2 h3 q
  | false=>exact a0e hh h1 h2 h3 q
end
structure Mj (h:Heap) (z ti to' i1 i2:Addr) (f:Value):Prop where
  zip:IsZip h z ti to' f
  its:IsPair h ti (.ref i1) (.ref i2)
  kept:∃ a b,IsPair h to' a b
structure Far (z ti to' i1 i2:Addr):Prop where
  nd:[z,ti,to',i1,i2].Nodup
theorem Far.all {z ti to' i1 i2:Addr} (f:Far z ti to' i1 i2):ti≠z∧to'≠z∧i1≠z∧i2≠z∧ti≠to'∧ti≠i1∧ti≠i2∧to'≠i1∧to'≠i2∧i1≠i2:=by
  have:=f.nd
  simp only [List.nodup_cons,List.mem_cons,List.not_mem_nil,or_false,not_or] at this
  obtain ⟨⟨a,b,c,d⟩,⟨e,f,g⟩,⟨h,i⟩,j,_⟩:=this
  exact ⟨Ne.symm a,Ne.symm b,Ne.symm c,Ne.symm d,e,f,g,h,i,j⟩
noncomputable def Tf (z to' i1 i2:Addr) (h h':Heap):Prop:=∀ c o,c≠z→c≠to'→c≠i1→c≠i2→h.get? c=some o→h'.get? c=some o
noncomputable section
variable {prog:Program} {w:World} {A:Around} {E:Value→Shared→Prop} {s:Shared}
theorem a2k {k1 k2:Bool} {z ti to' i1 i2 a1 a2:Addr} {j1 j2:Nat} {xs ys:Array Value} {x y:Value} {Q:Value→Shared→Prop} (D:Far z ti to' i1 i2) (Z:Mj s.heap z ti to' i1 i2 .none)
    (h1:Fw k1 s.heap i1 a1 j1) (h2:Fw k2 s.heap i2 a2 j2) (r1:Az k1 s.heap a1 xs) (r2:Az k2 s.heap a2 ys) (n2:a2≠z∧a2≠to'∧a2≠i1∧a2≠i2) (n1:a1≠z) (hx:xs[j1]? = some x) (hy:ys[j2]? = some y)
    (q:∀ h',Mj h' z ti to' i1 i2 (rawInt s.heap.objs.size)→Fw k1 h' i1 a1 (j1+1)→Fw k2 h' i2 a2 (j2+1)→IsPair h' s.heap.objs.size x y→Tf z to' i1 i2 s.heap h'→Q (.ref s.heap.objs.size) { s with heap:=h' }) :
    wpAny (model prog w) A (Builtin.«zip.__next__» ⟨[.ref z],[]⟩) (fun fin s'=>∃ v,fin=.done (.ret v)∧Q v s') E s:=by -- here
  obtain ⟨hz,hI,a,b,hO⟩:=Z
  obtain ⟨d1,d2,d3,d4,d5,d6,d7,d8,d9,d10⟩:=D.all
  refine (show wpAny _ _ (field (.ref z) 2 >>= _) _ _ _ from wpAny_bind (wpAny_field hz rfl (x:=.bool false) rfl ?_))
  refine (show wpAny _ _ (field (.ref z) 3 >>= _) _ _ _ from wpAny_bind (wpAny_field hz rfl (x:=.ref ti) rfl (wpAny_bind (wpAny_seqItems hI rfl ?_))))
  refine (show wpAny _ _ (Builtin.SmallTypes.ownedTupleIsFree (.ref z) >>= _) _ _ _ from wpAny_bind ?_)
  unfold Builtin.SmallTypes.ownedTupleIsFree -- here
  refine wpAny_bind (wpAny_field hz rfl (x:=.none) rfl (wpAny_pure ?_)) -- here
  dsimp only
  rw [if_pos rfl]
  refine wpAny_bind (wpAny_rule (wpAny_bind (wpAny_field hz rfl (x:=.ref to') rfl (wpAny_bind (wpAny_setField_rec hz (by simp) fun g1 z1 s1=>wpAny_bind ?_)))))
  have z1:IsZip g1 z ti to' .ellipsis:=z1
  simp only [List.zipIdx_cons,List.zipIdx_nil,List.forIn_cons,List.forIn_nil] -- here
  refine wpAny_bind (wpAny_bind (wpAny_onRaise (show wpAny _ _ (Builtin.SmallTypes.nextOf (.ref i1) >>= _) _ _ _ from wpAny_bind (Gd (h1.to fun o e=>s1.extBut _ _ d3 e) (r1.to fun o e=>s1.extBut _ _ n1 e) hx fun g2 t2 s2=>wpAny_pure ?_))))
  have o2:IsPair g2 to' a b:=s2.extBut _ _ d8 (s1.extBut _ _ d2 hO)
  refine wpAny_bind (wpAny_seqItems o2 rfl (wpAny_bind (wpAny_updateSeq_pair o2 fun g3 o3 s3=>wpAny_bind (wpAny_letGo (wpAny_pure ?_)))))
  have o3:IsPair g3 to' x b:=o3
  have e3:∀ c o,c≠z→c≠i1→c≠to'→s.heap.get? c=some o→g3.get? c=some o:=fun c o c1 c2 c3 e=>s3.extBut _ _ c3 (s2.extBut _ _ c2 (s1.extBut _ _ c1 e))
  refine wpAny_bind (wpAny_bind (wpAny_onRaise (show wpAny _ _ (Builtin.SmallTypes.nextOf (.ref i2) >>= _) _ _ _ from wpAny_bind (Gd (h2.to fun o e=>e3 _ o d4 (Ne.symm d10) (Ne.symm d9) e) (r2.to fun o e=>e3 _ o n2.1 n2.2.2.1 n2.2.1 e) hy fun g4 t4 s4=>wpAny_pure ?_))))
  have o4:IsPair g4 to' x b:=s4.extBut _ _ d9 o3
  refine wpAny_bind (wpAny_seqItems o4 rfl (wpAny_bind (wpAny_updateSeq_pair o4 fun g5 o5 s5=>wpAny_bind (wpAny_letGo (wpAny_pure (wpAny_pure ?_))))))
  have o5:IsPair g5 to' x y:=o5
  have sz:g5.objs.size=s.heap.objs.size:=by rw [s5.1,s4.1,s3.1,s2.1,s1.1]
  have z5:IsZip g5 z ti to' .ellipsis:=s5.extBut _ _ (Ne.symm d2) (s4.extBut _ _ (Ne.symm d4) (s3.extBut _ _ (Ne.symm d2) (s2.extBut _ _ (Ne.symm d3) z1)))
  have t5:Fw k1 g5 i1 a1 (j1+1):=t2.to fun o e=>s5.extBut _ _ (Ne.symm d8) (s4.extBut _ _ d10 (s3.extBut _ _ (Ne.symm d8) e))
  have u5:Fw k2 g5 i2 a2 (j2+1):=t4.to fun o e=>s5.extBut _ _ (Ne.symm d9) e
  refine wpAny_bind (wpAny_seqItems o5 rfl (wpAny_bind (wpAny_newTuple ?_)))
  refine (show wpAny _ _ (Builtin.SmallTypes.ownedTupleHandOut (.ref z) (.ref g5.objs.size) >>= _) _ _ _ from wpAny_bind ?_)
  unfold Builtin.SmallTypes.ownedTupleHandOut -- here
  have z6:IsZip (g5.push { cls:=.type "tuple",data:=.seq #[x,y] }) z ti to' .ellipsis:=Heap.get?_push_of_some _ z5
  refine wpAny_bind (wpAny_setField_rec z6 (by simp) fun g7 z7 s7=>?_)
  have z7:IsZip g7 z ti to' (rawInt g5.objs.size):=z7
  refine wpAny_setField_rec z7 (by simp) fun g8 z8 s8=>wpAny_pure ⟨_,rfl,?_⟩
  have z8:IsZip g8 z ti to' (rawInt g5.objs.size):=z8
  have e8:∀ c o,c≠z→g5.get? c=some o→g8.get? c=some o:=fun c o c1 e=>s8.extBut _ _ c1 (s7.extBut _ _ c1 (Heap.get?_push_of_some _ e))
  have p8:IsPair g8 g5.objs.size x y:=s8.extBut _ _ (Nat.ne_of_gt (Heap.lt_size z5)) (s7.extBut _ _ (Nat.ne_of_gt (Heap.lt_size z5)) (Heap.get?_push_size _ rfl))
  have all:∀ c o,c≠z→c≠to'→c≠i1→c≠i2→s.heap.get? c=some o→g8.get? c=some o:=fun c o c1 c2 c3 c4 e=>e8 c o c1 (s5.extBut _ _ c2 (s4.extBut _ _ c4 (e3 c o c1 c3 c2 e)))
  rw [sz] at z8 p8
  show Q (.ref g5.objs.size) _
  rw [sz]
  exact q g8 ⟨z8,all _ _ d1 d5 d6 d7 hI,x,y,e8 _ _ d2 o5⟩ (t5.to fun o e=>e8 _ o d3 e) (u5.to fun o e=>e8 _ o d4 e) p8 all
theorem a3n {k1 k2:Bool} {z ti to' i1 i2 a1 a2:Addr} {j1 j2:Nat} {xs ys:Array Value} {Q:PySem.Fin→Shared→Prop} (hh:A.handled=none) (D:Far z ti to' i1 i2) (Z:Mj s.heap z ti to' i1 i2 .none)
    (h1:Fw k1 s.heap i1 a1 j1) (h2:Fw k2 s.heap i2 a2 j2) (r1:Az k1 s.heap a1 xs) (r2:Az k2 s.heap a2 ys) (n2:a2≠z∧a2≠to'∧a2≠i1∧a2≠i2) (n1:a1≠z) (hend:xs[j1]? = none∨ys[j2]? = none)
    (q:∀ h' e,Tf z to' i1 i2 s.heap h'→(∃ o,h'.get? e=some o∧o.cls=.type "StopIteration")→E (.ref e) { s with heap:=h' }) :
    wpAny (model prog w) A (Builtin.«zip.__next__» ⟨[.ref z],[]⟩) Q E s:=by -- here
  obtain ⟨hz,hI,a,b,hO⟩:=Z
  obtain ⟨d1,d2,d3,d4,d5,d6,d7,d8,d9,d10⟩:=D.all
  refine (show wpAny _ _ (field (.ref z) 2 >>= _) _ _ _ from wpAny_bind (wpAny_field hz rfl (x:=.bool false) rfl ?_))
  refine (show wpAny _ _ (field (.ref z) 3 >>= _) _ _ _ from wpAny_bind (wpAny_field hz rfl (x:=.ref ti) rfl (wpAny_bind (wpAny_seqItems hI rfl ?_))))
  refine (show wpAny _ _ (Builtin.SmallTypes.ownedTupleIsFree (.ref z) >>= _) _ _ _ from wpAny_bind ?_)
  unfold Builtin.SmallTypes.ownedTupleIsFree -- here
  refine wpAny_bind (wpAny_field hz rfl (x:=.none) rfl (wpAny_pure ?_)) -- here
  dsimp only
  rw [if_pos rfl]
  refine wpAny_bind (wpAny_rule (wpAny_bind (wpAny_field hz rfl (x:=.ref to') rfl (wpAny_bind (wpAny_setField_rec hz (by simp) fun g1 z1 s1=>wpAny_bind ?_)))))
  have z1:IsZip g1 z ti to' .ellipsis:=z1
  simp only [List.zipIdx_cons,List.zipIdx_nil,List.forIn_cons,List.forIn_nil] -- here
  have fin:∀ (g:Heap) (e:Addr) (zg:IsZip g z ti to' .ellipsis) (he:∃ o,g.get? e=some o∧o.cls=.type "StopIteration") (kg:Tf z to' i1 i2 s.heap g),wpAny (model prog w) A (setField (.ref z) 0 .none) (fun _ s'=>E (.ref e) s') E { s with heap:=g }:=fun g e zg ⟨o,ho,hc⟩ kg=>by
    have ne:e≠z:=fun x=>by subst x; rw [zg] at ho; cases ho; simp at hc
    exact wpAny_setField_rec zg (by simp) fun g' _ s'=>q g' e (fun c o c1 c2 c3 c4 x=>s'.extBut _ _ c1 (kg c o c1 c2 c3 c4 x)) ⟨o,s'.extBut _ _ ne ho,hc⟩
  cases hx:xs[j1]? with
  | none =>
    refine wpAny_bind (wpAny_bind (wpAny_onRaise (show wpAny _ _ (Builtin.SmallTypes.nextOf (.ref i1) >>= _) _ _ _ from wpAny_bind (Ed hh (h1.to fun o e=>s1.extBut _ _ d3 e) (r1.to fun o e=>s1.extBut _ _ n1 e) hx fun g2 e s2 he=>?_))))
    exact fin g2 e (s2 _ _ (Ne.symm d3) z1) he fun c o c1 _ c3 _ x=>s2 _ _ c3 (s1.extBut _ _ c1 x)
  | some x =>
    have hy:ys[j2]? = none:=hend.resolve_left fun h=>by rw [hx] at h; cases h
    refine wpAny_bind (wpAny_bind (wpAny_onRaise (show wpAny _ _ (Builtin.SmallTypes.nextOf (.ref i1) >>= _) _ _ _ from wpAny_bind (Gd (h1.to fun o e=>s1.extBut _ _ d3 e) (r1.to fun o e=>s1.extBut _ _ n1 e) hx fun g2 t2 s2=>wpAny_pure ?_))))
    have o2:IsPair g2 to' a b:=s2.extBut _ _ d8 (s1.extBut _ _ d2 hO)
    refine wpAny_bind (wpAny_seqItems o2 rfl (wpAny_bind (wpAny_updateSeq_pair o2 fun g3 o3 s3=>wpAny_bind (wpAny_letGo (wpAny_pure ?_)))))
    have e3:∀ c o,c≠z→c≠i1→c≠to'→s.heap.get? c=some o→g3.get? c=some o:=fun c o c1 c2 c3 e=>s3.extBut _ _ c3 (s2.extBut _ _ c2 (s1.extBut _ _ c1 e))
    refine wpAny_bind (wpAny_bind (wpAny_onRaise (show wpAny _ _ (Builtin.SmallTypes.nextOf (.ref i2) >>= _) _ _ _ from wpAny_bind (Ed hh (h2.to fun o e=>e3 _ o d4 (Ne.symm d10) (Ne.symm d9) e) (r2.to fun o e=>e3 _ o n2.1 n2.2.2.1 n2.2.1 e) hy fun g4 e s4 he=>?_))))
    exact fin g4 e (s4 _ _ (Ne.symm d4) (s3.extBut _ _ (Ne.symm d2) (s2.extBut _ _ (Ne.symm d3) z1))) he fun c o c1 c2 c3 c4 x=>s4 _ _ c4 (e3 c o c1 c3 c2 x)
theorem a4f {k1 k2:Bool} {z ti to' i1 i2 a1 a2:Addr} {j1 j2:Nat} {xs ys:Array Value} {x y:Value} {Q:Option Value→Shared→Prop} (D:Far z ti to' i1 i2) (Z:Mj s.heap z ti to' i1 i2 .none)
    (h1:Fw k1 s.heap i1 a1 j1) (h2:Fw k2 s.heap i2 a2 j2) (r1:Az k1 s.heap a1 xs) (r2:Az k2 s.heap a2 ys) (n2:a2≠z∧a2≠to'∧a2≠i1∧a2≠i2) (n1:a1≠z) (hx:xs[j1]? = some x) (hy:ys[j2]? = some y)
    (q:∀ h',Mj h' z ti to' i1 i2 (rawInt s.heap.objs.size)→Fw k1 h' i1 a1 (j1+1)→Fw k2 h' i2 a2 (j2+1)→IsPair h' s.heap.objs.size x y→Tf z to' i1 i2 s.heap h'→Q (some (.ref s.heap.objs.size)) { s with heap:=h' }) :
    wpAny (model prog w) A (pyNext (.ref z)) Q E s:=by -- here
  have ty:s.TypeIs (.ref z) "zip" := ⟨_,Z.zip,rfl⟩
  unfold pyNext
  exact wpAny_bind (wpAny_attempt (wpAny_callSpecial?_slot (name:=Str.ofString "__next__") ty F.slot_zip_next (wpAny_call_entry F.slot_zip_next ty F.entry_zip_next
    (a2k D Z h1 h2 r1 r2 n2 n1 hx hy fun h' a b c d e=>wpAny_pure (q h' a b c d e)) (F.args_zip_next_1 _))))
theorem a3r {k1 k2:Bool} {z ti to' i1 i2 a1 a2:Addr} {j1 j2:Nat} {xs ys:Array Value} {Q:Option Value→Shared→Prop} (hh:A.handled=none) (D:Far z ti to' i1 i2) (Z:Mj s.heap z ti to' i1 i2 .none)
    (h1:Fw k1 s.heap i1 a1 j1) (h2:Fw k2 s.heap i2 a2 j2) (r1:Az k1 s.heap a1 xs) (r2:Az k2 s.heap a2 ys) (n2:a2≠z∧a2≠to'∧a2≠i1∧a2≠i2) (n1:a1≠z) (hend:xs[j1]? = none∨ys[j2]? = none)
    (q:∀ h',Tf z to' i1 i2 s.heap h'→Q none { s with heap:=h' }):wpAny (model prog w) A (pyNext (.ref z)) Q E s:=by
  have ty:s.TypeIs (.ref z) "zip" := ⟨_,Z.zip,rfl⟩
  unfold pyNext
  refine wpAny_bind (wpAny_attempt (wpAny_callSpecial?_slot (name:=Str.ofString "__next__") ty F.slot_zip_next (wpAny_call_entry F.slot_zip_next ty F.entry_zip_next
    (a3n hh D Z h1 h2 r1 r2 n2 n1 hend fun h' e kp he=>?_) (F.args_zip_next_1 _))))
  obtain ⟨o,ho,hc⟩:=he
  exact wpAny_bind (wpAny_isInstance (T := "StopIteration") (b:=true) ⟨o,ho,hc⟩ isSubtype_stop (wpAny_pure (q _ kp)))
end
noncomputable abbrev Zd (k:Bool) (a:Addr):Obj:={ cls:=.type (if k then "list_iterator" else "tuple_iterator"),data:=.fields #[.ref a,.int 0 0] }
noncomputable abbrev zh1 (h:Heap) (k1:Bool) (a1:Addr):Heap:=h.push (Zd k1 a1)
noncomputable abbrev zh2 (h:Heap) (k1 k2:Bool) (a1 a2:Addr):Heap:=(zh1 h k1 a1).push (Zd k2 a2)
noncomputable abbrev zh3 (h:Heap) (k1 k2:Bool) (a1 a2:Addr):Heap:=(zh2 h k1 k2 a1 a2).push { cls:=.type "tuple",data:=.seq #[.ref h.objs.size,.ref (zh1 h k1 a1).objs.size] }
noncomputable abbrev zh4 (h:Heap) (k1 k2:Bool) (a1 a2:Addr):Heap:=(zh3 h k1 k2 a1 a2).push { cls:=.type "tuple",data:=.seq #[.none,.none] }
noncomputable abbrev zh5 (h:Heap) (k1 k2:Bool) (a1 a2:Addr):Heap:=(zh4 h k1 k2 a1 a2).push { cls:=.type "zip",data:=.fields #[.none,.bool false,.bool false,.ref (zh2 h k1 k2 a1 a2).objs.size,.ref (zh3 h k1 k2 a1 a2).objs.size] }
set_option maxHeartbeats 4000000 in
theorem Tg (a1 a2:Addr) (xs ys:Array Value):Meets (Builtin.«zip.__new__» ⟨[.type "zip",.ref a1,.ref a2],[]⟩) (fun _ R s=>s.heap.IsTuple a1 xs∧s.heap.IsTuple a2 ys ∧
      R (.ok (.ret (.ref (zh4 s.heap false false a1 a2).objs.size))) { s with heap:=zh5 s.heap false false a1 a2 }) :=
  .of_wp fun prog w A R s z9=>by
    obtain ⟨r1,r2,fin⟩:=z9
    obtain ⟨hp,g,d,tk,os⟩:=s -- here
    have hsub:=sub_zip
    have q1:Heap.IsTuple (Shared.heap ⟨hp,g,d,tk,os⟩) a1 xs:=r1
    have q2:Heap.IsTuple (Shared.heap ⟨hp.push { cls:=.type "tuple_iterator",data:=.fields #[.ref a1,.int 0 0] },g,d,tk,os⟩) a2 ys:=Heap.IsTuple.push r2 _
    wp_walk using wpAny_pyIter_tuple q1,wpAny_pyIter_tuple q2
    exact ⟨_,rfl,fin⟩
set_option maxHeartbeats 4000000 in
theorem Tq (a1 a2:Addr) (xs ys:Array Value):Meets (Builtin.«zip.__new__» ⟨[.type "zip",.ref a1,.ref a2],[]⟩) (fun _ R s=>s.heap.IsTuple a1 xs∧s.heap.IsList a2 ys ∧
      R (.ok (.ret (.ref (zh4 s.heap false true a1 a2).objs.size))) { s with heap:=zh5 s.heap false true a1 a2 }) :=
  .of_wp fun prog w A R s z9=>by
    obtain ⟨r1,r2,fin⟩:=z9
    obtain ⟨hp,g,d,tk,os⟩:=s -- here
    have hsub:=sub_zip
    have q1:Heap.IsTuple (Shared.heap ⟨hp,g,d,tk,os⟩) a1 xs:=r1
    have q2:Heap.IsList (Shared.heap ⟨hp.push { cls:=.type "tuple_iterator",data:=.fields #[.ref a1,.int 0 0] },g,d,tk,os⟩) a2 ys:=Heap.IsList.push r2 _
    wp_walk using wpAny_pyIter_tuple q1,wpAny_pyIter_list q2
    exact ⟨_,rfl,fin⟩
set_option maxHeartbeats 4000000 in
theorem Uk (a1 a2:Addr) (xs ys:Array Value):Meets (Builtin.«zip.__new__» ⟨[.type "zip",.ref a1,.ref a2],[]⟩) (fun _ R s=>s.heap.IsList a1 xs∧s.heap.IsTuple a2 ys ∧
      R (.ok (.ret (.ref (zh4 s.heap true false a1 a2).objs.size))) { s with heap:=zh5 s.heap true false a1 a2 }) :=
  .of_wp fun prog w A R s z9=>by
    obtain ⟨r1,r2,fin⟩:=z9
    obtain ⟨hp,g,d,tk,os⟩:=s -- here
    have hsub:=sub_zip
    have q1:Heap.IsList (Shared.heap ⟨hp,g,d,tk,os⟩) a1 xs:=r1
    have q2:Heap.IsTuple (Shared.heap ⟨hp.push { cls:=.type "list_iterator",data:=.fields #[.ref a1,.int 0 0] },g,d,tk,os⟩) a2 ys:=Heap.IsTuple.push r2 _
    wp_walk using wpAny_pyIter_list q1,wpAny_pyIter_tuple q2
    exact ⟨_,rfl,fin⟩
set_option maxHeartbeats 4000000 in
theorem T5 (a1 a2:Addr) (xs ys:Array Value):Meets (Builtin.«zip.__new__» ⟨[.type "zip",.ref a1,.ref a2],[]⟩) (fun _ R s=>s.heap.IsList a1 xs∧s.heap.IsList a2 ys ∧
      R (.ok (.ret (.ref (zh4 s.heap true true a1 a2).objs.size))) { s with heap:=zh5 s.heap true true a1 a2 }) :=
  .of_wp fun prog w A R s z9=>by
    obtain ⟨r1,r2,fin⟩:=z9
    obtain ⟨hp,g,d,tk,os⟩:=s -- here
    have hsub:=sub_zip
    have q1:Heap.IsList (Shared.heap ⟨hp,g,d,tk,os⟩) a1 xs:=r1
    have q2:Heap.IsList (Shared.heap ⟨hp.push { cls:=.type "list_iterator",data:=.fields #[.ref a1,.int 0 0] },g,d,tk,os⟩) a2 ys:=Heap.IsList.push r2 _
    wp_walk using wpAny_pyIter_list q1,wpAny_pyIter_list q2
    exact ⟨_,rfl,fin⟩
theorem a2m (k1 k2:Bool) (a1 a2:Addr) (xs ys:Array Value):Meets (Builtin.«zip.__new__» ⟨[.type "zip",.ref a1,.ref a2],[]⟩) (fun _ R s=>Az k1 s.heap a1 xs∧Az k2 s.heap a2 ys ∧
      R (.ok (.ret (.ref (zh4 s.heap k1 k2 a1 a2).objs.size))) { s with heap:=zh5 s.heap k1 k2 a1 a2 }):=by
  cases k1 <;> cases k2
  · exact Tg a1 a2 xs ys
  · exact Tq a1 a2 xs ys
  · exact Uk a1 a2 xs ys
  · exact T5 a1 a2 xs ys
theorem Vq {k:Bool} {h:Heap} {p a:Addr} (e:h.get? p=some (Zd k a)):Fw k h p a 0:=by
  cases k <;> exact ⟨_,e,rfl,rfl⟩
noncomputable section
variable {prog:Program} {w:World} {A:Around} {E:Value→Shared→Prop} {s:Shared}
theorem a2p {k1 k2:Bool} {a1 a2:Addr} {xs ys:Array Value} {Q:Value→Shared→Prop} (r1:Az k1 s.heap a1 xs) (r2:Az k2 s.heap a2 ys)
    (q:∀ h',Mj h' (s.heap.objs.size+4) (s.heap.objs.size+2) (s.heap.objs.size+3) s.heap.objs.size (s.heap.objs.size+1) .none→Fw k1 h' s.heap.objs.size a1 0→Fw k2 h' (s.heap.objs.size+1) a2 0 →
      (∀ c o,s.heap.get? c=some o→h'.get? c=some o)→Q (.ref (s.heap.objs.size+4)) { s with heap:=h' }):wpAny (model prog w) A (call (.type "zip") [.ref a1,.ref a2]) Q E s:=by
  refine callType_new F.called_zip (by decide) (F.typeCall_zip_2 _ _) (F.newCall_zip_2 _ _) (fun obj=>F.args_object_init_3 obj _ _) F.entry_zip_new (a2m k1 k2 a1 a2 xs ys) ⟨r1,r2,?_⟩
  have y1:(zh1 s.heap k1 a1).objs.size=s.heap.objs.size+1:=Heap.size_push ..
  have y2:(zh2 s.heap k1 k2 a1 a2).objs.size=s.heap.objs.size+2:=by rw [Heap.size_push,y1]
  have y3:(zh3 s.heap k1 k2 a1 a2).objs.size=s.heap.objs.size+3:=by rw [Heap.size_push,y2]
  have y4:(zh4 s.heap k1 k2 a1 a2).objs.size=s.heap.objs.size+4:=by rw [Heap.size_push,y3]
  have up:∀ {h:Heap} {o:Obj} {c:Addr} {u:Obj},h.get? c=some u→(h.push o).get? c=some u:=fun e=>Heap.get?_push_of_some _ e
  have g5:(zh5 s.heap k1 k2 a1 a2).get? (zh4 s.heap k1 k2 a1 a2).objs.size=some _:=Heap.get?_push_size _ rfl
  have g4:(zh5 s.heap k1 k2 a1 a2).get? (zh3 s.heap k1 k2 a1 a2).objs.size=some _:=up (Heap.get?_push_size _ rfl)
  have g3:(zh5 s.heap k1 k2 a1 a2).get? (zh2 s.heap k1 k2 a1 a2).objs.size=some _:=up (up (Heap.get?_push_size _ rfl))
  have g2:(zh5 s.heap k1 k2 a1 a2).get? (zh1 s.heap k1 a1).objs.size=some (Zd k2 a2):=up (up (up (Heap.get?_push_size _ rfl)))
  have g1:(zh5 s.heap k1 k2 a1 a2).get? s.heap.objs.size=some (Zd k1 a1):=up (up (up (up (Heap.get?_push_size _ rfl))))
  show _∧_
  rw [y2,y3,y4] at g5
  rw [y1,y2] at g3
  rw [y3] at g4
  rw [y1] at g2
  rw [y4]
  exact ⟨⟨_,g5,rfl⟩,q _ ⟨g5,g3,_,_,g4⟩ (Vq g1) (Vq g2) fun c o x=>up (up (up (up (up x))))⟩
end
end C
end
noncomputable section
set_option linter.all false
set_option maxRecDepth 100000
set_option maxHeartbeats 4000002
set_option autoImplicit false
namespace C
open PySem PySem.Spec PyProof.Rows L2
theorem Inv.a00 {X:Cx} {pins:List (Addr × Obj)} {σ:L2.St} {H:Hp} {s:Shared} {h':Heap} {t':Nat} {ch:List Addr} {n:Addr} {o:HO} (I:L2.Inv X pins σ H s) (hch:∀ b∈ch,Rx X pins H b)
    (k:∀ b u,b∉ch→s.heap.get? b=some u→h'.get? b=some u) (hp:s.heap.objs.size≤n) (new:Ce X.prog X.w (upd H n o) h' n o):L2.Inv X pins σ (upd H n o) { s with heap:=h',toks:=t' }:=by
  have fr:=I.hok.fresh hp
  have nn:∀ b u,s.heap.get? b=some u→b≠n:=fun b u e=>Nat.ne_of_lt (Nat.lt_of_lt_of_le (Heap.lt_size e) hp)
  have nch:∀ b u,H b=some u→b∉ch:=fun b u e z=>by rw [(hch b z).1] at e; cases e
  refine I.step (g':=s.gens) (d':=s.drawn) (ch:=ch) (fun b hb=>?_) (fun b u _ _ hc e _=>k b u hc e) (fun b u _ _ hc e _=>⟨u.slots,k b u hc e⟩) (fun b u _ e z=>by rw [ji (nn b u e)]; exact z)
    (fun b u hc e=>⟨u,k b u hc e⟩) (fun b xs e=>by rw [ji (yr e fr)]; exact e) (fun b u xs e=>by rw [ji (yr e fr)]; exact e) (fun b ps e=>⟨#[],by rw [ji (yr e fr),e]; simp⟩) (fun m hm=>?_) (fun b u e=>?_) I.bare
  · obtain ⟨f0,f1,f2,f3,f4,f5⟩:=hch b hb
    exact ⟨f3,f1,f4,f5⟩
  · obtain ⟨ob,es,ep,ho,r⟩:=hm
    exact ⟨ob,es,ep,k _ ob (fun z=>(hch _ z).2.1 rfl) ho,r⟩
  · by_cases hb:b=n
    · subst hb; rw [jh] at e; cases e; exact new
    · rw [ji hb] at e
      refine (I.hok b u e).stay (fun c v hc q=>k c v ?_ q) (fun c q=>by rw [ji (yr q fr)]; exact q) fun c xs q=>by rw [ji (yr q fr)]; exact q
      rcases hc with rfl | hc
      · exact nch _ _ e
      · exact nch _ _ hc
theorem Inv.a6t {X:Cx} {pins:List (Addr × Obj)} {σ:L2.St} {H:Hp} {s:Shared} {h':Heap} {t':Nat} {ch:List Addr} (I:L2.Inv X pins σ H s) (hch:∀ b∈ch,Rx X pins H b)
    (k:∀ b u,b∉ch→s.heap.get? b=some u→h'.get? b=some u):L2.Inv X pins σ H { s with heap:=h',toks:=t' }:=by
  have nch:∀ b u,H b=some u→b∉ch:=fun b u e z=>by rw [(hch b z).1] at e; cases e
  refine I.step (g':=s.gens) (d':=s.drawn) (ch:=ch) (fun b hb=>?_) (fun b u _ _ hc e _=>k b u hc e) (fun b u _ _ hc e _=>⟨u.slots,k b u hc e⟩) (fun b u _ e z=>z)
    (fun b u hc e=>⟨u,k b u hc e⟩) (fun b xs e=>e) (fun b u xs e=>e) (fun b ps e=>⟨#[],by rw [e]; simp⟩) (fun m hm=>?_) (fun b u e=>?_) I.bare
  · obtain ⟨f0,f1,f2,f3,f4,f5⟩:=hch b hb
    exact ⟨f3,f1,f4,f5⟩
  · obtain ⟨ob,es,ep,ho,r⟩:=hm
    exact ⟨ob,es,ep,k _ ob (fun z=>(hch _ z).2.1 rfl) ho,r⟩
  · refine (I.hok b u e).stay (fun c v hc q=>k c v ?_ q) (fun c q=>q) fun c xs q=>q
    rcases hc with rfl | hc
    · exact nch _ _ e
    · exact nch _ _ hc
noncomputable def Sq:Bool→PySem.W.Frag→Hp→Addr→List V→Prop
  | true,K,H,a,xs=>SqL K H a xs
  | false,K,H,a,xs=>SqT K H a xs
noncomputable section
variable {X:Cx} {pins:List (Addr × Obj)} {σ:L2.St} {H:Hp} {s:Shared} {a:Addr} {xs ys:List V} {k:Bool}
theorem Sq.row (I:L2.Inv X pins σ H s) (h:Sq k X.K H a xs):∃ its:List Value,yh xs its∧Az k s.heap a its.toArray:=by
  cases k with
  | true=>obtain ⟨its,r,p,_⟩:=I.list h; exact ⟨its,r,p.isList⟩
  | false=>obtain ⟨its,r,p,_⟩:=I.tuple h; exact ⟨its,r,p⟩
end
theorem a6i (n:Nat):Far (n+4) (n+2) (n+3) n (n+1):=⟨by
  have h1:n+4≠n+2:=by omega
  have h2:n+4≠n+3:=by omega
  have h3:n+4≠n:=by omega
  have h4:n+4≠n+1:=by omega
  have h5:n+2≠n+3:=by omega
  have h6:n+2≠n:=by omega
  have h7:n+2≠n+1:=by omega
  have h8:n+3≠n:=by omega
  have h9:n+3≠n+1:=by omega
  have h10:n≠n+1:=by omega
  exact List.nodup_cons.mpr ⟨by simp only [List.mem_cons,List.not_mem_nil,or_false,not_or]; exact ⟨h1,h2,h3,h4⟩,List.nodup_cons.mpr ⟨by simp only [List.mem_cons,List.not_mem_nil,or_false,not_or]; exact ⟨h5,h6,h7⟩,List.nodup_cons.mpr ⟨by simp only [List.mem_cons,List.not_mem_nil,or_false,not_or]; exact ⟨h8,h9⟩,List.nodup_cons.mpr ⟨by simp only [List.mem_cons,List.not_mem_nil,or_false]; exact h10,List.nodup_cons.mpr ⟨by simp,.nil⟩⟩⟩⟩⟩⟩
noncomputable section
variable {X:Cx} {B:Bas} {a b:Expr} {m m1 m2:M T} {pos p:Pos} {elts:List Expr} {x1:Nat} {tpos:Pos}
theorem Yg {K:PySem.W.Frag} {S:Hp} {as:List Addr} {v:V} {t:T} {xs:List T} (r:Rep K S as v t) (e:j4 t=some xs):∃ k a vs,v=.ref a∧Sq k K S a vs∧vh K S as vs xs∧(k=true∧t=.lst xs∨k=false∧t=.tup xs):=by
  cases r with
  | @lst a vs ts g1 g2=>simp only [j4] at e; cases e; exact ⟨true,a,vs,rfl,g1,g2,.inl ⟨rfl,rfl⟩⟩
  | @tup a vs ts g1 g2=>simp only [j4] at e; cases e; exact ⟨false,a,vs,rfl,g1,g2,.inr ⟨rfl,rfl⟩⟩
  | _=>simp only [j4,reduceCtorEq] at e
theorem Sq.mono {k:Bool} {K:PySem.W.Frag} {S H:Hp} {a:Addr} {vs:List V} (e:yq S H) (h:Sq k K S a vs):Sq k K H a vs:=by
  cases k with
  | true=>exact ou e h
  | false=>exact uy e h
end
end C
end
noncomputable section
set_option linter.all false
set_option maxRecDepth 100000
set_option maxHeartbeats 4000002
set_option autoImplicit false
namespace C
open PySem PySem.Spec PyProof.Rows L2
noncomputable section
variable {X:Cx}
variable {B:Bas} {o e:Expr} {m1 m2:M T} {apos cpos:Pos}
end
end C
end
noncomputable section
set_option linter.all false
set_option maxRecDepth 100000
set_option maxHeartbeats 4000002
set_option autoImplicit false
namespace C
open PySem PySem.Spec PyProof.Rows L2
theorem Uw (n d:Nat) (o:Option Int):sIx n d o=HT.sIx n d o:=by cases o <;> rfl
inductive oOf (K:PySem.W.Frag) (B:Bas) (m:M (Option Int)) (σ:L2.St) (H:Hp) (Q:Option Int→Hp→Prop):Prop
  | mk (st:Sta) (ps:List (V × T)) (S:Hp) (as:List Addr) (R:Rel K B st σ H ps S as) (o:Option Int) (st':Sta) (e:m st=some (o,st')) (q:∀ H' S' as',Rel K B st' σ H' ps S' as'→Q o H')
noncomputable section
variable {X:Cx} {B:Bas} {a e:Expr} {m:M T} {ml mh:M (Option Int)} {lo hi:Option Expr} {pos p2:Pos}
theorem Nz (h:PE X e (tOf X.K B m)):PO X (some e) (oOf X.K B (K1 m)):=fun pins s σ H Q I z9=>a70 h pins s σ H Q I (by
  obtain ⟨st,ps,S,as,R,o,st',eo,q⟩:=z9
  unfold K1 at eo
  split at eo
  · rename_i i s1 e1
    cases eo
    refine ⟨st,ps,S,as,R,.int i,_,e1,fun v H1 S1 as1 R1=>?_⟩
    cases R1.top
    exact ⟨i,rfl,q H1 S1 as1 R1.drop⟩
  · cases eo)
theorem Xp {s s':Sta} {v:T} (h:Ij m ml mh s=some (v,s')):∃ t s1 l s2 u,m s=some (t,s1)∧ml s1=some (l,s2)∧mh s2=some (u,s')∧a2h l u t=some v:=by
  unfold Ij at h
  split at h
  · rename_i t s1 e1
    split at h
    · rename_i l s2 e2
      split at h
      · rename_i u s3 e3
        split at h
        · rename_i w e4; cases h; exact ⟨t,s1,l,s2,u,e1,e2,e3,e4⟩
        · cases h
      · cases h
    · cases h
  · cases h
theorem vh.takes {K:PySem.W.Frag} {S:Hp} {as:List Addr}:∀ (n:Nat) {vs:List V} {ts:List T},vh K S as vs ts→vh K S as (vs.take n) (ts.take n)
  | 0,_,_,_=>.nil
  | _+1,_,_,.nil=>.nil
  | n+1,_,_,.cons h r=>.cons h (vh.takes n r)
theorem Vg {K:PySem.W.Frag} {S:Hp} {as:List Addr} {vs:List V} {ts:List T} (r:vh K S as vs ts) (lo hi:Option Int):vh K S as (a1p vs lo hi) (a82 ts lo hi):=by
  unfold a1p a82
  rw [Uw,Uw,r.length]
  exact vh.takes _ (r.drop _)
theorem Vd (ha:PE X a (tOf X.K B m)) (hl:PO X lo (oOf X.K B ml)) (hh:PO X hi (oOf X.K B mh)):PE X (.Subscript a (.Slice lo hi none p2) pos) (tOf X.K B (Ij m ml mh)) :=
  (a3k (a6h.or a8o) ha hl hh).imp fun σ H Q z9=>by
    obtain ⟨st,ps,S,as,R,t,st',e,q⟩:=z9
    obtain ⟨t1,s1,l,s2,u,e1,e2,e3,e4⟩:=Xp e
    refine ⟨st,ps,S,as,R,t1,s1,e1,fun v H1 S1 as1 R1=>⟨s1,_,S1,as1,R1,l,s2,e2,fun H2 S2 as2 R2=>⟨s2,_,S2,as2,R2,u,st',e3,fun H3 S3 as3 R3=>?_⟩⟩⟩
    have top:=R3.top
    cases top with
    | @lst b vs ts g1 g2 =>
      simp only [a2h] at e4; cases e4
      refine .inl ⟨b,vs,rfl,ou R3.sub g1,fun p hp=>?_⟩
      have x:=Ext.laid R3.sub hp (.lst (a1p vs l u))
      exact q _ _ _ _ ((R3.drop.ext x).push (.lst (SqL.of jh) ((Vg g2 l u).mono x.s nol)))
    | @tup b vs ts g1 g2 =>
      simp only [a2h] at e4
      split at e4
      · cases e4
      · rename_i hw
        cases e4
        refine .inr ⟨b,vs,rfl,uy R3.sub g1,?_,fun p hp=>?_⟩
        · rw [Uw,Uw,← g2.length] at hw; exact hw
        · have x:=Ext.laid R3.sub hp (.tup (a1p vs l u))
          exact q _ _ _ _ ((R3.drop.ext x).push (.tup (SqT.of jh) ((Vg g2 l u).mono x.s nol)))
    | _=>simp only [a2h,reduceCtorEq] at e4
end
noncomputable section
variable {prog:Program} {w:World} {A:Around} {E:Value→Shared→Prop} {s:Shared}
theorem R7 {sl:Addr} {t:Tok} {n:Nat} {Q:Int × Int × Nat→Shared→Prop} (hs:s.heap.IsSliceOf sl .none .none (.int (-1) t)) (h:Q ((n:Int) - 1,-1,n) s):wpAny (model prog w) A (Builtin.Slice.sliceApplied (.ref sl) (pure (n:Int))) Q E s:=by
  obtain ⟨os,g1,g2,g3⟩:=id hs
  have ea:Builtin.Slice.sliceAdjust none none (-1) (n:Int)=((n:Int) - 1,-1):=by
    unfold Builtin.Slice.sliceAdjust
    simp
  have en:Builtin.Slice.slicePlaces ((n:Int) - 1) (-1) (-1)=n:=by
    unfold Builtin.Slice.slicePlaces
    have h1:¬ ((-1:Int) > 0):=by decide -- here
    rw [if_neg h1]
    split
    · first
      | (simp; done)
      | (simp; omega)
    · omega
  unfold Builtin.Slice.sliceApplied Builtin.Slice.sliceFields
  refine wpAny_bind (wpAny_bind (wpAny_field g1 g3 (x:=.none) rfl (wpAny_bind (wpAny_field g1 g3 (x:=.none) rfl (wpAny_bind (wpAny_field g1 g3 (x:=.int (-1) t) rfl (wpAny_pure ?_)))))))
  refine wpAny_bind (HT.Eu (.int (-1) t) ?_)
  refine (show wpAny _ _ (if ((-1:Int)==0)=true then _ else _) _ _ s from ?_)
  rw [if_neg (by decide)]
  refine wpAny_bind (HT.Eu .none (wpAny_bind (HT.Eu .none (wpAny_bind (wpAny_pure ?_)))))
  refine (show wpAny _ _ (match Builtin.Slice.sliceAdjust none none (-1) (n:Int) with | (lo,hi)=>pure (lo,(-1:Int),Builtin.Slice.slicePlaces lo hi (-1))) _ _ s from ?_)
  rw [ea]
  refine (show wpAny _ _ (pure ((n:Int) - 1,(-1:Int),Builtin.Slice.slicePlaces ((n:Int) - 1) (-1) (-1))) _ _ s from ?_)
  rw [en]
  exact wpAny_pure h
theorem a9h {α β:Type} {f g:α→Option β}:∀ {l:List α},(∀ a∈l,f a=g a)→l.filterMap f=l.filterMap g
  | [],_=>rfl
  | a::l,h=>by rw [List.filterMap_cons,List.filterMap_cons,h a List.mem_cons_self,a9h fun b hb=>h b (List.mem_cons_of_mem _ hb)]
theorem a01 (xs:Array Value):((List.range xs.size).filterMap fun (m:Nat)=>xs[(((xs.size:Nat):Int) - 1+(m:Int) * (-1)).toNat]?)=xs.toList.reverse:=by
  have e:∀ m∈List.range xs.size,xs[(((xs.size:Nat):Int) - 1+(m:Int) * (-1)).toNat]? = some (xs.toList.reverse.getD m .none):=fun m hm=>by
    have hm:=List.mem_range.mp hm
    have e1:(((xs.size:Nat):Int) - 1+(m:Int) * (-1)).toNat=xs.size - 1 - m:=by omega
    rw [e1,List.getD_eq_getElem?_getD,List.getElem?_reverse (by rw [Array.length_toList]; exact hm),Array.getElem?_toList,Array.length_toList,Array.getElem?_eq_getElem (by omega)]
    rfl
  rw [a9h e]
  rw [show (fun (x:Nat)=>some (xs.toList.reverse.getD x Value.none))=some ∘ fun x=>xs.toList.reverse.getD x .none from rfl,List.filterMap_eq_map]
  apply List.ext_getElem
  · simp
  · intro i h1 h2
    simp [List.getD_eq_getElem?_getD,List.getElem?_eq_getElem h2]
theorem Wk {t sl:Addr} {k:Tok} {items:Array Value} {Q:Value→Shared→Prop} (ht:IsTup s.heap t items) (hs:s.heap.IsSliceOf sl .none .none (.int (-1) k))
    (h:Q (.ref s.heap.objs.size) { s with heap:=s.heap.push { cls:=.type "tuple",data:=.seq items.toList.reverse.toArray } }) (hsz:items.size≤sizeLine):wpAny (model prog w) A (getItem (.ref t) (.ref sl)) Q E s:=by
  have hz:sizeOk (.seq items.toList.reverse.toArray):=by
    show items.toList.reverse.toArray.size≤sizeLine
    rw [List.size_toArray,List.length_reverse,Array.length_toList]; exact hsz
  obtain ⟨os,g1,g2,g3⟩:=id hs
  have ty:s.TypeIs (.ref sl) "slice" := ⟨os,g1,g2⟩
  unfold getItem
  try with_reducible refine wpAny_holding ?_
  first | refine wpAny_bind (wpAny_pure ?_) | skip
  refine wpAny_bind (wpAny_sequenceKey ht.typeIs (by decide) (wpAny_bind (wpAny_callSpecial?_slot (name:=Str.ofString "__getitem__") ht.typeIs PyProof.Rows.slot_tuple_getitem
    (wpAny_call_entry PyProof.Rows.slot_tuple_getitem ht.typeIs entry_tuple_getitem ?_ (args_tuple_getitem _ _)))))
  refine (show wpAny _ _ (Builtin.Tuple.tupleItemsOf (.ref t) >>= _) _ _ s from wpAny_bind (tupleItemsOf_ ht (wpAny_bind (wpAny_typeOf ty ?_))))
  rw [if_pos (by decide)]
  refine wpAny_bind (R7 hs ?_)
  refine (show wpAny _ _ (if ((((items.size:Nat):Int) - 1)==0&&(-1:Int)==1&&items.size==items.size)=true then _ else _) _ _ s from ?_)
  rw [if_neg (by rw [show ((-1:Int)==1)=false from rfl,Bool.and_false,Bool.false_and]; exact Bool.false_ne_true),a01]
  first
    | exact wpAny_bind (m:=Builtin.Tuple.tupleExact _) (wpAny_newObj_type (wpAny_pure ⟨_,rfl,wpAny_pure h⟩) hz)
    | exact wpAny_bind (m:=Builtin.Tuple.tupleExact _) (wpAny_newObj_type (wpAny_bind (wpAny_pure (wpAny_pure ⟨_,rfl,wpAny_pure h⟩))) hz)
    | exact wpAny_bind (wpAny_bind (m:=Builtin.Tuple.tupleExact _) (wpAny_newObj_type (wpAny_pure (wpAny_pure ⟨_,rfl,wpAny_pure h⟩)) hz))
    | exact wpAny_bind (wpAny_bind (m:=Builtin.Tuple.tupleExact _) (wpAny_newObj_type (wpAny_pure ⟨_,rfl,wpAny_pure h⟩) hz))
end
noncomputable section
variable {X:Cx} {B:Bas} {e:Expr} {te:TE} {m m1 m2:M T} {pos p p2 p3 p4:Pos} {j:Nat}
noncomputable def ab8 (K:PySem.W.Frag):V→Hp→VK→Prop:=fun x H Q=>∃ a xs,x=.ref a∧((SqL K H a xs∧∀ p,H p=none→Q (.ref p) (upd H p (.lst xs.reverse)))∨(SqT K H a xs∧∀ p,H p=none→Q (.ref p) (upd H p (.tup xs.reverse))))
theorem a7i:PE X (.UnaryOp .USub (.Constant (.int 1) j p4) p3) (tC (.int (-1))):=(a9l a5l a5t).imp fun σ H Q q=>⟨1,rfl,q⟩
theorem a7p (he:PE X e te):PE X (.Subscript e (.Slice none none (some (.UnaryOp .USub (.Constant (.int 1) j p4) p3)) p2) pos) (fun σ H Q=>te σ H fun x H1=>ab8 X.K x H1 Q):=by
  intro pins s σ H Q I h
  refine Subscript_ (thn (he pins s σ H _ I h) fun v s1 z0=>?_)
  obtain ⟨x,H1,I1,r1,q1⟩:=z0
  refine wpAny_Slice ?_
  rw [evalPart_none]
  refine wpAny_pure (wpAny_pure ?_) -- here
  rw [evalPart_some]
  refine thn (a7i pins s1 σ H1 (fun v H2=>v=.int (-1)∧H2=H1) I1 ⟨rfl,rfl⟩) fun vk s2 z0=>?_
  obtain ⟨y,H2,I2,r2,ey,eH⟩:=z0
  subst ey eH
  obtain ⟨t,rfl⟩:=r2
  obtain ⟨a,xs,rfl,hx⟩:=q1
  cases r1
  have I4:L2.Inv X pins σ H2 { s2 with heap:=s2.heap.push { cls:=.type "slice",data:=.fields #[.none,.none,.int (-1) t] } }:=I2.kept (t':=s2.toks) fun b ob q=>Heap.get?_push_of_some _ q
  rcases hx with ⟨hx,q⟩ | ⟨hx,q⟩
  · obtain ⟨its,r,ht,hz⟩:=I4.list hx
    have hlen:=r.length
    refine tail_any (ops:=[.ref a,.ref s2.heap.objs.size]) (T := "list") ht.isList.typeIs slot_list_getitem.lookup ?_ (by with_unfolding_all rfl)
    refine wpAny_getItem_list_slice ht.isList (Heap.IsSliceOf.new ..) .none .none (.int (-1) t) (by decide) ?_ (by rw [List.size_toArray] <;> omega)
    rw [PySem.W.krv_pick]
    refine ⟨.ref _,_,I4.laid (t':=s2.toks) (o:=.lst xs.reverse) (fun b ob q=>Heap.get?_push_of_some _ q) (Nat.le_refl _) ?_,rfl,q _ (I4.hok.fresh (Nat.le_refl _))⟩
    exact ⟨by rw [List.length_reverse]; exact hz,_,0,by simpa using r.reverse,Heap.get?_push_size _ rfl⟩
  · obtain ⟨its,r,ht,hz⟩:=I4.tuple hx
    have hlen:=r.length
    refine tail_any (ops:=[.ref a,.ref s2.heap.objs.size]) (T := "tuple") ht.typeIs PyProof.Rows.slot_tuple_getitem.lookup ?_ (by with_unfolding_all rfl)
    refine Wk ht (Heap.IsSliceOf.new ..) ?_ (by rw [List.size_toArray] <;> omega)
    refine ⟨.ref _,_,I4.laid (t':=s2.toks) (o:=.tup xs.reverse) (fun b ob q=>Heap.get?_push_of_some _ q) (Nat.le_refl _) ?_,rfl,q _ (I4.hok.fresh (Nat.le_refl _))⟩
    exact ⟨by rw [List.length_reverse]; exact hz,its.reverse,r.reverse,a1o.new _ its.reverse.toArray⟩
theorem a6u (ha:PE X e (tOf X.K B m)):PE X (.Subscript e (.Slice none none (some (.UnaryOp .USub (.Constant (.int 1) j p4) p3)) p2) pos) (tOf X.K B (mUn a7k m)) :=
  (a7p ha).imp fun σ H Q z9=>by
    obtain ⟨st,ps,S,as,R,t,st',e,q⟩:=z9
    obtain ⟨t1,e1,e3⟩:=Zh e
    refine ⟨st,ps,S,as,R,t1,st',e1,fun v H1 S1 as1 R1=>?_⟩
    have top:=R1.top
    cases top with
    | @lst a vs ts g1 g2 =>
      simp only [a7k] at e3; cases e3
      refine ⟨a,vs,rfl,.inl ⟨ou R1.sub g1,fun p hp=>?_⟩⟩
      have x:=Ext.laid R1.sub hp (.lst vs.reverse)
      exact q _ _ _ _ ((R1.drop.ext x).push (.lst (SqL.of jh) (g2.reverse.mono x.s nol)))
    | @tup a vs ts g1 g2 =>
      simp only [a7k] at e3; cases e3
      refine ⟨a,vs,rfl,.inr ⟨uy R1.sub g1,fun p hp=>?_⟩⟩
      have x:=Ext.laid R1.sub hp (.tup vs.reverse)
      exact q _ _ _ _ ((R1.drop.ext x).push (.tup (SqT.of jh) (g2.reverse.mono x.s nol)))
    | _=>simp only [a7k,reduceCtorEq] at e3
end
end C
end
noncomputable section
set_option linter.all false
set_option autoImplicit false
namespace C
open PySem PySem.Spec L2
noncomputable def Y0 (K:PySem.W.Frag) (u:Value) (t:T):Prop:=∃ v,Dc v u∧∀ S as,Rep K S as v t
noncomputable def Sg (K:PySem.W.Frag) (us:List Value) (ts:List T):Prop:=∃ vs,yh vs us∧∀ S as,vh K S as vs ts
noncomputable section
variable {K:PySem.W.Frag}
theorem Y0.int {i:Int} {tk:Tok}:Y0 K (.int i tk) (.int i):=⟨.int i,⟨tk,rfl⟩,fun _ _=>.int i⟩
theorem Y0.str {x:Str} {tk:Tok}:Y0 K (.str x tk) (.str x):=⟨.str x,⟨tk,rfl⟩,fun _ _=>.str x⟩
theorem Y0.bl {b:Bool}:Y0 K (.bool b) (.bl b):=⟨.bl b,rfl,fun _ _=>.bl b⟩
theorem Y0.non:Y0 K .none .non:=⟨.non,rfl,fun _ _=>.non⟩
theorem Sg.nil:Sg K [] []:=⟨[],.nil,fun _ _=>.nil⟩
theorem Sg.cons {u:Value} {t:T} {us:List Value} {ts:List T} (h:Y0 K u t) (hs:Sg K us ts):Sg K (u::us) (t::ts):=by
  obtain ⟨v,r,e⟩:=h
  obtain ⟨vs,rs,es⟩:=hs
  exact ⟨v::vs,.cons r rs,fun S as=>.cons (e S as) (es S as)⟩
theorem Y0.tup {a:Addr} {us:List Value} {n:Nat} {sl:Array (Option Value)} {ts:List T} (h:K.lookup a=some ⟨.type "tuple",none,.seq us.toArray n,sl⟩) (hz:us.length≤1000) (hs:Sg K us ts):Y0 K (.ref a) (.tup ts):=by
  obtain ⟨vs,rs,es⟩:=hs
  refine ⟨.ref a,rfl,fun S as=>.tup (.inr ⟨_,us.toArray,n,h,rfl,rfl,rfl,?_,?_⟩) (es S as)⟩
  · rw [List.size_toArray,sizeLine_eq]; omega
  · exact rs
theorem Y0.lst {a:Addr} {us:List Value} {n:Nat} {sl:Array (Option Value)} {ts:List T} (h:K.lookup a=some ⟨.type "list",none,.seq us.toArray n,sl⟩) (hz:us.length≤1000) (hs:Sg K us ts):Y0 K (.ref a) (.lst ts):=by
  obtain ⟨vs,rs,es⟩:=hs
  refine ⟨.ref a,rfl,fun S as=>.lst (.inr ⟨_,us.toArray,n,h,rfl,rfl,rfl,?_,?_⟩) (es S as)⟩
  · rw [List.size_toArray,sizeLine_eq]; omega
  · exact rs
end
noncomputable section
variable {X:Cx} {B:Bas} {pos:Pos}
end
end C
end
noncomputable section
set_option linter.all false
set_option maxRecDepth 100000
set_option autoImplicit false
namespace C
open PySem PySem.Spec PyProof.Rows
theorem aa1 (t:SetTable) (n:Nat):(t.orStandIn n).led=t.led∧(t.plain=false→(t.orStandIn n).plain=false):=by
  unfold SetTable.orStandIn
  cases t.fits n
  · exact ⟨rfl,fun _=>rfl⟩
  · exact ⟨rfl,id⟩
theorem a73 (t:SetTable) (es:Array (Int × Value)) (h:Int) (x:Value):(layNew t es h x).2.1.led=t.led∧(t.plain=false→(layNew t es h x).2.1.plain=false):=by
  unfold layNew
  cases t.freeSlot h with
  | none=>exact ⟨rfl,fun _=>rfl⟩
  | some p=>exact aa1 _ _
theorem X4 {t t':SetTable} {hs:Array Int} {n:Nat} {ord:Array Nat} (h:t.relaid hs n=some (t',ord)):t'.led=t.led∧t'.plain=t.plain:=by
  unfold SetTable.relaid SetTable.laid at h
  cases hl:SetTable.layClean (SetTable.sizeAbove n - 1) hs with
  | none=>rw [hl] at h; cases h -- here
  | some ow=>rw [hl] at h; cases h; exact ⟨rfl,rfl⟩
theorem a0h (t:SetTable) (es:Array (Int × Value)) (n:Nat):(relayAll t es n).2.1.led=t.led∧(t.plain=false→(relayAll t es n).2.1.plain=false):=by
  unfold relayAll
  cases hr:t.relaid (es.map (·.1)) n with
  | none=>exact ⟨rfl,fun _=>rfl⟩
  | some p =>
    obtain ⟨t',ord⟩:=p
    have h:=X4 hr
    dsimp only
    split
    · exact ⟨h.1,fun hp=>h.2.trans hp⟩
    · exact ⟨rfl,fun _=>rfl⟩
noncomputable def a0r (w:World):Bool:=w.params.followText "set-order"
noncomputable def Ks (P:Program) (w:World) (o:Obj) (l:List Str):Prop :=
  ∃ es ep t,o.ExactSet∧o.data=.set es ep t∧ElemsOf (strKind P w) es.toList∧l=es.toList.map (fun e=>strOf e.2)∧l.Nodup∧es.size<scanBound∧t.fits es.size=true∧t.led=!a0r w∧(l≠[]→t.plain=false)
theorem a5a {P:Program} {w:World} {es:List (Int × Value)} (h:ElemsOf (strKind P w) es) {e:Int × Value} (he:e∈es):∃ tk,e.2=.str (strOf e.2) tk:=by
  obtain ⟨⟨k,hk,_⟩,_⟩:=h e he
  obtain ⟨tk,e'⟩:=Value.isStrOf_shape hk
  exact ⟨tk,by rw [e']; rfl⟩
theorem abb {P:Program} {w:World} {es:List (Int × Value)} (h:ElemsOf (strKind P w) es) {x:Str}:x∈es.map (fun e=>strOf e.2)↔∃ e∈es,(strKind P w).is x e.2=true:=by
  constructor
  · intro hx
    obtain ⟨e,he,rfl⟩:=List.mem_map.mp hx
    obtain ⟨tk,e'⟩:=a5a h he
    refine ⟨e,he,?_⟩
    rw [e']
    exact strKind_is _ _ _ _
  · rintro ⟨e,he,hk⟩
    obtain ⟨tk,e'⟩:=Value.isStrOf_shape hk
    exact List.mem_map.mpr ⟨e,he,by rw [e']; rfl⟩
noncomputable section
variable {prog:Program} {w:World} {A:Around} {E:Value→Shared→Prop} {s:Shared}
theorem a5r {a:Addr} {o:Obj} {es es':Array (Int × Value)} {ep:Nat} {t t':SetTable} (ho:s.heap.get? a=some o) (hd:o.data=.set es ep t) :
    (s.heap.update a (Obj.putSet es' t')).get? a=some { o with data:=.set es' (ep+1) t' }:=by
  have g:=Heap.get?_update_self (Obj.putSet es' t') ho (by rw [putSet_of es' t' hd]; rfl)
  rwa [putSet_of es' t' hd] at g
theorem Zz {g:Bool→Sem Unit} (hg:∀ (b:Bool) (s1:Shared) (Q1:Unit→Shared→Prop),Q1 () s1→wpAny (model prog w) A (g b) Q1 E s1)
    {a:Addr} {o:Obj} {es e1:Array (Int × Value)} {ep:Nat} {t t2:SetTable} (ho:s.heap.get? a=some o) (hd:o.data=.set es ep t) (hb:e1.size<scanBound) (hf:t2.fits e1.size=true) {dm:Bool} {R:Option Bool→Shared→Prop}
    (k:∀ h' e' ep' t',Heap.SameBut a s.heap h'→h'.get? a=some { o with data:=.set e' ep' t' }→e'.toList.Perm e1.toList→t'.fits e'.size=true→t'.led=t2.led→(t2.plain=false→t'.plain=false)→R (some true) { s with heap:=h' }) :
    wpAny (model prog w) A (do
        storeSet a e1 t2
        if (!dm&&t2.tooFull)=true then do
            g (relayAll t2 e1 (SetTable.grown e1.size)).2.2
            storeSet a (relayAll t2 e1 (SetTable.grown e1.size)).1 (relayAll t2 e1 (SetTable.grown e1.size)).2.1
            pure (some true)
          else pure (some true)) R E s:=by -- here
  have at1:=a5r (es':=e1) (t':=t2) ho hd
  have sb:=Heap.SameBut.update s.heap a (Obj.putSet e1 t2)
  refine wpAny_bind (wpAny_storeSet_of ho hd ?_ (fits_of_scanBound hb))
  by_cases hc:(!dm&&t2.tooFull)=true
  · rw [if_pos hc]
    have pm:=relayAll_perm t2 e1 (SetTable.grown e1.size)
    have ft:=relayAll_fits t2 e1 (SetTable.grown e1.size)
    have ld:=a0h t2 e1 (SetTable.grown e1.size)
    generalize relayAll t2 e1 (SetTable.grown e1.size)=Rl at pm ft ld ⊢
    obtain ⟨e2,t3,gv⟩:=Rl
    dsimp only at pm ft ld ⊢
    have sz:e2.size=e1.size:=by rw [← Array.length_toList,pm.length_eq,Array.length_toList]
    have hb2:e2.size<scanBound:=by omega
    refine wpAny_bind (hg _ _ _ (wpAny_bind (wpAny_storeSet_of (es:=e1) (ep:=ep+1) (t:=t2) at1 rfl (wpAny_pure ?_) (fits_of_scanBound hb2))))
    exact k _ e2 (ep+1+1) t3 (sb.trans (Heap.SameBut.update _ a _)) (a5r (s:={ s with heap:=s.heap.update a (Obj.putSet e1 t2) }) (o:={ o with data:=.set e1 (ep+1) t2 }) (es:=e1) (ep:=ep+1) (t:=t2) at1 rfl) pm ft ld.1 ld.2
  · rw [if_neg hc]
    exact wpAny_pure (k _ _ _ _ sb at1 (.refl _) hf rfl id)
theorem a8t {a:Addr} {o:Obj} {l:List Str} {x:Str} {tk:Tok} {Q:Bool→Shared→Prop} (ho:s.heap.get? a=some o) (hS:Ks prog w o l) (hr:l.length+1<scanBound)
    (k:∀ b h' o' l',Heap.SameBut a s.heap h'→h'.get? a=some o'→Ks prog w o' l'→l'.Perm (if x∈l then l else l++[x])→Q b { s with heap:=h' }) :
    wpAny (model prog w) A (setAddHashed a (.str x tk) ((strKind prog w).hash x)) Q E s:=by
  obtain ⟨es,ep,t,hex,hd,hel,rfl,hnd,hb,hf,hled,hpl⟩:=hS
  have hkey:(strKind prog w).is x (.str x tk)=true:=strKind_is _ _ _ _
  have hsc:(Value.str x tk).scannable=true:=rfl
  rw [List.length_map,Array.length_toList] at hr
  have hmem:=abb hel (x:=x)
  unfold setAddHashed setAddHashedIn -- here
  refine wpAny_holding (wpAny_bind (wpAny_setState_of ho hd hf ?_)) -- here
  dsimp only
  rw [byScan_of hsc hb hel]
  simp only [↓reduceIte]
  unfold setAddByScan
  refine wpAny_bind (wpAny_bind (wpAny_rule (wpAny_bind (wpAny_setScan_of hkey ho hd hf hel ?_))))
  cases hfi:List.findIdx? (fun e=>(strKind prog w).is x e.2) es.toList with
  | some j =>
    dsimp only
    obtain ⟨hj,hpj,_⟩:=List.findIdx?_eq_some_iff_getElem.mp hfi
    have hx:=hmem.mpr ⟨es.toList[j],List.getElem_mem hj,hpj⟩
    refine wpAny_pure (wpAny_pure ?_) -- here
    have e:s = { s with heap:=s.heap }:=by cases s; rfl -- here
    rw [e]
    exact k _ s.heap o _ (Heap.SameBut.refl a s.heap) ho ⟨es,ep,t,hex,hd,hel,rfl,hnd,hb,hf,hled,hpl⟩ (by rw [if_pos hx])
  | none =>
    dsimp only
    have hx:x∉es.toList.map (fun e=>strOf e.2):=fun hx=>by
      obtain ⟨e,he,hp⟩:=hmem.mp hx
      have:=List.findIdx?_eq_none_iff.mp hfi e he
      rw [hp] at this; cases this
    have pm:=layNew_perm t es ((strKind prog w).hash x) (.str x tk)
    have ft:=layNew_fits t es ((strKind prog w).hash x) (.str x tk)
    have ld:=a73 t es ((strKind prog w).hash x) (.str x tk)
    generalize hL:layNew t es ((strKind prog w).hash x) (.str x tk)=L at pm ft ld ⊢
    obtain ⟨e1,t1,dm,gave⟩:=L
    dsimp only at pm ft ld ⊢
    rw [Array.toList_push] at pm
    have hb1:e1.size<scanBound:=by rw [← Array.length_toList,pm.length_eq,List.length_append,Array.length_toList]; simpa using hr
    have gw:∀ (b:Bool) (s1:Shared) (Q1:Unit→Shared→Prop),Q1 () s1→wpAny (model prog w) A (match b with | true=>rule "set.scan.the-table-gave-way" | false=>pure ()) Q1 E s1 :=
      fun b s1 Q1 q=>by cases b <;> first | exact wpAny_pure q | exact wpAny_rule q
    have fin:∀ (t2:SetTable),t2.led=t1.led→t2.plain=false→∀ h' e' ep' t',Heap.SameBut a s.heap h'→h'.get? a=some { o with data:=.set e' ep' t' }→e'.toList.Perm e1.toList→t'.fits e'.size=true→t'.led=t2.led→(t2.plain=false→t'.plain=false)→Q true { s with heap:=h' }:=by
      intro t2 l2 p2 h' e' ep' t' sb ge pe fe le pl
      have pe':(e'.toList.map fun e=>strOf e.2).Perm (es.toList.map (fun e=>strOf e.2)++[x]):=by
        have:=(pe.trans pm).map (fun e:Int × Value=>strOf e.2)
        rwa [List.map_append] at this
      have sz:e'.size=e1.size:=by rw [← Array.length_toList,pe.length_eq,Array.length_toList]
      refine k true h' _ (e'.toList.map fun e=>strOf e.2) sb ge ⟨e',ep',t',hex,rfl,((hel.push hkey hsc).perm pm).perm pe,rfl,?_,by omega,fe,by rw [le,l2,ld.1,hled],fun _=>pl p2⟩ (by rw [if_neg hx]; exact pe')
      refine (pe'.nodup_iff).mpr ?_
      rw [List.nodup_append]
      refine ⟨hnd,by simp,fun a ha b hb e=>?_⟩
      rw [List.mem_singleton] at hb
      subst hb e
      exact hx ha
    refine wpAny_bind (gw _ _ _ ?_)
    by_cases hp:t1.plain=true
    · rw [if_pos hp]
      refine wpAny_bind ?_
      rw [hashByValue_scannable 8 hsc] -- here
      refine wpAny_pure ?_
      refine Zz gw ho hd hb1 (t2:={ t1 with plain:=false }) (SetTable.fits_plain_off ft) fun h' e' ep' t' c1 c2 c3 c4 c5 c6=>?_
      exact wpAny_pure (fin { t1 with plain:=false } rfl rfl h' e' ep' t' c1 c2 c3 c4 c5 c6)
    · rw [if_neg hp]
      refine wpAny_bind (wpAny_pure ?_)
      simp only [↓reduceIte]
      refine Zz gw ho hd hb1 ft fun h' e' ep' t' c1 c2 c3 c4 c5 c6=>?_
      exact wpAny_pure (fin _ rfl (by simpa using hp) h' e' ep' t' c1 c2 c3 c4 c5 c6)
end
end C
end
noncomputable section
set_option linter.all false
set_option maxRecDepth 100000
set_option maxHeartbeats 4000002
set_option autoImplicit false
namespace C
open PySem PySem.Spec PyProof.Rows
noncomputable section
variable {prog:Program} {w:World} {A:Around} {R:Result→Shared→Prop} {I:Addr} {fp wr:List Addr} {G:Array GenState→Array GenState→Prop} {n:Nat} {P:Nat→Value→Prop} {St:Nat→Shared→Prop} -- here
theorem a7h (W:WalksS prog w A.in1 I fp wr G n P St) (S:Addr) (hSf:S∉fp) (val:Nat→Str) (hval:∀ i v,P i v→∃ t,v=.str (val i) t)
    (room:∀ l:List Str,l.Nodup→(∀ x∈l,∃ j,j<n∧val j=x)→l.length+1<scanBound) :
    ∀ (k i:Nat) (s:Shared) (o:Obj) (l:List Str),n - i=k→i≤n→St i s→s.heap.get? S=some o→Ks prog w o l→(∀ x,x∈l↔∃ j,j<i∧val j=x) →
      (∀ s' o' l',Moved (S::wr) G s s'→s'.heap.get? S=some o'→Ks prog w o' l'→(∀ x,x∈l'↔∃ j,j<n∧val j=x)→R (.ok (.ret .none)) s') →
      codeAny (model prog w) A (.builtin "set.update.loop" ⟨[.ref S,.ref I],[]⟩) R s:=by -- here
  have notin:S∉wr:=fun h=>hSf (W.sub _ h)
  have more:∀ b∈wr,b∈S::wr:=fun b hb=>List.mem_cons_of_mem _ hb
  intro k
  induction k with
  | zero =>
    intro i s o l hk hi hst ho hS hl hR
    obtain rfl:i=n:=by omega
    refine codeAny_builtin PyProof.Rows.F.entry_set_update_loop ?_
    rw [Around.under_plainId PyProof.Rows.F.plain_set_update_loop _]
    show wpAny _ A.in1 (pyNext (.ref I) >>= _) _ _ s -- here
    refine wpAny_bind (W.done s _ _ hst fun s1 mv=>?_)
    show wpAny _ A.in1 (ret Value.none) _ _ s1
    exact wpAny_pure (hR s1 o l (mv.mono more) (mv.heap S _ notin ho) hS hl)
  | succ k ih =>
    intro i s o l hk hi hst ho hS hl hR
    have lt:i<n:=by omega
    refine codeAny_builtin PyProof.Rows.F.entry_set_update_loop ?_
    rw [Around.under_plainId PyProof.Rows.F.plain_set_update_loop _]
    show wpAny _ A.in1 (pyNext (.ref I) >>= _) _ _ s -- here
    refine wpAny_bind (W.item i s _ _ lt hst fun v s1 hP st1 mv=>?_)
    obtain ⟨t,rfl⟩:=hval i v hP -- here
    have ho1:=mv.heap S _ notin ho
    show wpAny _ A.in1 (holding [Value.str (val i) t] (setAdd S (.str (val i) t)) >>= _) _ _ s1
    refine wpAny_bind (wpAny_holding ?_) -- here
    unfold setAdd
    refine wpAny_holding (wpAny_bind ((strKind prog w).pyHash (k:=val i) (strKind_is _ _ _ _) ?_))
    have hnd:l.Nodup:=let ⟨_,_,_,_,_,_,e,n,_⟩:=hS; n
    refine a8t (s:={ s1 with toks:=s1.toks+1 }) ho1 hS (room l hnd fun x hx=>?_) fun b h' o' l' sb ge hS' pe=>?_
    · obtain ⟨j,hj,e⟩:=(hl x).mp hx
      exact ⟨j,by omega,e⟩
    · have hl':∀ x,x∈l'↔∃ j,j<i+1∧val j=x:=fun x=>by
        rw [pe.mem_iff]
        constructor
        · intro hx
          have:x∈l∨x=val i:=by
            split at hx
            · exact .inl hx
            · rcases List.mem_append.mp hx with h | h
              · exact .inl h
              · exact .inr (List.mem_singleton.mp h) -- here
          rcases this with h | h
          · obtain ⟨j,hj,e⟩:=(hl x).mp h
            exact ⟨j,by omega,e⟩
          · exact ⟨i,by omega,h.symm⟩
        · rintro ⟨j,hj,e⟩
          by_cases hji:j=i
          · subst hji
            split
            · rename_i h; rw [← e]; exact h
            · exact List.mem_append_right _ (List.mem_singleton.mpr e.symm)
          · have:=(hl x).mpr ⟨j,by omega,e⟩
            split
            · exact this
            · exact List.mem_append_left _ this
      refine wpAny_pure ⟨plainId_quiet PyProof.Rows.F.plain_set_update_loop _,ih (i+1) _ o' l' (by omega) lt (W.frame _ s1 _ _ st1 (Nat.le_succ _) fun b hb ob e=>?_) ge hS' hl' fun s2 o2 l2 mv2 g2 hS2 hl2=>?_⟩
      · rw [sb.2 b (fun h:b=S=>hSf (by rw [← h]; exact hb))]; exact e
      · refine hR s2 o2 l2 (Moved.trans W.gtrans ((mv.mono more).then_heap (Nat.le_succ _) fun b ob hb e=>?_) mv2) g2 hS2 hl2
        rw [sb.2 b (fun h:b=S=>hb (by rw [h]; exact List.mem_cons_self))]; exact e
end
noncomputable section
variable {prog:Program} {w:World} {A:Around} {E:Value→Shared→Prop} {s:Shared}
noncomputable abbrev Y5 (w:World):Obj:={ cls:=.type "set",dict:=none,data:=.set #[] 0 (.fresh 0 0 (!a0r w)) }
theorem a86:Ks prog w (Y5 w) []:=⟨#[],0,.fresh 0 0 (!a0r w),⟨rfl,rfl,rfl⟩,rfl,fun e he=>by simp at he,rfl,List.nodup_nil,by decide,rfl,rfl,fun h=>absurd rfl h⟩
theorem a3t (a:Value) {Q1:Value→Shared→Prop} (h:Q1 (.ref s.heap.objs.size) { s with heap:=s.heap.push (Y5 w) }) :
    codeAny (model prog w) A (.call (.builtin "set.__new__") ⟨[.type "set",a],[]⟩) (wants Q1 E) s:=by
  refine codeAny_of_tree ?_
  show wpAny _ A.in1 (do checkBuiltinCall "set.__new__" ⟨[.type "set",a],[]⟩; again (.builtin "set.__new__" ⟨[.type "set",a],[]⟩)) _ _ s -- here
  refine wpAny_bind (wpAny_of_eq (PySem.F.newCall_set_1 a) (wpAny_pure ⟨plainId_quiet PySem.F.plain_set_new _,codeAny_builtin PySem.F.entry_set_new ?_⟩))
  rw [Around.under_plainId PySem.F.plain_set_new _]
  unfold Builtin.«set.__new__» Builtin.Frozenset.newClass -- here
  have sub:=sub_set_self
  obtain ⟨hp,g,d,tk,os⟩:=s -- here
  dsimp only
  wp_walk
  refine wpAny_askSetting (wpAny_pure ?_) -- here
  dsimp only
  simp only [newObj]
  refine wpAny_bind (wpAny_alloc (wpAny_pure ?_)) -- here
  exact wpAny_pure h
end
end C
end
noncomputable section
set_option linter.all false
set_option maxRecDepth 100000
set_option maxHeartbeats 4000002
set_option autoImplicit false
namespace C
open PySem PySem.Spec PyProof.Rows
noncomputable section
variable {prog:Program} {w:World} {A:Around} {E:Value→Shared→Prop} {s:Shared}
theorem Uq {l:Addr} {items:Array Value} {ss:List Str} {Q:Value→Shared→Prop} (hh:A.handled=none) (hl:s.heap.IsList l items) (hi:StrsAre items.toList ss)
    (room:∀ m:List Str,m.Nodup→(∀ x∈m,x∈ss)→m.length+1<scanBound)
    (h:∀ (h':Heap) (tk:Nat) (o:Obj) (m:List Str),h'.get? s.heap.objs.size=some o→Ks prog w o m→(∀ x,x∈m↔x∈ss)→(∀ b u,s.heap.get? b=some u→h'.get? b=some u)→Q (.ref s.heap.objs.size) { s with heap:=h',toks:=tk }) :
    wpAny (model prog w) A (call (.type "set") [.ref l]) Q E s:=by -- here
  have lens:items.size=ss.length:=by rw [← Array.length_toList]; exact hi.length
  have vals:∀ (i:Nat) (v:Value),items[i]? = some v→∃ t,v=.str (ss.getD i ⟨#[]⟩) t:=fun i v hv=>by
    have go:∀ {vs:List Value} {ss:List Str},StrsAre vs ss→∀ (i:Nat) (v:Value),vs[i]? = some v→∃ t,v=.str (ss.getD i ⟨#[]⟩) t:=by
      intro vs ss hs
      induction hs with
      | nil=>intro i v h; simp at h
      | cons x t h ih =>
        intro i v h
        cases i with
        | zero=>simp at h; exact ⟨t,by rw [← h]; rfl⟩
        | succ i=>simp only [List.getElem?_cons_succ] at h; obtain ⟨u,e⟩:=ih i v h; exact ⟨u,by rw [e]; rfl⟩
    exact go hi i v (by rw [Array.getElem?_toList]; exact hv)
  have mems:∀ x,(∃ j,j<items.size∧ss.getD j ⟨#[]⟩=x)↔x∈ss:=fun x=>by
    rw [lens]
    constructor
    · rintro ⟨j,hj,rfl⟩
      rw [List.getD_eq_getElem?_getD,List.getElem?_eq_getElem hj]
      exact List.getElem_mem hj
    · intro hx
      obtain ⟨j,hj,e⟩:=List.getElem_of_mem hx
      exact ⟨j,hj,by rw [List.getD_eq_getElem?_getD,List.getElem?_eq_getElem hj]; exact e⟩
  have nil0:∀ x:Str,x∈([]:List Str)↔∃ j,j<0∧ss.getD j ⟨#[]⟩=x:=fun x=>by
    constructor
    · intro z; cases z
    · rintro ⟨j,hj,_⟩; exact absurd hj (Nat.not_lt_zero _)
  obtain ⟨c,tl,hmro⟩:=PySem.F.called_set.mro
  have hmade:=PySem.F.called_set.made
  have hsub:=PySem.F.called_set.sub
  refine wpAny_call (codeAny_of_tree ?_) -- here
  show wpAny _ _ (callAny (.type "set") _) _ _ _ -- here
  refine wpAny_pure ⟨Code.quiet_builtin _ (by decide +kernel),codeAny_builtin PySem.F.entry_type_call ?_⟩
  rw [Around.under_plain (weight_type_call_type "set" [.ref l] []) rfl] -- here
  have h1:=PySem.F.called_set.notType
  have h2:=PySem.F.called_set.canCreate
  have hct:=PySem.F.typeCall_set_1 (.ref l)
  repeat (any_goals (first | assumption | wp_step)) -- here
  refine codeAny_mono (a3t (.ref l) (E:=E) (Q1:=fun obj s1=>obj=.ref s.heap.objs.size∧s1 = { s with heap:=s.heap.push (Y5 w) }) ⟨rfl,rfl⟩) fun r s1 hr=>?_
  cases r with
  | error e=>exact hr
  | ok fl =>
    cases fl with
    | ret obj =>
      obtain ⟨rfl,rfl⟩:=hr
      have hS:(s.heap.push (Y5 w)).get? s.heap.objs.size=some (Y5 w):=Heap.get?_push_size _ rfl
      have hT:Shared.TypeIs { s with heap:=s.heap.push (Y5 w) } (.ref s.heap.objs.size) "set" := ⟨_,hS,rfl⟩
      have hli:=PySem.F.called_set.init.lookup
      have hbi:=PySem.F.called_set.init.bind (.ref s.heap.objs.size)
      repeat (any_goals (first | assumption | wp_step)) -- here
      refine codeAny_mono (codeAny_call_builtin (R:=wants (fun r s2=>r=.none∧∃ h' tk o m,s2 = { s with heap:=h',toks:=tk }∧h'.get? s.heap.objs.size=some o∧Ks prog w o m∧(∀ x,x∈m↔x∈ss)∧(∀ b u,s.heap.get? b=some u→h'.get? b=some u)) E) PySem.F.called_set.init.plain PySem.F.entry_set_init (check_set_init_1 hT ?_)) fun r2 s2 hr2=>?_
      · obtain ⟨ol,hol,hcl,nl,hdl⟩:=hl -- here
        obtain ⟨ocls,odict,odata,oslots⟩:=ol -- here
        simp only at hcl hdl
        subst hcl hdl
        have hol':(s.heap.push (Y5 w)).get? l=some { cls:=.type "list",dict:=odict,data:=.seq items nl,slots:=oslots }:=Heap.get?_push_of_some _ hol
        have hsls:=PySem.F.sub_list_set
        have hslf:=PySem.F.sub_list_frozenset
        have hne:(Value.type "list" == Value.type "dict")=false:=by decide -- here
        have hl1:(s.heap.push (Y5 w)).IsList l items:=⟨_,hol',rfl,nl,rfl⟩
        unfold Builtin.«set.__init__» noKeywords Builtin.Frozenset.updateFrom -- here
        generalize hPI:pyIter=PI
        wp_walk
        subst hPI
        refine wpAny_pyIter_list hl1 (wpAny_bind (wpAny_runValue ?_))
        have hlS:l<s.heap.objs.size:=Heap.lt_size hol -- here
        have hh3:A.in1.in1.in1.handled=none:=by simp [hh] -- here
        have size1:(s.heap.push (Y5 w)).objs.size=s.heap.objs.size+1:=Heap.size_push _ _
        have hneI:l≠(s.heap.push (Y5 w)).objs.size:=Nat.ne_of_lt (by rw [size1]; exact Nat.lt_succ_of_lt hlS)
        have hSf:s.heap.objs.size∉[(s.heap.push (Y5 w)).objs.size,l]:=by
          simp only [List.mem_cons,List.mem_singleton,List.not_mem_nil,or_false,not_or]
          exact ⟨Nat.ne_of_lt (by rw [size1]; exact Nat.lt_succ_self _),Nat.ne_of_gt hlS⟩
        refine a7h ((Walks.list hh3 _ l hneI items).toS) s.heap.objs.size hSf (fun i=>ss.getD i ⟨#[]⟩) vals (fun m hm hx=>room m hm fun x hxm=>(mems x).mp (hx x hxm)) (items.size - 0) 0 _ (Y5 w) [] (by omega) (Nat.zero_le _)
          ⟨⟨_,Heap.get?_push_size _ rfl,rfl,rfl⟩,(hl1.push _)⟩ (Heap.get?_push_of_some _ hS) a86 nil0 ?_
        intro s' o' m mv go hm hx
        obtain ⟨h',g',d',tk',os'⟩:=s' -- here
        have eg:g'=s.gens:=mv.gens
        have ed:d'=s.drawn:=mv.drawn
        have eo:os'=s.os:=mv.os
        subst eg ed eo
        show wpAny _ _ _ _ _ _
        refine wpAny_pure ?_
        show wpAny _ _ (ret Value.none) _ _ _ -- here
        refine wpAny_pure ⟨rfl,h',tk',o',m,rfl,go,hm,fun x=>(hx x).trans (mems x),fun b u e=>?_⟩
        have hb:=Heap.lt_size e
        refine mv.heap b u (fun hmem=>?_) (Heap.get?_push_of_some _ (Heap.get?_push_of_some _ e))
        rcases List.mem_cons.mp hmem with e' | hmem -- here
        · exact Nat.ne_of_lt hb e'
        · have e':=List.mem_singleton.mp hmem
          rw [size1] at e'
          exact Nat.ne_of_lt (Nat.lt_succ_of_lt hb) e'
      · cases r2 with
        | error e=>exact hr2
        | ok fl2 =>
          cases fl2 with
          | ret r =>
            obtain ⟨rfl,h',tk,o,m,rfl,go,hm,hx,hk⟩:=hr2
            repeat (any_goals (first | assumption | wp_step)) -- here
            exact h _ _ _ _ go hm hx hk
          | _=>exact hr2.elim
    | _=>exact hr.elim
end
end C
end
noncomputable section
set_option linter.all false
set_option maxRecDepth 100000
set_option maxHeartbeats 4000002
set_option autoImplicit false
namespace C
open PySem PySem.Spec PyProof.Rows
theorem u6:PySem.Slot "set_iterator" "__next__" "set_iterator.__next__" :=
  .of (owner := "set_iterator") (n := "__next__") (by rw [typeLookup_type,builtinLookup_eq_fast]; kernel_rfl) (by decide +kernel) (by decide +kernel) (by decide +kernel)
    (by first | exact .inl (by decide +kernel) | exact .inr (by decide +kernel)) (by rw [isSubtype_type]; kernel_rfl) -- here
theorem Dk:entryFor table "set_iterator.__next__" = some Builtin.«set_iterator.__next__»:=entryFor_of_tree (by kernel_rfl)
theorem V8:Manifest.owners.lookup (String.ofList ['r','o','t','a','r','e','t','i','_','t','e','s'].reverse)=some Manifest.sig_set_iterator:=by kernel_rfl
theorem Ei (a:Value):argsOk "set_iterator.__next__" ⟨[a],[]⟩:=by
  unfold argsOk; rw [signature?_of (id := "set_iterator.__next__") (n:=['_','_','t','x','e','n','_','_']) (o:=['r','o','t','a','r','e','t','i','_','t','e','s']) (by kernel_rfl) V8]; kernel_rfl
theorem Ml:entryFor table "set.__iter__" = some Builtin.«frozenset.__iter__» :=
  entryFor_alias (id' := "frozenset.__iter__") (by kernel_rfl) rfl (by decide +kernel) (by kernel_rfl)
theorem Jj:PySem.Slot "set_iterator" "__iter__" "set_iterator.__iter__" :=
  .of (owner := "set_iterator") (n := "__iter__") (by rw [typeLookup_type,builtinLookup_eq_fast]; kernel_rfl) (by decide +kernel) (by decide +kernel) (by decide +kernel)
    (by first | exact .inl (by decide +kernel) | exact .inr (by decide +kernel)) (by rw [isSubtype_type]; kernel_rfl) -- here
theorem Ol:entryFor table "set_iterator.__iter__" = some Builtin.«dict_keyiterator.__iter__» :=
  entryFor_alias (id' := "dict_keyiterator.__iter__") (by kernel_rfl) rfl (by decide +kernel) (by kernel_rfl) -- here
theorem Qj (a:Value):argsOk "set_iterator.__iter__" ⟨[a],[]⟩:=by
  unfold argsOk; rw [signature?_of (id := "set_iterator.__iter__") (n:=['_','_','r','e','t','i','_','_']) (o:=['r','o','t','a','r','e','t','i','_','t','e','s']) (by kernel_rfl) V8]; kernel_rfl
theorem Jd {α:Type}:∀ {l:List α} {i:Nat} {x:α},l[i]? = some x→(x::l.eraseIdx i).Perm l
  | [],i,x,h=>by simp at h
  | y::l,0,x,h=>by simp at h; subst h; exact .refl _
  | y::l,i+1,x,h=>by
    simp only [List.getElem?_cons_succ] at h -- here
    rw [List.eraseIdx_cons_succ]
    exact (List.Perm.swap y x _).trans ((Jd h).cons y)
theorem Zb {α:Type} (next:Nat→Nat):∀ (fuel k:Nat) (left:List α) (out:Array α),left.length=fuel→(pickOrder.go next fuel k left out).toList.Perm (out.toList++left)
  | 0,k,left,out,h=>by
    have:left=[]:=List.length_eq_zero_iff.mp h
    subst this
    simp [pickOrder.go]
  | fuel+1,k,left,out,h=>by
    have hlt:next k%left.length<left.length:=Nat.mod_lt _ (by omega)
    have hg:=List.getElem?_eq_getElem hlt
    rw [pickOrder.go,hg]
    dsimp only
    have ih:=Zb next fuel (k+1) (left.eraseIdx (next k%left.length)) (out.push left[next k%left.length]) (by rw [List.length_eraseIdx_of_lt hlt]; omega)
    refine ih.trans ?_
    rw [Array.toList_push,List.append_assoc]
    exact (Jd hg).append_left _
theorem Kv {α:Type} (next:Nat→Nat) (xs:Array α):(pickOrder next xs).toList.Perm xs.toList:=by
  have:=Zb next xs.size 0 xs.toList #[] (by simp)
  simpa [pickOrder] using this
noncomputable section
variable {prog:Program} {w:World} {A:Around} {E:Value→Shared→Prop} {s:Shared}
theorem Xo {M:Model} {src:Source} {n:Nat} {Q:Nat→Shared→Prop} (hn:0<n) (h:∀ i d,i<n→Q i { s with drawn:=d }):wpAny M A (choose src n) Q E s:=by
  intro Γ p hΓ
  unfold choose
  rw [Sem.wp_choose]
  exact ⟨Nat.ne_of_gt hn,h _ _ (Nat.mod_lt _ hn)⟩
theorem V5 {α:Type} {M:Model}:∀ (n:Nat) (xs:List α) (s:Shared) (Q:List α→Shared→Prop),xs.length=n→(∀ ys d,ys.Perm xs→Q ys { s with drawn:=d })→wpAny M A (drawOrder n xs) Q E s
  | 0,xs,s,Q,h,k=>by
    have:xs=[]:=List.length_eq_zero_iff.mp h
    subst this
    unfold drawOrder
    exact wpAny_pure (k [] s.drawn (.refl _))
  | n+1,[],s,Q,h,k=>by simp at h
  | n+1,x::xs,s,Q,h,k=>by
    unfold drawOrder
    refine wpAny_bind (Xo (by simp) fun i d hi=>?_)
    have hg:=List.getElem?_eq_getElem hi
    rw [hg]
    dsimp only
    refine wpAny_bind (V5 n _ _ _ (by rw [List.length_eraseIdx_of_lt hi]; omega) fun ys d2 hp=>wpAny_pure ?_)
    exact k _ _ ((hp.cons _).trans (Jd hg))
end
end C
end
noncomputable section
set_option linter.all false
set_option maxRecDepth 100000
set_option maxHeartbeats 4000002
set_option autoImplicit false
namespace C
open PySem PySem.Spec PyProof.Rows
noncomputable abbrev itS (f:Value) (i:Nat) (a:Addr) (n ep:Nat):Obj:={ cls:=.type "set_iterator",data:=.fields #[f,.int i 0,.ref a,.int n 0,.int ep 0] }
noncomputable section
variable {prog:Program} {w:World} {A:Around} {E:Value→Shared→Prop} {s:Shared} {I a:Addr} {i n ep:Nat} {o:Obj} {es:Array (Int × Value)} {t:SetTable} {Q:Option Value→Shared→Prop}
theorem Du {f:Value} (hit:s.heap.get? I=some (itS f i a n ep)):s.TypeIs (.ref I) "set_iterator" := ⟨_,hit,rfl⟩
theorem Vr {slot nxt:Nat} {x:Value} (hit:s.heap.get? I=some (itS (.int slot 0) i a n ep)) (ho:s.heap.get? a=some o) (hd:o.data=.set es ep t) (hf:t.fits es.size=true) (hn:es.size=n)
    (core:∀ (A':Around) (E':Value→Shared→Prop) (Q':Option (Value × Nat)→Shared→Prop),Q' (some (x,nxt)) s→wpAny (model prog w) A' (setNext a slot i ep) Q' E' s)
    (hQ:∀ h',h'.get? I=some (itS (.int nxt 0) (i+1) a n ep)→Heap.SameBut I s.heap h'→Q (some x) { s with heap:=h' }):wpAny (model prog w) A (pyNext (.ref I)) Q E s:=by
  unfold pyNext
  refine wpAny_bind (wpAny_attempt (wpAny_callSpecial?_slot (name:=Str.ofString "__next__") (Du hit) u6
    (wpAny_call_entry u6 (Du hit) Dk ?_ (Ei _))))
  unfold Builtin.«set_iterator.__next__»
  refine wpAny_bind (wpAny_pure (wpAny_bind (wpAny_fieldsOf hit rfl ?_)))
  dsimp only
  refine wpAny_bind (wpAny_setEntries_of ho hd hf ?_)
  rw [if_neg (by rw [hn]; simp)]
  simp only [Int.toNat_natCast]
  refine wpAny_bind (core _ _ _ ?_)
  dsimp only
  refine wpAny_bind (wpAny_setField_rec hit (by simp) fun h1 g1 sb1=>?_)
  refine wpAny_bind (wpAny_setField_rec (s:={ s with heap:=h1 }) g1 (by simp) fun h2 g2 sb2=>?_)
  refine wpAny_pure ⟨_,rfl,wpAny_pure (hQ h2 ?_ (sb1.trans sb2))⟩
  rw [g2]
  simp [rawInt]
theorem Ys {slot:Nat} (hh:A.handled=none) (hit:s.heap.get? I=some (itS (.int slot 0) i a n ep)) (ho:s.heap.get? a=some o) (hd:o.data=.set es ep t) (hf:t.fits es.size=true) (hn:es.size=n)
    (core:∀ (A':Around) (E':Value→Shared→Prop) (Q':Option (Value × Nat)→Shared→Prop),Q' none s→wpAny (model prog w) A' (setNext a slot i ep) Q' E' s)
    (hQ:∀ h',Heap.ExtBut I s.heap h'→Q none { s with heap:=h' }):wpAny (model prog w) A (pyNext (.ref I)) Q E s:=by
  unfold pyNext
  refine wpAny_bind (wpAny_attempt (wpAny_callSpecial?_slot (name:=Str.ofString "__next__") (Du hit) u6
    (wpAny_call_entry u6 (Du hit) Dk ?_ (Ei _))))
  unfold Builtin.«set_iterator.__next__»
  refine wpAny_bind (wpAny_pure (wpAny_bind (wpAny_fieldsOf hit rfl ?_)))
  dsimp only
  refine wpAny_bind (wpAny_setEntries_of ho hd hf ?_)
  rw [if_neg (by rw [hn]; simp)]
  simp only [Int.toNat_natCast]
  refine wpAny_bind (core _ _ _ ?_)
  dsimp only
  refine wpAny_bind (wpAny_setField_rec hit (by simp) fun h1 g1 sb1=>?_)
  refine wpAny_bind ?_
  simp only [newExc,newTuple]
  refine wpAny_bind (wpAny_newObj_type ?_ (by size_fits)) -- here
  refine wpAny_bind (m:=firstArgMember _ _) (wpAny_of_eq (a:=Value.none) (by first | rfl | (simp only [firstArgMember]; rfl)) ?_) -- here
  refine wpAny_newObj_type ?_ (by size_fits) -- here
  simp only [raiseNew]
  refine wpAny_bind (wpAny_handled ?_) -- here
  rw [show A.in1.handled=none from hh] -- here
  refine wpAny_bind (wpAny_pure (wpAny_throw ?_)) -- here
  refine wpAny_bind (wpAny_isInstance (T := "StopIteration") (b:=true) ⟨_,Heap.get?_push_size _ rfl,rfl⟩ isSubtype_stop ?_) -- here
  exact wpAny_pure (hQ _ ((sb1.extBut.push _).push _))
end
end C
end
noncomputable section
set_option linter.all false
set_option maxRecDepth 100000
set_option maxHeartbeats 4000002
set_option autoImplicit false
namespace C
open PySem PySem.Spec PyProof.Rows
noncomputable abbrev tpS (ps:List Nat):Obj:={ cls:=.type "tuple",data:=.seq (ps.map fun (k:Nat)=>rawInt k).toArray }
noncomputable section
variable {prog:Program} {w:World} {A:Around} {E:Value→Shared→Prop} {s:Shared} {I a q:Addr} {i n ep:Nat} {o:Obj} {es:Array (Int × Value)} {t:SetTable} {Q:Option Value→Shared→Prop} {ps:List Nat}
theorem a3l {k:Nat} {h0:Int} {x:Value} (hit:s.heap.get? I=some (itS (.ref q) i a n ep)) (hq:s.heap.get? q=some (tpS ps)) (ho:s.heap.get? a=some o) (hd:o.data=.set es ep t) (hf:t.fits es.size=true) (hn:es.size=n)
    (hk:ps[i]? = some k) (hx:es[k]? = some (h0,x))
    (hQ:∀ h',h'.get? I=some (itS (.ref q) (i+1) a n ep)→Heap.SameBut I s.heap h'→Q (some x) { s with heap:=h' }):wpAny (model prog w) A (pyNext (.ref I)) Q E s:=by
  unfold pyNext
  refine wpAny_bind (wpAny_attempt (wpAny_callSpecial?_slot (name:=Str.ofString "__next__") (Du hit) u6
    (wpAny_call_entry u6 (Du hit) Dk ?_ (Ei _))))
  unfold Builtin.«set_iterator.__next__»
  refine wpAny_bind (wpAny_pure (wpAny_bind (wpAny_fieldsOf hit rfl ?_)))
  dsimp only
  refine wpAny_bind (wpAny_setEntries_of ho hd hf ?_)
  rw [if_neg (by rw [hn]; simp)]
  refine wpAny_bind (wpAny_seqItems hq rfl ?_)
  have e:(ps.map fun (k:Nat)=>rawInt k).toArray[i]? = some (rawInt k):=by
    rw [List.getElem?_toArray,List.getElem?_map,hk]; rfl
  simp only [Int.toNat_natCast]
  rw [e]
  simp only [rawInt,Int.toNat_natCast]
  refine wpAny_bind ?_
  unfold setNextDrawn
  refine wpAny_bind (wpAny_setState_of ho hd hf ?_) -- here
  simp only [bne_self_eq_false,Bool.false_eq_true,if_false,hx]
  refine wpAny_pure ?_
  refine wpAny_bind (wpAny_setField_rec hit (by simp) fun h1 g1 sb1=>?_)
  refine wpAny_pure ⟨_,rfl,wpAny_pure (hQ h1 ?_ sb1)⟩
  rw [g1]
  simp [rawInt]
theorem Qn (hh:A.handled=none) (hit:s.heap.get? I=some (itS (.ref q) i a n ep)) (hq:s.heap.get? q=some (tpS ps)) (ho:s.heap.get? a=some o) (hd:o.data=.set es ep t) (hf:t.fits es.size=true) (hn:es.size=n)
    (hk:ps[i]? = none) (hQ:∀ h',Heap.ExtBut I s.heap h'→Q none { s with heap:=h' }):wpAny (model prog w) A (pyNext (.ref I)) Q E s:=by
  unfold pyNext
  refine wpAny_bind (wpAny_attempt (wpAny_callSpecial?_slot (name:=Str.ofString "__next__") (Du hit) u6
    (wpAny_call_entry u6 (Du hit) Dk ?_ (Ei _))))
  unfold Builtin.«set_iterator.__next__»
  refine wpAny_bind (wpAny_pure (wpAny_bind (wpAny_fieldsOf hit rfl ?_)))
  dsimp only
  refine wpAny_bind (wpAny_setEntries_of ho hd hf ?_)
  rw [if_neg (by rw [hn]; simp)]
  refine wpAny_bind (wpAny_seqItems hq rfl ?_)
  have e:(ps.map fun (k:Nat)=>rawInt k).toArray[i]? = none:=by
    rw [List.getElem?_toArray,List.getElem?_map,hk]; rfl
  simp only [Int.toNat_natCast,e]
  refine wpAny_bind (wpAny_setField_rec hit (by simp) fun h1 g1 sb1=>?_)
  refine wpAny_bind (wpAny_setField_rec (s:={ s with heap:=h1 }) g1 (by simp) fun h2 g2 sb2=>?_)
  refine wpAny_bind ?_
  simp only [newExc,newTuple]
  refine wpAny_bind (wpAny_newObj_type ?_ (by size_fits)) -- here
  refine wpAny_bind (m:=firstArgMember _ _) (wpAny_of_eq (a:=Value.none) (by first | rfl | (simp only [firstArgMember]; rfl)) ?_) -- here
  refine wpAny_newObj_type ?_ (by size_fits) -- here
  simp only [raiseNew]
  refine wpAny_bind (wpAny_handled ?_) -- here
  rw [show A.in1.handled=none from hh] -- here
  refine wpAny_bind (wpAny_pure (wpAny_throw ?_)) -- here
  refine wpAny_bind (wpAny_isInstance (T := "StopIteration") (b:=true) ⟨_,Heap.get?_push_size _ rfl,rfl⟩ isSubtype_stop ?_) -- here
  exact wpAny_pure (hQ _ (((sb1.trans sb2).extBut.push _).push _))
theorem Ua {f:Value} {Q:Value→Shared→Prop} (hit:s.heap.get? I=some (itS f i a n ep)) (h:Q (.ref I) s):wpAny (model prog w) A (pyIter (.ref I)) Q E s:=by
  refine wpAny_pyIter_slot (Du hit) Jj (wpAny_call_entry Jj (Du hit) Ol ?_ (Qj _))
  show wpAny _ _ (ret (.ref I)) _ _ s
  exact wpAny_pure ⟨_,rfl,"set_iterator",_,Du hit,u6.lookup,h⟩
theorem Rj {slot:Nat} {Q:Option (Value × Nat)→Shared→Prop} (hb:a0r w=true) (ho:s.heap.get? a=some o) (hd:o.data=.set es ep t) (hf:t.fits es.size=true)
    (h:Q (((pickOrder (w.params.setOrder a ep) es)[i]?).map fun e=>(e.2,slot)) s):wpAny (model prog w) A (setNext a slot i ep) Q E s:=by
  have hb':w.params.followText "set-order" = true:=hb
  unfold setNext setsByText
  refine wpAny_bind (wpAny_setState_of ho hd hf ?_) -- here
  dsimp only
  refine wpAny_bind (wpAny_bind (wpAny_askSetting (wpAny_pure ?_))) -- here
  dsimp only
  rw [show (model prog w).w.params.followText "set-order" = true from hb']
  simp only [if_true,bne_self_eq_false,Bool.false_eq_true,if_false]
  unfold setWalk setsByText
  refine wpAny_bind (wpAny_bind (wpAny_setState_of ho hd hf ?_))
  dsimp only
  refine wpAny_bind (wpAny_bind (wpAny_askSetting (wpAny_pure ?_))) -- here
  dsimp only
  rw [show (model prog w).w.params.followText "set-order" = true from hb']
  simp only [if_true]
  refine wpAny_bind (wpAny_askSetting (wpAny_pure (wpAny_pure h)))
theorem Vi {slot:Nat} {Q:Option (Value × Nat)→Shared→Prop} (hb:a0r w=false) (ho:s.heap.get? a=some o) (hd:o.data=.set es ep t) (hf:t.fits es.size=true) (hl:t.led=true) (h1:es.size≤1)
    (h:Q (match es[SetTable.below t.place slot]?,t.place[SetTable.below t.place slot]? with | some (_,x),some j=>some (x,j+1) | _,_=>none) s):wpAny (model prog w) A (setNext a slot i ep) Q E s:=by
  have hb':w.params.followText "set-order" = false:=hb
  unfold setNext setsByText
  refine wpAny_bind (wpAny_setState_of ho hd hf ?_) -- here
  dsimp only
  refine wpAny_bind (wpAny_bind (wpAny_askSetting (wpAny_pure ?_))) -- here
  dsimp only
  rw [show (model prog w).w.params.followText "set-order" = false from hb']
  simp only [Bool.false_eq_true,if_false] -- here
  refine wpAny_ite_split (fun hc=>?_) (fun _=>?_)
  · have hc':(!t.plain&&decide (es.size > 1))=true:=hc
    rw [decide_eq_false (by omega),Bool.and_false] at hc'
    cases hc'
  · refine wpAny_bind ?_
    show wpAny _ _ (if (!t.led && !es.isEmpty)=true then unsupported "set:maker-not-led" else pure ()) _ _ _
    rw [hl]
    simp only [Bool.not_true,Bool.false_and,Bool.false_eq_true,if_false]
    exact wpAny_pure (wpAny_pure h) -- here
end
end C
end
noncomputable section
set_option linter.all false
set_option maxRecDepth 100000
set_option maxHeartbeats 4000002
set_option autoImplicit false
namespace C
open PySem PySem.Spec PyProof.Rows
noncomputable section
variable {prog:Program} {w:World} {A:Around} {E:Value→Shared→Prop} {s:Shared} {I a q:Addr} {n ep:Nat} {o:Obj} {es:Array (Int × Value)} {t:SetTable} {ps:List Nat}
theorem Z1 (hh:A.handled=none) (hne:a≠I) (hb:a0r w=true) (hd:o.data=.set es ep t) (hf:t.fits es.size=true) :
    Walks prog w A I [I,a] [I] es.size (fun i v=>((pickOrder (w.params.setOrder a ep) es).toList.map (·.2))[i]? = some v) (fun i h=>h.get? I=some (itS (.int (0:Nat) 0) i a es.size ep)∧h.get? a=some o) where
  sub:=fun b hb=>by simp at hb; simp [hb] -- here
  frame:=fun _ _ _ st hk=>⟨hk I (by simp) _ st.1,hk a (by simp) _ st.2⟩
  item:=fun i s Q E hi st hQ=>by -- here
    have hz:(pickOrder (w.params.setOrder a ep) es).size=es.size:=by rw [← Array.length_toList,(Kv _ es).length_eq,Array.length_toList]
    have hi':i<(pickOrder (w.params.setOrder a ep) es).size:=by rw [hz]; exact hi
    refine Vr (nxt:=0) (x:=(pickOrder (w.params.setOrder a ep) es)[i].2) st.1 st.2 hd hf rfl (fun A' E' Q' h=>Rj hb st.2 hd hf (by rw [Array.getElem?_eq_getElem hi']; exact h)) fun h' g sb=>?_
    refine hQ _ h' s.toks (by simp [hi']) ⟨g,sb.extBut a o hne st.2⟩ fun b u hb e=>sb.extBut b u (fun h=>hb (by simp [h])) e
  done:=fun s Q E st hQ=>by
    have hz:(pickOrder (w.params.setOrder a ep) es).size=es.size:=by rw [← Array.length_toList,(Kv _ es).length_eq,Array.length_toList]
    refine Ys hh st.1 st.2 hd hf rfl (fun A' E' Q' h=>Rj hb st.2 hd hf (by rw [Array.getElem?_eq_none (by rw [hz]; exact Nat.le_refl _)]; exact h)) fun h' he=>hQ h' s.toks fun b u hb e=>he b u (fun h=>hb (by simp [h])) e
  self:=fun _ _ _ _ st hQ=>Ua st.1 hQ
theorem a9j {xs:Array Nat} (h:xs.size=1):SetTable.below xs 0=0:=by
  unfold SetTable.below
  rw [h]
  simp [SetTable.below.go]
theorem a8b {xs:Array Nat} {j:Nat} (h:xs.size=1) (hj:xs[0]? = some j):SetTable.below xs (j+1)=1:=by
  unfold SetTable.below
  rw [h]
  have:xs.getD 0 (j+1)=j:=by rw [Array.getD_eq_getD_getElem?,hj]; rfl
  simp [SetTable.below.go,this]
theorem a3x (hh:A.handled=none) (hne:a≠I) (hb:a0r w=false) (hd:o.data=.set es ep t) (hf:t.fits es.size=true) (hl:t.led=true) (h1:es.size≤1) :
    Walks prog w A I [I,a] [I] es.size (fun i v=>(es.toList.map (·.2))[i]? = some v) (fun i h=>h.get? I=some (itS (.int ((if i=0 then 0 else (t.place[0]?).getD 0+1:Nat)) 0) i a es.size ep)∧h.get? a=some o) where
  sub:=fun b hb=>by simp at hb; simp [hb] -- here
  frame:=fun _ _ _ st hk=>⟨hk I (by simp) _ st.1,hk a (by simp) _ st.2⟩
  item:=fun i s Q E hi st hQ=>by -- here
    obtain rfl:i=0:=by omega
    have hz:es.size=1:=by omega
    have hp:t.place.size=1:=by
      simp only [SetTable.fits,Bool.and_eq_true,beq_iff_eq] at hf
      rw [hf.1,hz]
    have hp0:t.place[0]? = some t.place[0]:=Array.getElem?_eq_getElem (by omega)
    have he0:es[0]? = some es[0]:=Array.getElem?_eq_getElem (by omega)
    rw [if_pos rfl] at st
    refine Vr (nxt:=t.place[0]+1) (x:=es[0].2) st.1 st.2 hd hf rfl (fun A' E' Q' h=>Vi hb st.2 hd hf hl h1 (by rw [a9j hp,he0,hp0]; exact h)) fun h' g sb=>?_
    refine hQ _ h' s.toks (by simp [hi]) ⟨?_,sb.extBut a o hne st.2⟩ fun b u hb e=>sb.extBut b u (fun h=>hb (by simp [h])) e
    rw [g,if_neg (by omega),hp0]
    rfl
  done:=fun s Q E st hQ=>by
    refine Ys hh st.1 st.2 hd hf rfl (fun A' E' Q' h=>Vi hb st.2 hd hf hl h1 ?_) fun h' he=>hQ h' s.toks fun b u hb e=>he b u (fun h=>hb (by simp [h])) e
    have:es[SetTable.below t.place (if es.size=0 then 0 else (t.place[0]?).getD 0+1)]? = none:=by
      by_cases hz:es.size=0
      · exact Array.getElem?_eq_none (by omega)
      · have hz1:es.size=1:=by omega
        have hp:t.place.size=1:=by
          simp only [SetTable.fits,Bool.and_eq_true,beq_iff_eq] at hf
          rw [hf.1,hz1]
        have hp0:t.place[0]? = some t.place[0]:=Array.getElem?_eq_getElem (by omega)
        rw [if_neg hz,hp0,Option.getD_some,a8b hp hp0]
        exact Array.getElem?_eq_none (by omega)
    rw [this]
    exact h
  self:=fun _ _ _ _ st hQ=>Ua st.1 hQ
theorem Xc (hh:A.handled=none) (hne:a≠I) (hq:q≠I) (hd:o.data=.set es ep t) (hf:t.fits es.size=true) (hp:ps.Perm (List.range es.size)) :
    Walks prog w A I [I,a,q] [I] es.size (fun i v=>(ps.filterMap fun k=>(es[k]?).map (·.2))[i]? = some v) (fun i h=>h.get? I=some (itS (.ref q) i a es.size ep)∧h.get? a=some o∧h.get? q=some (tpS ps)) where
  sub:=fun b hb=>by simp at hb; simp [hb] -- here
  frame:=fun _ _ _ st hk=>⟨hk I (by simp) _ st.1,hk a (by simp) _ st.2.1,hk q (by simp) _ st.2.2⟩
  item:=fun i s Q E hi st hQ=>by -- here
    have hl:ps.length=es.size:=by rw [hp.length_eq,List.length_range]
    have hk:=List.getElem?_eq_getElem (show i<ps.length by omega)
    have hk2:ps[i]'(by omega)<es.size:=List.mem_range.mp (hp.mem_iff.mp (List.getElem_mem _))
    have hx:=Array.getElem?_eq_getElem hk2
    have all:∀ k∈ps,k<es.size:=fun k hk=>List.mem_range.mp (hp.mem_iff.mp hk)
    have hv:(ps.filterMap fun k=>(es[k]?).map (·.2))[i]? = some (es[ps[i]'(by omega)]).2:=by
      have go:∀ (l:List Nat) (i:Nat) (h:i<l.length) (all:∀ k∈l,k<es.size),(l.filterMap fun k=>(es[k]?).map (·.2))[i]? = (es[l[i]]?).map (·.2):=by
        intro l
        induction l with
        | nil=>intro i h; simp at h
        | cons k l ih =>
          intro i h all
          have hk:=all k List.mem_cons_self
          rw [List.filterMap_cons,Array.getElem?_eq_getElem hk]
          cases i with
          | zero=>simp [Array.getElem?_eq_getElem hk]
          | succ i=>simpa using ih i (by simpa using h) fun z hz=>all z (List.mem_cons_of_mem _ hz)
      rw [go ps i (by omega) all,hx]; rfl
    refine a3l (x:=es[ps[i]].2) (h0:=es[ps[i]].1) st.1 st.2.2 st.2.1 hd hf rfl hk hx fun h' g sb=>?_
    exact hQ _ h' s.toks hv ⟨g,sb.extBut a o hne st.2.1,sb.extBut q _ hq st.2.2⟩ fun b u hb e=>sb.extBut b u (fun h=>hb (by simp [h])) e
  done:=fun s Q E st hQ=>by
    have hl:ps.length=es.size:=by rw [hp.length_eq,List.length_range]
    exact Qn hh st.1 st.2.2 st.2.1 hd hf rfl (List.getElem?_eq_none (by omega)) fun h' he=>hQ h' s.toks fun b u hb e=>he b u (fun h=>hb (by simp [h])) e
  self:=fun _ _ _ _ st hQ=>Ua st.1 hQ
end
end C
end
noncomputable section
set_option linter.all false
set_option maxRecDepth 100000
set_option maxHeartbeats 4000002
set_option autoImplicit false
namespace C
open PySem PySem.Spec PyProof.Rows
noncomputable def aa7 (n:Nat) (P:Nat→Value→Prop) (l:List Str):Prop:=∀ vs:List Value,vs.length=n→(∀ (j:Nat) (v:Value),vs[j]? = some v→P j v)→∃ l',StrsAre vs l'∧l'.Perm l
theorem Vp {P:Program} {w:World} {es:Array (Int × Value)} {us:List Value} (hel:ElemsOf (strKind P w) es.toList) (hp:us.Perm (es.toList.map (·.2))):aa7 es.size (fun i v=>us[i]? = some v) (es.toList.map fun e=>strOf e.2):=by
  intro vs hl hv
  have lu:us.length=es.size:=by rw [hp.length_eq,List.length_map,Array.length_toList]
  have e:vs=us:=by
    apply List.ext_getElem (by omega)
    intro i h1 h2
    have:us[i]? = some vs[i]:=hv i vs[i] (List.getElem?_eq_getElem h1)
    rw [List.getElem?_eq_getElem h2] at this
    exact (Option.some.inj this).symm -- here
  subst e
  refine ⟨vs.map strOf,strsAre_map vs fun v hm=>?_,?_⟩
  · obtain ⟨e,he,rfl⟩:=List.mem_map.mp (hp.mem_iff.mp hm)
    obtain ⟨tk,z⟩:=a5a hel he
    exact ⟨_,_,z⟩
  · have:=hp.map strOf
    rwa [List.map_map] at this
noncomputable section
variable {prog:Program} {w:World} {A:Around} {E:Value→Shared→Prop} {s:Shared} {a:Addr} {o:Obj} {l:List Str}
theorem a2w {Q:Value→Shared→Prop} (ho:s.heap.get? a=some o) (hS:Ks prog w o l)
    (k:∀ (I:Addr) (h1:Heap) (d:Drawn) (fp:List Addr) (P:Nat→Value→Prop) (St:Nat→Heap→Prop),(∀ b u,s.heap.get? b=some u→h1.get? b=some u)→(∀ b∈fp,b=a∨s.heap.objs.size≤b)→s.heap.objs.size≤I →
      (∀ A':Around,A'.handled=none→Walks prog w A' I fp [I] l.length P St)→St 0 h1→aa7 l.length P l→Q (.ref I) { s with heap:=h1,drawn:=d }) :
    wpAny (model prog w) A (pyIter (.ref a)) Q E s:=by -- here
  obtain ⟨es,ep,t,hex,hd,hel,rfl,hnd,hb,hf,hled,hpl⟩:=hS
  have hT:s.TypeIs (.ref a) "set" := ⟨o,ho,hex.1⟩ -- here
  have hlt:=Heap.lt_size ho
  have hlen:(es.toList.map fun e=>strOf e.2).length=es.size:=by rw [List.length_map,Array.length_toList]
  rw [hlen] at k
  refine wpAny_pyIter_slot hT PySem.F.slot_set_iter (wpAny_call_entry PySem.F.slot_set_iter hT Ml ?_ (PySem.F.args_set_iter_1 _))
  unfold Builtin.«frozenset.__iter__» Builtin.Frozenset.slot0 Builtin.Frozenset.sizeOf
  refine wpAny_bind (wpAny_bind (wpAny_pure (wpAny_pure ?_)))
  refine wpAny_bind (wpAny_bind (wpAny_setEntries_of ho hd hf (wpAny_pure ?_))) -- here
  unfold setDrawn setsByText
  refine wpAny_bind (wpAny_bind (wpAny_setState_of ho hd hf ?_))
  dsimp only
  refine wpAny_bind (wpAny_bind (wpAny_askSetting (wpAny_pure (wpAny_pure ?_))))
  dsimp only
  have plain:∀ (St:Nat→Heap→Prop) (us:List Value),us.Perm (es.toList.map (·.2))→(∀ A':Around,A'.handled=none→Walks prog w A' s.heap.objs.size [s.heap.objs.size,a] [s.heap.objs.size] es.size (fun i v=>us[i]? = some v) St)→(∀ h,h.get? s.heap.objs.size=some (itS (.int (0:Nat) 0) 0 a es.size ep)→h.get? a=some o→St 0 h) →
      Q (.ref s.heap.objs.size) { s with heap:=s.heap.push (itS (.int (0:Nat) 0) 0 a es.size ep) }:=by
    intro St us hp hw hst
    refine k s.heap.objs.size _ s.drawn [s.heap.objs.size,a] _ St (fun b u e=>Heap.get?_push_of_some _ e) (fun b hb=>?_) (Nat.le_refl _) hw (hst _ (Heap.get?_push_size _ rfl) (Heap.get?_push_of_some _ ho)) (Vp hel hp)
    simp only [List.mem_cons,List.not_mem_nil,or_false] at hb -- here
    rcases hb with rfl | rfl
    · exact .inr (Nat.le_refl _)
    · exact .inl rfl
  have hne:a≠s.heap.objs.size:=Nat.ne_of_lt hlt
  by_cases hc:(!a0r w&&(!t.plain&&decide (es.size > 1)))=true
  · show wpAny _ _ (if (!a0r w&&(!t.plain&&decide (es.size > 1)))=true then _ else _) _ _ _
    rw [if_pos hc]
    refine wpAny_bind (V5 es.size (List.range es.size) s _ List.length_range fun ys d hp=>?_)
    have hys:ys.length=es.size:=by rw [hp.length_eq,List.length_range]
    refine wpAny_bind (wpAny_newTuple ?_ (by rw [List.length_map,hys]; exact fits_of_scanBound hb))
    refine wpAny_bind (wpAny_setEpoch_of (s:={ s with heap:=s.heap.push (tpS ys),drawn:=d }) (Heap.get?_push_of_some _ ho) hd hf ?_)
    refine wpAny_bind (wpAny_newObj_type (wpAny_pure ⟨_,rfl,"set_iterator",_,⟨_,Heap.get?_push_size _ rfl,rfl⟩,u6.lookup,?_⟩))
    have size1:(s.heap.push (tpS ys)).objs.size=s.heap.objs.size+1:=Heap.size_push _ _
    have q1:s.heap.objs.size≠(s.heap.push (tpS ys)).objs.size:=by rw [size1]; exact Nat.ne_of_lt (Nat.lt_succ_self _)
    have a1:a≠(s.heap.push (tpS ys)).objs.size:=by rw [size1]; exact Nat.ne_of_lt (Nat.lt_succ_of_lt hlt)
    refine k (s.heap.push (tpS ys)).objs.size ((s.heap.push (tpS ys)).push (itS (.ref s.heap.objs.size) 0 a es.size ep)) d [(s.heap.push (tpS ys)).objs.size,a,s.heap.objs.size] _ _ (fun b u e=>Heap.get?_push_of_some _ (Heap.get?_push_of_some _ e)) (fun b hb=>?_) (by rw [size1]; exact Nat.le_succ _)
      (fun A' hh=>Xc hh a1 q1 hd hf hp) ⟨Heap.get?_push_size _ rfl,Heap.get?_push_of_some _ (Heap.get?_push_of_some _ ho),Heap.get?_push_of_some _ (Heap.get?_push_size _ rfl)⟩ (Vp hel ?_)
    · simp only [List.mem_cons,List.not_mem_nil,or_false] at hb
      rcases hb with rfl | rfl | rfl -- here
      · exact .inr (by rw [size1]; exact Nat.le_succ _)
      · exact .inl rfl
      · exact .inr (Nat.le_refl _)
    · refine (hp.filterMap _).trans ?_
      have:=filterMap_getElem?_range es
      rw [← this,← List.filterMap_eq_map,List.filterMap_filterMap]
      apply List.Perm.of_eq
      congr 1
      funext k
      cases es[k]? <;> rfl
  · show wpAny _ _ (if (!a0r w&&(!t.plain&&decide (es.size > 1)))=true then _ else _) _ _ _
    rw [if_neg hc]
    refine wpAny_bind (wpAny_pure ?_)
    refine wpAny_bind (wpAny_setEpoch_of ho hd hf ?_) -- here
    refine wpAny_bind (wpAny_newObj_type (wpAny_pure ⟨_,rfl,"set_iterator",_,⟨_,Heap.get?_push_size _ rfl,rfl⟩,u6.lookup,?_⟩))
    cases hbt:a0r w with
    | true=>exact plain _ _ ((Kv _ es).map _) (fun A' hh=>Z1 hh hne hbt hd hf) fun h g1 g2=>⟨g1,g2⟩
    | false =>
      have h1:es.size≤1:=by
        rw [hbt] at hc
        by_cases hz:es.toList.map (fun e=>strOf e.2)=[]
        · rw [hz] at hlen; simp at hlen; omega
        · rw [hpl hz] at hc
          simp at hc
          exact hc
      exact plain _ _ (.refl _) (fun A' hh=>a3x hh hne hbt hd hf (by rw [hled,hbt]; rfl) h1) fun h g1 g2=>⟨by simpa using g1,g2⟩
theorem a4k {Q:Bool→Shared→Prop} (hT:s.TypeIs (.ref a) "set") (h:Q false s):wpAny (model prog w) A (Builtin.List.listLengthHint (.ref a)) Q E s:=by
  unfold Builtin.List.listLengthHint -- here
  refine wpAny_bind (wpAny_specialOf hT PySem.F.slot_set_len.lookup ?_)
  generalize hid:("set.__len__" : String)=id0
  wp_delta
  rw [show splitId id0=some ("set","__len__") from by subst hid; decide +kernel]
  subst hid
  refine wpAny_bind (wpAny_isInstance (T := "set") (b:=true) hT (by rw [isSubtype_type]; kernel_rfl) ?_)
  refine wpAny_ite_split (fun hab=>absurd hab (by decide)) (fun _=>?_) -- here
  refine wpAny_ite_split (fun _=>?_) (fun hab=>absurd (by decide +kernel) hab) -- here
  refine wpAny_bind (wpAny_typeOf hT ?_) -- here
  exact wpAny_pure h
end
end C
end
noncomputable section
set_option linter.all false
set_option maxRecDepth 100000
set_option maxHeartbeats 4000002
set_option autoImplicit false
namespace C
open PySem PySem.Spec PyProof.Rows
noncomputable section
variable {prog:Program} {w:World} {A:Around} {E:Value→Shared→Prop} {s:Shared} {a:Addr} {o:Obj} {l:List Str}
theorem Zk {R:Result→Shared→Prop} (hh:A.handled=none) (ho:s.heap.get? a=some o) (hS:Ks prog w o l) (hn:l.length≤sizeLine) (S:Addr) (hSa:S≠a) (res:Value) (hL:s.heap.get? S=some { cls:=.type "list",data:=.seq #[] })
    (hR:∀ h' tk d got c',(∀ b u,b≠S→s.heap.get? b=some u→h'.get? b=some u)→h'.get? S=some { cls:=.type "list",dict:=none,data:=.seq got c',slots:=#[] }→(∃ l',StrsAre got.toList l'∧l'.Perm l)→R (.ok (.ret res)) { s with heap:=h',toks:=tk,drawn:=d }) :
    wpAny (model prog w) A.in1 (Builtin.List.listExtendWith (.ref S) (.ref a) res)
      (fun fin s'=>match fin with | .done f=>R (.ok f) s' | .again c'=>c'.quiet=true∧codeAny (model prog w) A c' R s') (fun e s'=>R (.error e) s') s:=by -- here
  have hT:s.TypeIs (.ref a) "set" := ⟨o,ho,(let ⟨_,_,_,hex,_⟩:=hS; hex.1)⟩
  have hSl:=Heap.lt_size hL
  unfold Builtin.List.listExtendWith -- here
  refine wpAny_bind (wpAny_typeOf (T := "set") hT ?_)
  have e1:Builtin.List.listSameRef (.ref S) (.ref a)=false:=by simp [Builtin.List.listSameRef,hSa]
  have e2:(Value.type "set" == Value.type "list")=false:=by decide
  have e3:(Value.type "set" == Value.type "tuple")=false:=by decide
  simp only [e1,e2,e3,Bool.or_false,Bool.false_eq_true,if_false]
  refine wpAny_bind (a2w ho hS fun I h1 d fp P St keep hfp hI hW st gv=>?_)
  have hSf:S∉fp:=fun hm=>by
    rcases hfp S hm with e | e
    · exact hSa e
    · exact absurd hSl (Nat.not_lt.mpr e)
  have hSI:S≠I:=fun e=>absurd hSl (Nat.not_lt.mpr (e ▸ hI))
  have W:=hW A.in1.in1 hh
  have W':=hW A.in1 hh
  have key:∀ (h:Heap) (c1 tk:Nat),St 0 h→(∀ b u,b≠S→h1.get? b=some u→h.get? b=some u) →
      h.get? S=some { cls:=.type "list",data:=.seq #[] c1 }→codeAny (model prog w) A (.builtin "list.extend.loop" ⟨[.ref S,.ref I,res],[]⟩) R { s with heap:=h,toks:=tk,drawn:=d }:=by
    intro h c1 tk hst hk hS1
    refine codeAny_extend_loopS W'.toS hn S hSf res l.length 0 _ #[] c1 rfl (Nat.zero_le _) hst hS1 (ItemsOf.nil _) fun s' got c' mv hS' its=>?_
    rw [Moved.eq_with mv]
    refine hR s'.heap s'.toks d got c' (fun b u hb e=>mv.heap b u (fun hmem=>?_) (hk b u hb (keep b u e))) hS' (gv got.toList (Array.length_toList.trans its.1) fun j v e=>its.2 j v (by rw [← Array.getElem?_toList]; exact e))
    rcases List.mem_cons.mp hmem with e' | hmem -- here
    · exact hb e'
    · have e':=List.mem_singleton.mp hmem
      exact absurd (Heap.lt_size e) (Nat.not_lt.mpr (e' ▸ hI))
  have hL1:=keep _ _ hL
  refine wpAny_bind (wpAny_holding (a4k (s:={ s with heap:=h1,drawn:=d }) ⟨o,keep _ _ ho,(let ⟨_,_,_,hex,_⟩:=hS; hex.1)⟩ ?_))
  refine wpAny_ite_split (fun _=>?_) (fun _=>wpAny_pure ⟨plainId_quiet PySem.F.plain_extend_loop _,key _ _ _ st (fun b u _ e=>e) hL1⟩)
  refine wpAny_bind (wpAny_rule (wpAny_bind ?_))
  show wpAny _ _ (updateSeq S (·.push .none) >>= fun _=>updateSeq S (·.pop)) _ _ _ -- here
  refine wpAny_bind (wpAny_updateSeq hL1 rfl ?_)
  have hL2:=Heap.get?_update_self (Obj.mapSeq (·.push Value.none)) hL1 rfl
  refine wpAny_updateSeq (hz:=by seq_fits) hL2 rfl ?_
  have hL3:=Heap.get?_update_self (Obj.mapSeq (·.pop)) hL2 rfl
  refine wpAny_pure ⟨plainId_quiet PySem.F.plain_extend_loop _,key _ _ _ ?_ (fun b u hb e=>?_) hL3⟩
  · refine W.frame 0 _ _ st fun b hb u e=>?_
    have hbS:b≠S:=fun h=>hSf (h ▸ hb) -- here
    exact (Heap.get?_update_other _ _ (Ne.symm hbS)).trans ((Heap.get?_update_other _ _ (Ne.symm hbS)).trans e) -- here
  · exact (Heap.get?_update_other _ _ (Ne.symm hb)).trans ((Heap.get?_update_other _ _ (Ne.symm hb)).trans e)
end
end C
end
noncomputable section
set_option linter.all false
set_option maxRecDepth 100000
set_option maxHeartbeats 4000002
set_option autoImplicit false
namespace C
open PySem PySem.Spec PyProof.Rows L2
theorem G5 {x:Str}:∀ {l:List Str},x∈Dg l↔x∈l
  | []=>Iff.rfl
  | y::l=>by
    unfold Dg
    by_cases h:y∈l
    · rw [if_pos h,G5,List.mem_cons]
      exact ⟨.inr,fun z=>z.elim (fun e=>e ▸ h) id⟩
    · rw [if_neg h,List.mem_cons,List.mem_cons,G5]
theorem Hi:∀ l:List Str,(Dg l).Nodup
  | []=>List.nodup_nil
  | y::l=>by
    unfold Dg
    by_cases h:y∈l
    · rw [if_pos h]; exact Hi l
    · rw [if_neg h]; exact List.nodup_cons.mpr ⟨fun z=>h (G5.mp z),Hi l⟩
theorem Ux:∀ (l M:List Str),l.Nodup→(∀ x∈l,x∈M)→l.length≤M.length
  | [],M,_,_=>by simp
  | x::l,M,hn,hm=>by
    have hx:=hm x List.mem_cons_self
    rw [List.nodup_cons] at hn
    have h1:=Ux l (M.erase x) hn.2 fun y hy=>(List.mem_erase_of_ne (fun (e:y=x)=>hn.1 (e ▸ hy))).mpr (hm y (List.mem_cons_of_mem _ hy))
    rw [List.length_erase_of_mem hx] at h1
    have h2:0<M.length:=List.length_pos_of_mem hx
    simp only [List.length_cons]
    omega
theorem Wn {m l:List Str} (hn:m.Nodup) (h:∀ x,x∈m↔x∈l):m.Perm (Dg l) :=
  (List.perm_ext_iff_of_nodup hn (Hi l)).mpr fun x=>(h x).trans G5.symm
noncomputable def aa2 (P:Program) (w:World) (a:Addr) (m:List Str):HO:=.ext fun h=>∃ o,h.get? a=some o∧Ks P w o m
noncomputable section
variable {X:Cx} {B:Bas} {e:Expr} {m1:M T} {p1 p2 p3 p4:Pos}
theorem Inv.drawn {pins:List (Addr × Obj)} {σ:L2.St} {H:Hp} {s:Shared} (I:L2.Inv X pins σ H s) (d:Drawn):L2.Inv X pins σ H { s with drawn:=d } :=
  ⟨I.ok,I.os,I.bare,I.base,I.loc,I.cell,I.free,I.freeC,I.pin,I.hok,I.len⟩
noncomputable def aci (X:Cx) (xs:List V) (H:Hp) (Q:VK):Prop:=∃ a ss,xs=[.ref a]∧SqL X.K H a (ss.map V.str)∧(Dg ss).length<64∧∀ p m,H p=none→m.Perm (Dg ss)→Q (.ref p) (upd H p (aa2 X.prog X.w p m))
theorem a0u (hc:X.calm=true):Hj X (.type "set") (aci X):=by
  intro pins s σ H xs us Q I rs z8
  obtain ⟨a,ss,ex,hl,h64,q⟩:=z8
  subst ex
  obtain ⟨u,rfl,ru⟩:=rs.one
  cases ru
  obtain ⟨its,r,p,hz⟩:=I.list hl
  refine Uq (I.ok.hd hc) p.isList (J6 r) (fun m hm hx=>?_) fun h' tk o m go hm hx keep=>?_
  · have:=Ux m (Dg ss) hm fun x hxm=>G5.mpr (hx x hxm)
    show _<4096
    omega
  · have hnd:m.Nodup:=let ⟨_,_,_,_,_,_,_,n,_⟩:=hm; n
    refine ⟨.ref s.heap.objs.size,_,I.laid (a:=s.heap.objs.size) (o:=aa2 X.prog X.w s.heap.objs.size m) (h':=h') (t':=tk) keep (Nat.le_refl _) ⟨⟨o,go,hm⟩,⟨o,go⟩,fun h1 h2 ⟨o1,g1,x1⟩ k=>⟨o1,k _ g1,x1⟩⟩,rfl,q _ m (I.hok.fresh (Nat.le_refl _)) (Wn hnd hx)⟩
theorem a1i {R:List Value→Shared→Prop} {A:Around} {E:Value→Shared→Prop} {s:Shared} {a:Addr} {o:Obj} {l:List Str} (nh:A.handled=none) (ho:s.heap.get? a=some o) (hS:Ks X.prog X.w o l) (sz:l.length≤sizeLine)
    (k:∀ (h1:Heap) (tk:Nat) (d:Drawn) (got:List Value),s.heap.objs.size<h1.objs.size→(∀ b u,s.heap.get? b=some u→h1.get? b=some u)→(∃ l',StrsAre got l'∧l'.Perm l)→R got { s with heap:=h1,toks:=tk,drawn:=d }) :
    wpAny (model X.prog X.w) A (collect (.ref a)) R E s:=by
  have lt0:=Heap.lt_size ho
  unfold collect
  refine wpAny_bind (wpAny_runValue
    (codeAny_builtin entry_proto_collect' ?_))
  rw [Around.under_plainId
    PySem.F.plain_proto_collect _]
  show wpAny _ A.in1 (newList [] >>= fun z=>again (.builtin "list.__iadd__" ⟨[z,.ref a],[]⟩)) _ _ s
  refine wpAny_bind (wpAny_newObj_type (wpAny_pure ⟨plainId_quiet PySem.F.plain_list_iadd _,codeAny_builtin entry_list_iadd' ?_⟩))
  rw [Around.under_plainId
    PySem.F.plain_list_iadd _]
  change wpAny _ A.in1 (Builtin.List.listExtendWith (.ref s.heap.objs.size) (.ref a) (.ref s.heap.objs.size)) _ _ _
  have new0:(s.heap.push { cls:=.type "list",data:=.seq ([]:List Value).toArray }).get? s.heap.objs.size=some { cls:=.type "list",data:=.seq #[] }:=Heap.get?_push_size _ rfl
  have aa5:=Zk (A:=A) (s:={ s with heap:=s.heap.push { cls:=.type "list",data:=.seq ([]:List Value).toArray } })
    (R:=fun (f:Result) (s1:Shared)=>∃ (h1:Heap) (tk:Nat) (d:Drawn) (got:Array Value) (c1:Nat),f=.ok (.ret (.ref s.heap.objs.size))∧s1 = { s with heap:=h1,toks:=tk,drawn:=d }∧(∀ b u,s.heap.get? b=some u→h1.get? b=some u) ∧
      h1.get? s.heap.objs.size=some { cls:=.type "list",dict:=none,data:=.seq got c1,slots:=#[] }∧∃ l',StrsAre got.toList l'∧l'.Perm l)
    nh (Heap.get?_push_of_some _ ho) hS sz s.heap.objs.size (Nat.ne_of_gt lt0) (.ref s.heap.objs.size) new0
    (fun h1 tk d got c1 old at1 its=>⟨h1,tk,d,got,c1,rfl,rfl,fun b u e=>old b u (Nat.ne_of_lt (Heap.lt_size e)) (Heap.get?_push_of_some _ e),at1,its⟩)
  have last:∀ (h1:Heap) (tk:Nat) (d:Drawn) (got:Array Value) (c1:Nat),(∀ b u,s.heap.get? b=some u→h1.get? b=some u)→h1.get? s.heap.objs.size=some { cls:=.type "list",dict:=none,data:=.seq got c1,slots:=#[] }→(∃ l',StrsAre got.toList l'∧l'.Perm l) →
      wpAny (model X.prog X.w) A (load s.heap.objs.size >>= fun o=>match o.data with | .seq xs _=>pure xs.toList | _=>unsupported "internal:collect") R E { s with heap:=h1,toks:=tk,drawn:=d } :=
    fun h1 tk d got c1 old at1 its=>wpAny_bind (wpAny_load at1 (wpAny_pure (k h1 tk d got.toList (Heap.lt_size at1) old its)))
  refine wpAny_mono aa5 (fun fin s1 x=>?_) fun e s1 x=>?_
  · cases fin with
    | done f =>
      obtain ⟨h1,tk,d,got,c1,ef,rfl,old,at1,its⟩:=x
      cases ef
      exact last h1 tk d got c1 old at1 its
    | again c =>
      refine ⟨x.1,codeAny_mono x.2 fun f s2 y=>?_⟩
      obtain ⟨h1,tk,d,got,c1,rfl,rfl,old,at1,its⟩:=y
      exact last h1 tk d got c1 old at1 its
  · obtain ⟨_,_,_,_,_,ef,_⟩:=x
    cases ef
noncomputable def ac8 (X:Cx) (xs:List V) (H:Hp) (Q:VK):Prop:=∃ p m l,xs=[.ref p]∧H p=some (aa2 X.prog X.w p m)∧m.Perm l∧m.length<64∧∀ p',H p'=none→Q (.ref p') (upd H p' (.lst ((Bg l).map V.str)))
theorem Rq (hc:X.calm=true):Hj X (.builtin "sorted") (ac8 X):=by
  intro pins s σ H xs us Q I rs z8
  obtain ⟨a,m,l,ex,ha,pm,h64,q⟩:=z8
  subst ex
  obtain ⟨u,rfl,ru⟩:=rs.one
  cases ru
  obtain ⟨⟨o,ho,hS⟩,_,_⟩:=I.hok a _ ha
  have hn:m.length≤sizeLine:=Nat.le_trans (Nat.le_of_lt h64) (by rw [sizeLine_eq]; decide)
  have hh:X.A.in1.handled=none:=I.ok.hd hc
  refine Calls.call_function_entry kind_sorted plain_sorted entry_sorted (args_sorted1 _) ?_ -- here
  unfold Builtin.«sorted»
  refine wpAny_bind (m:=checkCount "sorted" 1 1 _) (wpAny_pure (wpAny_bind ?_))
  refine a1i (A:=X.A.in1) hh ho hS hn fun h' tk d got hlt keep hg=>?_
  obtain ⟨l',hs,hp⟩:=hg
  have hl:got.length=m.length:=hs.length.trans hp.length_eq
  refine wpAny_bind (wpAny_newList ?_ (hl ▸ hn))
  have hoL:(h'.push (seqObj "list" got.toArray 0)).get? h'.objs.size=some (seqObj "list" got.toArray 0):=Heap.get?_push_size _ rfl
  refine wpAny_bind (wpAny_holding (wpAny_call_entry slot_list_sort ⟨_,hoL,rfl⟩ entry_list_sort (list_sort_treeK strKind_oneLt hoL hs.keysOf (fun v₁ v₂ rest e=>keyKind_strs (by rw [← e]; exact hs)) (by rw [hl]; exact h64) fun st' a1 a2=>⟨_,rfl,?_⟩) (args_list_sort _)))
  refine wpAny_pure ⟨_,rfl,(?_:EP X pins σ Q _ _)⟩
  obtain ⟨ss',b1,b2,b3⟩:=sorted_out_str hs a1 a2
  have es:=O7 b3 ((b2.trans hp).trans pm)
  subst es
  have hle:=Nat.le_of_lt hlt
  obtain ⟨e,he⟩:=sortedHeap_at (out:=(arrOf st').map (·.2)) hoL
  have hsz:(List.map V.str (Bg l)).length≤sizeLine:=by
    rw [List.length_map,(G8 l).length_eq,← pm.length_eq]
    exact hn
  have hnn:H h'.objs.size=none:=I.hok.fresh hle
  refine ⟨.ref h'.objs.size,_,(Inv.drawn I d).laid (a:=h'.objs.size) (o:=.lst ((Bg l).map V.str)) (t':=tk) (fun b u eb=>?_) hle ⟨hsz,_,e,Hq b1,he⟩,rfl,q _ hnn⟩
  have hb:=Heap.lt_size (keep _ _ eb)
  rw [sortedHeap_old (Nat.ne_of_lt hb) (by rw [Heap.size_push]; exact Nat.lt_succ_of_lt hb)]
  exact Heap.get?_push_of_some _ (keep _ _ eb)
theorem Jp (hc:X.calm=true) (hg:Gl X "sorted") (hm:X.mg "sorted" = none) (hg2:Gl X "set") (hm2:X.mg "set" = none) (ha:PE X e (tOf X.K B m1))
    (hs:starEach [e] X.env=[(false,eval e X.env)]:=by rfl) (he:starEach [.Call (.Name "set" p2) [e] [] p3] X.env=(false,eval (.Call (.Name "set" p2) [e] [] p3) X.env)::starEach [] X.env:=by rfl)
    (hpl:(backTo p4 (starEach [] X.env)).any (·.1)=false:=by rfl) (hpl3:(backTo p3 (starEach [] X.env)).any (·.1)=false:=by rfl) :
    PE X (.Call (.Name "sorted" p1) [.Call (.Name "set" p2) [e] [] p3] [] p4) (fOf X.K B (jg Ck (ak m1 iy))):=by
  have inner:=Av (p:=p2) (pos:=p3) (a0u hc) hg2 hm2 PyProof.Rows.boot_set (vp ha Bd hs) (by decide) (by decide) hs hpl3
  refine (Ca (Rq hc) hg hm PyProof.Rows.boot_sorted (vp inner Bd he) (by decide) (by decide) he hpl).imp fun σ H Q z0=>?_
  obtain ⟨st,ps,S,as,R,t,st',ev,q⟩:=z0
  obtain ⟨ts,e1,e2⟩:=Hr ev
  obtain ⟨t1,s1,us,ea,en,rfl⟩:=Im e1
  cases en
  cases t1 <;> simp only [Ck,reduceCtorEq] at e2
  rename_i xs
  obtain ⟨l,f1,f2⟩:=Option.bind_eq_some_iff.mp e2
  split at f2
  · rename_i hz
    cases f2
    refine ⟨st,ps,S,as,R,_,_,ea,fun v H1 S1 as1 R1=>?_⟩
    have top:=R1.top
    cases top with
    | @lst a vs _ g1 g2 =>
      have evs:=Lq g2 f1
      subst evs
      refine ⟨a,l,rfl,ou R1.sub g1,hz.2,fun p m hp pm=>⟨p,m,Dg l,rfl,jh,pm,by rw [pm.length_eq]; exact hz.2,fun p2 hp2=>?_⟩⟩
      have R2:=R1.drop.ext (Ext.junk R1.sub hp (aa2 X.prog X.w p m))
      obtain ⟨z1,z2,z3,z4⟩:=R2.fresh hp2
      exact q _ _ _ _ (R2.aa0 z1 z2 z3 z4) ⟨⟨_,jh,Ia _⟩,z2,z3,z1⟩ z4
  · cases f2
theorem Qo (hc:X.calm=true) (hg:Gl X "sorted") (hm:X.mg "sorted" = none) (hg2:Gl X "set") (hm2:X.mg "set" = none) (ha:PE X e (tOf X.K B m1))
    (hs:starEach [e] X.env=[(false,eval e X.env)]:=by rfl) (he:starEach [.Call (.Name "set" p2) [e] [] p3] X.env=(false,eval (.Call (.Name "set" p2) [e] [] p3) X.env)::starEach [] X.env:=by rfl)
    (hpl:(backTo p4 (starEach [] X.env)).any (·.1)=false:=by rfl) (hpl3:(backTo p3 (starEach [] X.env)).any (·.1)=false:=by rfl) :
    PE X (.Call (.Name "sorted" p1) [.Call (.Name "set" p2) [e] [] p3] [] p4) (tOf X.K B (jg Ck (ak m1 iy))):=uh (Jp hc hg hm hg2 hm2 ha hs he hpl hpl3)
end
end C
end
noncomputable section
set_option linter.all false
set_option maxRecDepth 100000
set_option maxHeartbeats 4000002
set_option autoImplicit false
namespace C
open PySem PySem.Spec PyProof.Rows L2
open AutoSeq1 (wpAny_loadPart') -- here
open MeetsSeq MeetsSeq2 MeetsSeq3 -- here
noncomputable section
variable {prog:Program} {w:World} -- here
end
noncomputable section
variable {X:Cx} {pins:List (Addr × Obj)} {σ:L2.St} {H S:Hp} {s:Shared} {as:List Addr}
end
end C
end
noncomputable section
set_option linter.all false
set_option maxRecDepth 100000
set_option maxHeartbeats 4000002
set_option autoImplicit false
namespace C
open PySem PySem.Spec PyProof.Rows L2
theorem a7l {K:PySem.W.Frag} {F:Fn} {H:Hp} {a:Addr} {ns:List Int} (hS:SqL K H a (ns.map V.int)) (hE:∃ st,F [.lst (ns.map T.int)] []=some (.bl true,st)):spF K 1 F [.ref a] H (fun v _=>v=.bl true) fun _ _ _=>False:=by
  obtain ⟨st,hF⟩:=hE
  have reps:∀ (S:Hp) (l:List Int),vh K S [] (l.map V.int) (l.map T.int):=fun S l=>by
    induction l with
    | nil=>exact .nil
    | cons x l ih=>exact .cons (.int x) ih
  let S:Hp:=fun p=>if p=a then H p else none
  have sa:S a=H a:=if_pos rfl
  have sub:yq S H:=fun p u h=>by
    by_cases e:p=a
    · subst e; rw [← sa]; exact h
    · have:S p=none:=if_neg e
      rw [this] at h; cases h
  have sq:SqL K S a (ns.map V.int):=by
    rcases hS with h | h
    · refine .inl ?_
      unfold Rd at h ⊢
      rw [sa]; exact h
    · exact .inr h
  refine ⟨S,[],[],[.lst (ns.map T.int)],.bl true,st,sub,⟨rfl,.nil,fun n so e=>by simp at e⟩,.cons (.lst sq (reps S ns)) .nil,rfl,hF,fun v H' S' as' _ _ _ r=>?_⟩
  cases r
  rfl
end C
end
noncomputable section
set_option linter.all false
set_option maxRecDepth 100000
set_option maxHeartbeats 4000002
set_option autoImplicit false
namespace C
open PySem PySem.Spec PyProof.Rows L2
theorem a9d {kvs:List (L2.Key × V)} {vs:List (L2.Key × Value)} (r:KV kvs vs):∀ {i:Nat} {k:L2.Key} {v:V},kvs[i]? = some (k,v)→∃ u,vs[i]? = some (k,u)∧Dc v u:=by
  unfold KV at r
  induction r with
  | nil=>intro i k v e; simp at e
  | cons h _ ih =>
    intro i k v e
    cases i with
    | zero =>
      simp at e
      rename_i p q _ _ _
      subst e
      exact ⟨q.2,by obtain ⟨a,b⟩:=q; simp at h ⊢; exact h.1.symm,h.2⟩
    | succ j =>
      obtain ⟨u,h1,h2⟩:=ih (i:=j) (k:=k) (v:=v) (by simpa using e)
      exact ⟨u,by simpa using h1,h2⟩
theorem a79 {k:L2.Key} {u:Value} (h:Qv k u=true):Dc (kV k) u:=by
  rcases vd h with ⟨i,t,rfl,rfl⟩ | ⟨x,t,rfl,rfl⟩
  · exact ⟨t,rfl⟩
  · exact ⟨t,rfl⟩
theorem a1a {P:Program} {w:World} {H:Hp} {h:Heap} {d:Addr} {o:Obj} {kvs:List (L2.Key × V)} {es:Array DictEntry} {ep:Nat} (hd:o.data=.dict es ep) (ok:HOk P w H h) (e:H d=some (.frz o (.dK kvs))) :
    (d==sysModules)=false∧∃ vs,KV kvs vs∧h.DictAt (vo P w) d vs ep:=by
  obtain ⟨ho,z,y,vs,r,o',es',ep',ho',hx,hd',q⟩:=(show Ce P w H h d (.frz o (.dK kvs)) from ok d _ e)
  rw [ho] at ho'; cases ho'
  rw [hd] at hd'; cases hd'
  exact ⟨y,vs,r,o,es,ho,hx,hd,q⟩
noncomputable def ab7 (J:Addr→Obj→List (L2.Key × V)→It) (i:Nat):TI:=fun σ H R=>∃ d o kvs,σ[i]? = some (some (.ref d))∧H d=some (.frz o (.dK kvs))∧R (J d o kvs) H
noncomputable section
variable {K:PySem.W.Frag} {S S':Hp} {as:List Addr}
noncomputable def N8 (S S':Hp):Prop:=∀ a u,(∀ o v,u≠HO.frz o v)→Rd S a u→Rd S' a u
mutual
theorem Rep.rdx (e:N8 S S'):∀ {v:V} {t:T},Rep K S as v t→Rep K S' as v t
  | _,_,.non=>.non
  | _,_,.bl b=>.bl b
  | _,_,.int i=>.int i
  | _,_,.str y=>.str y
  | _,_,.tup h r=>.tup (h.imp (e _ _ fun _ _=>HO.noConfusion) id) (vh.rdx e r)
  | _,_,.lst h r=>.lst (h.imp (e _ _ fun _ _=>HO.noConfusion) id) (vh.rdx e r)
  | _,_,.dic h r=>.dic (e _ _ (fun _ _=>HO.noConfusion) h) (Et.rdx e r)
  | _,_,.obj h=>.obj h
theorem vh.rdx (e:N8 S S'):∀ {v:List V} {t:List T},vh K S as v t→vh K S' as v t
  | _,_,.nil=>.nil
  | _,_,.cons h r=>.cons (Rep.rdx e h) (vh.rdx e r)
theorem Et.rdx (e:N8 S S'):∀ {v:List (L2.Key × V)} {t:List (L2.Key × T)},Et K S as v t→Et K S' as v t
  | _,_,.nil=>.nil
  | _,_,.cons h r=>.cons (Rep.rdx e h) (Et.rdx e r)
end
theorem Own.rdx {H H':Hp} {p:Addr} {t:T} (e:N8 S S') (hh:H p=H' p) (o:Own K S as H p t):Own K S' as H' p t:=by
  cases t with
  | lst ts=>obtain ⟨vs,h,r⟩:=o; exact ⟨vs,hh ▸ h,r.rdx e⟩
  | dic ts=>obtain ⟨vs,h,r⟩:=o; exact ⟨vs,hh ▸ h,r.rdx e⟩
  | _=>exact o.elim
theorem Zu.rdx {H H':Hp} {a:Addr} {so:SO} (e:N8 S S') (hh:H a=H' a) (o:Zu K S as H a so):Zu K S' as H' a so:=by
  cases so with
  | dic ts=>obtain ⟨vs,h,r⟩:=o; exact ⟨vs,hh ▸ h,r.rdx e⟩
  | lst ts=>obtain ⟨vs,h,r⟩:=o; exact ⟨vs,hh ▸ h,r.rdx e⟩
  | ins c f=>exact o.elim
noncomputable def Ur (z:HO) (kvs:List (L2.Key × V)):Prop:=z=.dK kvs∨∃ o,z=.frz o (.dK kvs)
theorem Li {d:Addr} {kvs:List (L2.Key × V)} {z z':HO} (hd:S d=some z') (h':Ur z' kvs) (h:Ur z kvs):N8 S (upd S d z):=fun a u hu r=>by
  by_cases e:a=d
  · subst e
    have eu:u=.dK kvs:=by
      rcases r with r | ⟨o,r⟩
      · rw [hd] at r; cases r
        rcases h' with h' | ⟨o,h'⟩
        · exact h'
        · exact absurd h' (hu _ _)
      · rw [hd] at r; cases r
        rcases h' with h' | ⟨o,h'⟩
        · cases h'
        · cases h'; rfl
    subst eu
    rcases h with rfl | ⟨o,rfl⟩
    · exact .inl jh
    · exact .inr ⟨o,jh⟩
  · rcases r with r | ⟨o,r⟩
    · exact .inl (by rw [ji e]; exact r)
    · exact .inr ⟨o,by rw [ji e]; exact r⟩
theorem Lb.swap {B B':Bas} {H:Hp} {p d:Addr} {t:T} {kvs:List (L2.Key × V)} {z z':HO} (o:Lb K B S as H p t) (hd:S d=some z') (h':Ur z' kvs) (h:Ur z kvs) (hB:B.H p=none→B'.H p=none) :
    Lb K B' (upd S d z) as (upd H d z) p t:=by
  have ne:p≠d:=fun e=>by have:=o.out; rw [e,hd] at this; cases this
  exact ⟨o.own.rdx (Li hd h' h) (ji ne).symm,by rw [ji ne]; exact o.out,o.nas,hB o.new⟩
theorem Rel.swap {B B':Bas} {st:Sta} {σ:L2.St} {H:Hp} {ps:List (V × T)} {d:Addr} {kvs:List (L2.Key × V)} {z z':HO} (r:Rel K B st σ H ps S as) (hd:S d=some z') (h':Ur z' kvs) (h:Ur z kvs)
    (hg:Y4 B' (upd S d z) as (upd H d z)) (hB:∀ p,B.H p=none→B'.H p=none):Rel K B' st σ (upd H d z) ps (upd S d z) as where
  sub:=fun b u e=>by
    by_cases eb:b=d
    · subst eb; rw [jh] at e ⊢; exact e
    · rw [ji eb] at e ⊢; exact r.sub _ _ e
  grow:=hg
  slots:=fun i t f e=>by
    obtain ⟨v,h1,h2,h3⟩:=r.slots i t f e
    refine ⟨v,h1,fun q=>(h2 q).rdx (Li hd h' h),fun q=>?_⟩
    obtain ⟨p,ep,o⟩:=h3 q
    exact ⟨p,ep,o.swap hd h' h (hB p)⟩
  apart:=r.apart
  sto:=⟨r.sto.len,r.sto.nd,fun n so e=>by
    obtain ⟨a,h1,h2,h3⟩:=r.sto.at' n so e
    have ne:a≠d:=fun e=>by rw [e,hd] at h2; cases h2
    exact ⟨a,h1,by rw [ji ne]; exact h2,h3.rdx (Li hd h' h) (ji ne).symm⟩⟩
  pend:=fun p hp=>(r.pend p hp).rdx (Li hd h' h)
  len:=r.len
theorem Y4.still {B:Bas} {H:Hp} {d:Addr} {z z':HO} (g:Y4 B S as H) (hd:S d=some z'):Y4 ⟨upd S d z,as,B.H⟩ (upd S d z) as (upd H d z) where
  same:=yq.refl _
  more:=nol
  keep:=fun p o h1 h2 h3=>by
    have ne:p≠d:=fun e=>by subst e; change upd S p z p=none at h2; rw [jh] at h2; cases h2
    have h2':S p=none:=by rw [← ji (H:=S) (o:=z) ne]; exact h2
    have b2:B.S p=none:=by
      cases q:B.S p with
      | none=>rfl
      | some u=>have:=g.same _ _ q; rw [h2'] at this; cases this
    have b3:p∉B.as:=fun q=>by obtain ⟨l,e⟩:=g.more; exact h3 (by show p∈as; rw [e]; exact List.mem_append_left _ q)
    exact ⟨by rw [ji ne]; exact (g.keep p o h1 b2 b3).1,h2,h3⟩
theorem Y4.back {B:Bas} {H H':Hp} {as':List Addr} {d:Addr} {z z':HO} (g:Y4 B S as H) (hd:S d=some z') (g':Y4 ⟨upd S d z,as,B.H⟩ S' as' H'):Y4 B (upd S' d z') as' (upd H' d z') where
  same:=fun b u e=>by
    have e1:=g.same _ _ e
    by_cases eb:b=d
    · subst eb; rw [hd] at e1; cases e1; exact jh
    · rw [ji eb]; exact g'.same _ _ (by show upd S d z b=some u; rw [ji eb]; exact e1)
  more:=by
    obtain ⟨l,e⟩:=g.more
    obtain ⟨l',e'⟩:=g'.more
    exact ⟨l++l',by rw [e',← List.append_assoc,← e]⟩
  keep:=fun p o h1 h2 h3=>by
    obtain ⟨a,b,c⟩:=g.keep p o h1 h2 h3
    have ne:p≠d:=fun e=>by subst e; rw [hd] at b; cases b
    obtain ⟨a',b',c'⟩:=g'.keep p o h1 (by show upd S d z p=none; rw [ji ne]; exact b) c
    exact ⟨by rw [ji ne]; exact a',by rw [ji ne]; exact b',c'⟩
end
theorem a3b {X:Cx} {pins:List (Addr × Obj)} {σ:L2.St} {H:Hp} {s:Shared} {d:Addr} {o:Obj} {kvs:List (L2.Key × V)} (I:Inv X pins σ H s) (e:H d=some (.frz o (.dK kvs))) (n:∀ o u,X.H₀ d≠some (.frz o u)) :
    Inv X pins σ (upd H d (.dK kvs)) s:=by
  have nn:∀ b,H b=none→upd H d (.dK kvs) b=none:=fun b h=>by rw [ji (fun q=>by subst q; rw [e] at h; cases h)]; exact h
  have nt:∀ b xs,H b=some (.tup xs)→upd H d (.dK kvs) b=some (.tup xs):=fun b xs h=>by rw [ji (fun q=>by subst q; rw [e] at h; cases h)]; exact h
  have no:∀ b x,H b=some (.own x)→upd H d (.dK kvs) b=some (.own x):=fun b xs h=>by rw [ji (fun q=>by subst q; rw [e] at h; cases h)]; exact h
  have hok:HOk X.prog X.w (upd H d (.dK kvs)) s.heap:=fun b u q=>by
    by_cases eb:b=d
    · subst eb
      rw [jh] at q; cases q
      obtain ⟨_,x⟩:=(show Ce X.prog X.w H s.heap b (.frz o (.dK kvs)) from I.hok b _ e)
      exact Ce.stay x (fun _ _ _ q=>q) (fun b q=>no b _ q) nt
    · rw [ji eb] at q
      exact (I.hok b u q).stay (fun _ _ _ q=>q) (fun b q=>no b _ q) nt
  refine ⟨I.ok,I.os,I.bare,⟨I.base.keep,I.base.slot,fun b ob h1 h2 h3=>nn b (I.base.free b ob h1 h2 h3),I.base.there,fun b xs q=>nt b xs (I.base.tups b xs q),fun b ob u q=>?_,fun b ps q=>?_⟩,I.loc,I.cell,nn _ I.free,fun x c q=>nn c (I.freeC x c q),fun p hp=>?_,hok,I.len⟩
  · rw [ji (fun z=>by subst z; exact n _ _ q)]; exact I.base.frzs b ob u q
  · obtain ⟨m,hm⟩:=I.base.tbls b ps q
    exact ⟨m,by rw [ji (fun z=>by subst z; rw [e] at hm; cases hm)]; exact hm⟩
  · obtain ⟨a,b,c⟩:=I.pin p hp
    exact ⟨a,nn _ b,c⟩
noncomputable section
variable {X:Cx} {scope:Scope} {N:List Str} {B:Bas} {nv:Nat} {cap:List Nat} {g:G} {c:M Bool} {e:M T} {tg iter elt:Expr} {ifs:List Expr} {pos:Pos} {i:Nat}
theorem a2r {f:List (L2.Key × T)→List T} {ts:List T} {s s1:Sta} (h:a9b f (cj i) s=some (ts,s1)):∃ kvs,ts=f kvs∧kvs.length<lim∧((s.env[i]? = some (some (.dic kvs,false))∧s1=s)∨(s.env[i]? = some (some (.dic kvs,true))∧s1 = { s with env:=s.env.set i (some (.dic kvs,false)) })):=by
  unfold a9b at h
  split at h
  · rename_i kvs s2 e2
    split at h
    · rename_i hl
      cases h
      exact ⟨kvs,rfl,hl,V1 e2⟩
    · cases h
  · cases h
noncomputable def abo (K:PySem.W.Frag) (J:Addr→Obj→List (L2.Key × V)→It) (f:List (L2.Key × T)→List T):Prop:=∀ S as H d o vs ts,yq S H→H d=some (.frz o (.dK vs))→Et K S as vs ts→La K S as H (J d o vs) (f ts)
theorem Nu {J:Addr→Obj→List (L2.Key × V)→It} {f:List (L2.Key × T)→List T} (wk:abo X.K J f) (co:a0s X scope N nv cap) {st s1 s2:Sta} {ps:List (V × T)} {S:Hp} {as:List Addr} {σ:L2.St} {H:Hp} {d:Addr} {o:Obj} {vs:List (L2.Key × V)} {ts:List (L2.Key × T)} {us:List T} {Q:VK}
    (R:Rel X.K B s1 σ H ps S as) (hσ:σ[i]? = some (some (.ref d))) (hB:B.S d=some (.frz o (.dK vs))) (hk:Et X.K B.S B.as vs ts)
    (hc:Ew g c e (f ts) ⟨List.replicate nv none++cap.map (fun i=>((au cap s1.env)[i]?).getD none),s1.sto⟩ []=some (us,s2))
    (q:∀ p H' S' as',Rel X.K B ⟨au cap s1.env,s2.sto⟩ σ H' ps S' as'→Lb X.K B S' as' H' p (.lst us)→Kg ⟨au cap s1.env,s2.sto⟩ σ p→Q (.ref p) H') :
    a4w X scope N (ab7 J i) (gE X.K g) (cE X.K c) (eE X.K e) σ H Q:=by
  obtain ⟨S2,R2⟩:=R.au cap
  refine ⟨d,o,vs,hσ,R.sub _ _ (R.grow.same _ _ hB),?_⟩
  exact Q7 (ps':=[]) co.len (fun _ _ _ _=>trivial) co.at' R2 (fun k hk=>Hh cap s1.env k hk) (fun S as H sB mr _ sub=>wk S as H d o vs ts sub (sub _ _ (sB _ _ hB)) (hk.mono sB mr)) hc fun D H' S' as' R' o n=>q D H' S' as' R' o n
theorem a2a {J:Addr→Obj→List (L2.Key × V)→It} {f:List (L2.Key × T)→List T} (wk:abo X.K J f) (co:a0s X scope N nv cap) (sc:Jk X scope N) (calm:X.calm=true) (hi:PI X tg iter (ab7 J i))
    (hg:∀ C s₀ H₀ ex pn,PG (za X scope N C s₀ H₀ ex pn) tg (gE X.K g)) (hc:∀ C s₀ H₀ ex pn,PTs (za X scope N C s₀ H₀ ex pn) ifs (cE X.K c)) (he:∀ C s₀ H₀ ex pn,PE (za X scope N C s₀ H₀ ex pn) elt (eE X.K e))
    (hs:∀ x,foldedSetIterable iter X.env x=pure x:=by intro _; rfl):PE X (.ListComp elt [⟨tg,iter,ifs,0⟩] scope pos) (fOf X.K B (zj nv cap g (a9b f (cj i)) c e)):=by
  have P:=Zq (pos:=pos) sc calm hi hg hc he hs
  intro pins s σ H Q I z8
  obtain ⟨st,ps,S0,as,R0,t,st',em,q⟩:=z8
  obtain ⟨ts0,s1,us,s2,e1,e2,rfl,rfl⟩:=Qg em
  obtain ⟨ts,rfl,hl,hst⟩:=a2r e1
  have hR:∃ S,Rel X.K B s1 σ H ps S as∧s1.env[i]? = some (some (.dic ts,false)):=by
    rcases hst with ⟨h1,rfl⟩ | ⟨h1,rfl⟩
    · exact ⟨S0,R0,h1⟩
    · obtain ⟨S,R⟩:=R0.U5 h1
      exact ⟨S,R,List.getElem?_set_self (List.getElem?_eq_some_iff.mp h1).1⟩
  obtain ⟨S,R,hE⟩:=hR
  obtain ⟨v,hσ,hv,_⟩:=R.slots i _ _ hE
  cases hv rfl with
  | @dic d vs _ hrd hrk =>
    obtain ⟨z',hS,hz'⟩:∃ z',S d=some z'∧Ur z' vs:=by
      rcases hrd with h | ⟨o,h⟩
      · exact ⟨_,h,.inl rfl⟩
      · exact ⟨_,h,.inr ⟨o,rfl⟩⟩
    have hH:=R.sub _ _ hS
    obtain ⟨o,ho⟩:∃ o,s.heap.get? d=some o:=by
      have:=(I.hok d _ hH).lt
      rcases hz' with rfl | ⟨o,rfl⟩
      · obtain ⟨_,_,_,_,o,_,_,e,_⟩:=(show Ce X.prog X.w H s.heap d (.dK vs) from I.hok d _ hH); exact ⟨o,e⟩
      · exact ⟨o,(show Ce X.prog X.w H s.heap d (.frz o (.dK vs)) from I.hok d _ hH).1⟩
    rcases hz' with rfl | ⟨o',rfl⟩
    · have nf:∀ o u,X.H₀ d≠some (.frz o u):=fun o u h=>by have:=I.base.frzs d o u h; rw [hH] at this; cases this
      have I1:Inv X pins σ (upd H d (.frz o (.dK vs))) s:=I.write (x:=d) (e:=d) (h':=s.heap) (t':=s.toks) (by rw [hH]; trivial) (.inl rfl) (fun _ _ _ q=>q) ⟨o,ho⟩
        ⟨ho,Ce.stay (show Ce X.prog X.w H s.heap d (.dK vs) from I.hok d _ hH) (fun _ _ _ q=>q) (fun b q=>by rw [ji (fun z=>by subst z; rw [hH] at q; cases q)]; exact q) fun b xs q=>by rw [ji (fun z=>by subst z; rw [hH] at q; cases q)]; exact q⟩
      have R1:=R.swap (B':=⟨upd S d (.frz o (.dK vs)),as,B.H⟩) (z:=.frz o (.dK vs)) hS (.inl rfl) (.inr ⟨o,rfl⟩) (R.grow.still hS) fun _ h=>h
      refine thn (P pins s σ _ (fun v H'=>H' d=some (.frz o (.dK vs))∧Q v (upd H' d (.dK vs))) I1 (Nu wk (st:=st) (o:=o) (vs:=vs) (ts:=ts) co R1 hσ jh (hrk.rdx (Li hS (.inl rfl) (.inr ⟨o,rfl⟩))) e2 fun p H' S' as' R' ow n=>?_)) fun u s' ⟨v,H',I',r,hf,hq⟩=>⟨v,_,a3b I' hf nf,r,hq⟩
      have hS':S' d=some (.frz o (.dK vs)):=R'.grow.same _ _ jh
      refine ⟨R'.sub _ _ hS',q p _ (upd S' d (.dK vs)) as' (R'.swap hS' (.inr ⟨o,rfl⟩) (.inl rfl) (R.grow.back hS R'.grow) fun _ h=>h) (ow.swap hS' (.inr ⟨o,rfl⟩) (.inl rfl) fun h=>h) n⟩
    · have R1:Rel X.K ⟨S,as,B.H⟩ s1 σ H ps S as:=⟨R.sub,⟨yq.refl _,nol,fun p o h1 h2 h3=>by
          change S p=none at h2
          have b2:B.S p=none:=by
            cases q:B.S p with
            | none=>rfl
            | some u=>have:=R.grow.same _ _ q; rw [h2] at this; cases this
          have b3:p∉B.as:=fun q=>by obtain ⟨l,e⟩:=R.grow.more; exact h3 (by show p∈as; rw [e]; exact List.mem_append_left _ q)
          exact ⟨(R.grow.keep p o h1 b2 b3).1,h2,h3⟩⟩,fun i t f e=>by
            obtain ⟨v,h1,h2,h3⟩:=R.slots i t f e
            exact ⟨v,h1,h2,fun q=>by obtain ⟨p,ep,o⟩:=h3 q; exact ⟨p,ep,o.own,o.out,o.nas,o.new⟩⟩,R.apart,R.sto,R.pend,R.len⟩
      refine P pins s σ _ Q I (Nu wk (st:=st) (o:=o') (vs:=vs) (ts:=ts) co R1 hσ hS hrk e2 fun p H' S' as' R' ow n=>q p H' S' as' ⟨R'.sub,⟨R.grow.same.trans R'.grow.same,?_,fun p o h1 h2 h3=>?_⟩,fun i t f e=>?_,R'.apart,R'.sto,R'.pend,R'.len⟩ ⟨ow.own,ow.out,ow.nas,ow.new⟩ n)
      · obtain ⟨l,e⟩:=R.grow.more
        obtain ⟨l',e'⟩:=R'.grow.more
        exact ⟨l++l',by rw [e',← List.append_assoc,← e]⟩
      · obtain ⟨a,b,c⟩:=R.grow.keep p o h1 h2 h3
        exact R'.grow.keep p o h1 b c
      · obtain ⟨v,h1,h2,h3⟩:=R'.slots i t f e
        exact ⟨v,h1,h2,fun q=>by obtain ⟨p,ep,o⟩:=h3 q; exact ⟨p,ep,o.own,o.out,o.nas,o.new⟩⟩
end
noncomputable section
noncomputable def Itp (d:Addr) (o:Obj) (kvs:List (L2.Key × V)):It :=
  ⟨fun i H=>H d=some (.frz o (.dK kvs))∧∃ p,kvs[i]? = some p,fun i H v H'=>∃ p,H p=none∧v=.ref p∧∀ q,kvs[i]? = some q→H'=upd H p (.tup [kV q.1,q.2]),fun i H=>H d=some (.frz o (.dK kvs))∧kvs.length≤i⟩
theorem Hg:entryFor table "dict_itemiterator.__iter__" = some Builtin.«dict_keyiterator.__iter__» :=
  entryFor_alias (id' := "dict_keyiterator.__iter__") (by kernel_rfl) (by first | rfl | decide +kernel | (unfold String.splitOn; simp +decide [String.splitOnAux])) (by decide +kernel) (by kernel_rfl) -- here
theorem Ku {prog:Program} {w:World} {A:Around} {E:Value→Shared→Prop} {s:Shared} {it d:Addr} {i n ep:Nat} {ok ov:Value} {Q:Value→Shared→Prop} (hit:IsItemIter s.heap it d i n ep ok ov) (h:Q (.ref it) s):wpAny (model prog w) A (pyIter (.ref it)) Q E s:=by
  have hT:s.TypeIs (.ref it) "dict_itemiterator" := ⟨_,hit,rfl⟩ -- here
  refine wpAny_pyIter_slot hT PySem.F.slot_dict_itemiterator_iter (wpAny_call_entry PySem.F.slot_dict_itemiterator_iter hT Hg ?_ (PySem.F.args_dict_itemiterator_iter_1 _))
  show wpAny _ _ (ret (.ref it)) _ _ s -- here
  exact wpAny_pure ⟨_,rfl,"dict_itemiterator",_,hT,PySem.F.slot_dict_itemiterator_next.lookup,h⟩ -- here
theorem Ww {P:Program} {w:World} {K:PySem.W.Frag} {elts:List Expr} {x1:Nat} {pos:Pos} (d it:Addr) {o:Obj} {kvs:List (L2.Key × V)} {es:Array DictEntry} {ep:Nat} (hd:o.data=.dict es ep) :
    Turn P w K (.Tuple elts x1 pos) (Itp d o kvs) [it] it (fun i h=>∃ ok ov,IsItemIter h it d i kvs.length ep ok ov) where
  mem:=by simp
  obj:=fun i h ⟨ok,ov,st⟩ b hb=>by
    have e:b=it:=by simpa using hb
    subst e
    exact ⟨_,st,fun v z=>by cases z⟩
  keep:=fun i h h' ⟨ok,ov,st⟩ k=>⟨ok,ov,k it (by simp) _ st⟩
  item:=by
    intro X hP hw hK hc i pins s σ H E I hf z8 hg
    obtain ⟨ok,ov,st⟩:=z8
    subst hP hw hK
    obtain ⟨hF,⟨k,v⟩,hx⟩:=hg
    obtain ⟨_,vs,rv,da⟩:=a1a hd I.hok hF
    obtain ⟨u,hu,ru⟩:=a9d rv hx
    rw [KV.length rv] at st
    refine wpAny_pyNext_items_item st da hu fun key h' hk st' hp hsz kp=>?_
    refine ⟨_,rfl,wpAny_letOwnedTupleGo_items (s:={ s with heap:=h' }) st' fun h2 st2 s2=>?_⟩
    have lt:s.heap.objs.size≠it:=Nat.ne_of_gt (Heap.lt_size st)
    have pair:h2.get? s.heap.objs.size=some { cls:=.type "tuple",data:=.seq #[key,u] }:=s2.extBut _ _ lt hp
    have J:L2.Inv X pins σ (upd H s.heap.objs.size (.tup [kV k,v])) { s with heap:=h2,toks:=s.toks }:=Inv.a00 (ch:=[it]) I hf (fun b o hb eb=>by
      have hb':b≠it:=by simpa using hb
      exact s2.extBut _ _ hb' (kp b o hb' eb)) (Nat.le_refl _) ⟨by show 2≤sizeLine; rw [sizeLine_eq]; decide,[key,u],.cons (a79 hk) (.cons ru .nil),⟨_,pair,rfl,rfl,0,rfl⟩⟩
    refine ⟨.ref s.heap.objs.size,_,J,rfl,⟨s.heap.objs.size,I.hok.fresh (Nat.le_refl _),rfl,fun q hq=>by rw [hx] at hq; cases hq; rfl⟩,⟨key,u,by rw [KV.length rv]; exact st2⟩,fun b hb=>?_⟩
    have e:b=it:=by simpa using hb
    subst e
    rw [ji (Ne.symm lt)]; exact (hf b hb).1
  done:=by
    intro X hP hw hK hc i pins s σ H E I hf z8 hg
    obtain ⟨ok,ov,st⟩:=z8
    subst hP hw hK
    obtain ⟨hF,hx⟩:=hg
    obtain ⟨_,vs,rv,da⟩:=a1a hd I.hok hF
    obtain ⟨f0,f1,f2,f3,f4,f5⟩:=hf it (by simp)
    rw [KV.length rv] at st hx
    exact wpAny_pyNext_items_end (I.ok.hd hc) st da (List.getElem?_eq_none hx) fun h' eb=>⟨rfl,I.turned (t':=s.toks) (fun b o hb e=>eb b o hb e) f0 f1 f3 f4 f5⟩
  self:=fun _ _ _ _ _ ⟨ok,ov,st⟩ h=>Ku st h
theorem a2x {X:Cx} {elts:List Expr} {x1:Nat} {tpos apos cpos:Pos} {l:Expr} {i:Nat} (hl:PE X l (a1r i)) (hbase:attributeBase l "items" X.env (eval l X.env)=eval l X.env:=by rfl) (hline:(apos.endLine==cpos.line)=true:=by rfl) :
    PI X (.Tuple elts x1 tpos) (.Call (.Attribute l "items" apos) [] [] cpos) (ab7 Itp i):=by
  intro pins s σ H R I z8
  obtain ⟨d,o,kvs,e1,e2,q⟩:=z8
  refine wpAny_Call_method0_late hbase hline (thn (hl pins s σ H (fun x H1=>x=.ref d∧H1=H) I ⟨_,e1,rfl,rfl⟩) fun v s1 z0=>?_)
  obtain ⟨x,H1,I1,r1,hx,hH⟩:=z0
  subst hx; subst hH
  cases r1
  obtain ⟨ho,z,y,vs,r,o',es,ep,ho',hxd,hd',qq⟩:=(show Ce X.prog X.w H1 s1.heap d (.frz o (.dK kvs)) from I1.hok d _ e2)
  rw [ho] at ho'; cases ho'
  obtain ⟨_,vs',rv,da⟩:=a1a hd' I1.hok e2
  refine ⟨"dict","dict.items",PySem.F.plainAttrs_dict,PySem.F.slot_dict_items,PySem.F.type_dict_items,da.dictOf.typeIs,da.dictOf.mapOf.noDict,Calls.callWith_builtin rfl (PySem.evalArgs_none ?_)⟩
  refine call_meetsIn PySem.F.slot_dict_items da.dictOf.typeIs PySem.F.entry_dict_items (PySem.F.args_dict_items_1 _) (meets_dict_items (vo X.prog X.w) d y) ⟨⟨vs',da.dictOf⟩,?_⟩
  have I2:=I1.kept (h':=s1.heap.push { cls:=.type "dict_items",data:=.fields #[.ref d] }) (t':=s1.toks) fun b o e=>Heap.get?_push_of_some _ e
  refine wpAny_pyIter_items (s:={ s1 with heap:=s1.heap.push { cls:=.type "dict_items",data:=.fields #[.ref d] } }) ⟨_,Heap.get?_push_size _ rfl,rfl,rfl⟩ (da.push _) ?_
  generalize hg:s1.heap.push { cls:=.type "dict_items",data:=.fields #[.ref d] } = g at *
  refine ⟨g.objs.size,[g.objs.size],_,_,H1,rfl,I2.kept (t':=s1.toks) fun b o e=>Heap.get?_push_of_some _ e,Ww d g.objs.size hd',⟨.none,.none,?_⟩,fun b hb=>?_,q⟩
  · show (g.push _).get? g.objs.size=_
    rw [Heap.get?_push_size _ rfl,KV.length rv]; rfl
  have e:b=g.objs.size:=by simpa using hb
  subst e
  exact I2.a7z (Nat.le_refl _) (I2.hok.fresh (Nat.le_refl _))
theorem R8 {K:PySem.W.Frag} {S:Hp} {as:List Addr}:∀ {vs:List (L2.Key × V)} {ts:List (L2.Key × T)},Et K S as vs ts→∀ (i:Nat) (t:T),(Jr ts)[i]? = some t→∃ k v u,vs[i]? = some (k,v)∧t=.tup [Xj k,u]∧Rep K S as v u
  | _,_,.nil,i,t,e=>by simp [Jr] at e
  | _,_,.cons (k:=k) (v:=v) (t:=u) hu hr,0,t,e=>by simp [Jr] at e; exact ⟨k,v,u,rfl,e.symm,hu⟩
  | _,_,.cons hu hr,j+1,t,e=>by
    obtain ⟨k2,v2,u2,a,b,c⟩:=R8 hr j t (by simpa [Jr] using e)
    exact ⟨k2,v2,u2,by simpa using a,b,c⟩
theorem Xl {K:PySem.W.Frag}:abo K Itp Jr:=fun S as H d o vs ts sub h r=>by
  refine ⟨fun i t e=>?_,fun i hi=>⟨h,?_⟩⟩
  · obtain ⟨k,v,u,a,rfl,c⟩:=R8 r i t e
    refine ⟨⟨h,_,a⟩,fun x H' z0=>?_⟩
    obtain ⟨p,hn,hv,hH⟩:=z0
    have:=hH _ a
    subst hv this
    have x:=Ext.laid sub hn (.tup [kV k,v])
    refine ⟨_,x,.tup (SqT.of jh) (.cons ?_ (.cons (c.mono x.s nol) .nil))⟩
    cases k with
    | inl i=>exact .int i
    | inr y=>exact .str y
  · have:=r.length
    unfold Jr at hi
    rw [List.length_map] at hi
    omega
theorem a4v {X:Cx} {scope:Scope} {N:List Str} {B:Bas} {nv:Nat} {cap:List Nat} {g:G} {c:M Bool} {e:M T} {elt:Expr} {ifs:List Expr} {pos:Pos} {i:Nat} {elts:List Expr} {x1:Nat} {tpos apos cpos:Pos} {l:Expr} (co:a0s X scope N nv cap) (sc:Jk X scope N) (calm:X.calm=true) (hi:PE X l (a1r i))
    (hg:∀ C s₀ H₀ ex pn,PG (za X scope N C s₀ H₀ ex pn) (.Tuple elts x1 tpos) (gE X.K g)) (hc:∀ C s₀ H₀ ex pn,PTs (za X scope N C s₀ H₀ ex pn) ifs (cE X.K c)) (he:∀ C s₀ H₀ ex pn,PE (za X scope N C s₀ H₀ ex pn) elt (eE X.K e))
    (hs:∀ x,foldedSetIterable (.Call (.Attribute l "items" apos) [] [] cpos) X.env x=pure x:=by intro _; rfl) (hbase:attributeBase l "items" X.env (eval l X.env)=eval l X.env:=by rfl) (hline:(apos.endLine==cpos.line)=true:=by rfl) :
    PE X (.ListComp elt [⟨.Tuple elts x1 tpos,.Call (.Attribute l "items" apos) [] [] cpos,ifs,0⟩] scope pos) (fOf X.K B (zj nv cap g (Pz (cj i)) c e)) :=
  a2a Xl co sc calm (a2x hi hbase hline) hg hc he hs
end
end C
end
noncomputable section
set_option linter.all false
set_option maxRecDepth 100000
set_option maxHeartbeats 4000002
set_option autoImplicit false
namespace C
open PySem PySem.Spec PyProof.Rows L2
noncomputable def Itm (K:PySem.W.Frag) (a:Addr):It :=
  ⟨fun i H=>∃ xs x,SqL K H a xs∧xs[i]? = some x,fun i H v H'=>∃ p x,H p=none∧v=.ref p∧H'=upd H p (.tup [.int (i:Int),x])∧∀ xs,SqL K H a xs→xs[i]? = some x,fun i H=>∃ xs,SqL K H a xs∧xs.length≤i⟩
theorem a0a {P:Program} {w:World} {K:PySem.W.Frag} {elts:List Expr} {x1:Nat} {pos:Pos} {a e it:Addr} (hne:e≠it) :
    Turn P w K (.Tuple elts x1 pos) (Itm K a) [e,it] e (fun i h=>(∃ old,IsEnum h e it (i:Int) old)∧h.IsListIter it a i) where
  mem:=by simp
  obj:=fun i h ⟨⟨old,he⟩,t⟩ b hb=>by
    simp only [List.mem_cons,List.not_mem_nil,or_false] at hb -- here
    rcases hb with rfl | rfl
    · exact ⟨_,he,fun v q=>by cases q⟩
    · obtain ⟨o,e,c,d⟩:=t
      exact ⟨o,e,fun v z=>by rw [d] at z; cases z⟩
  keep:=fun i h h' ⟨⟨old,he⟩,t⟩ k=>⟨⟨old,k e (by simp) _ he⟩,t.at fun o q=>k it (by simp) o q⟩
  item:=by
    intro X hP hw hK hc i pins s σ H E I hf ⟨⟨old,he⟩,t⟩ ⟨xs,x,q1,e1⟩
    subst hP hw hK
    obtain ⟨its,rv,p,hz⟩:=I.list q1
    obtain ⟨u,g1,ru⟩:=rv.get e1
    refine wpAny_pyNext_enum_item he t p.isList (x:=u) (by simpa using g1) hne fun h' heo t' hp hsz kp=>?_
    refine ⟨_,rfl,wpAny_letOwnedTupleGo_enum (s:={ s with heap:=h',toks:=s.toks+1 }) heo fun h2 he2 s2=>?_⟩
    have lt:∀ b∈[e,it],s.heap.objs.size≠b:=fun b hb=>by
      simp only [List.mem_cons,List.not_mem_nil,or_false] at hb -- here
      rcases hb with rfl | rfl
      · exact Nat.ne_of_gt (Heap.lt_size he)
      · obtain ⟨o,e,_⟩:=t
        exact Nat.ne_of_gt (Heap.lt_size e)
    have pair:h2.get? s.heap.objs.size=some { cls:=.type "tuple",data:=.seq #[.int i s.toks,u] }:=s2.extBut _ _ (lt e (by simp)) hp
    have J:L2.Inv X pins σ (upd H s.heap.objs.size (.tup [.int (i:Int),x])) { s with heap:=h2,toks:=s.toks+1 }:=Inv.a00 (ch:=[e,it]) I hf (fun b o hb eb=>by
      simp only [List.mem_cons,List.not_mem_nil,or_false,not_or] at hb
      exact s2.extBut _ _ hb.1 (kp b o hb.1 hb.2 eb)) (Nat.le_refl _) ⟨by show 2≤sizeLine; rw [sizeLine_eq]; decide,[.int i s.toks,u],.cons ⟨_,rfl⟩ (.cons ru .nil),⟨_,pair,rfl,rfl,0,rfl⟩⟩
    refine ⟨.ref s.heap.objs.size,_,J,rfl,⟨s.heap.objs.size,x,I.hok.fresh (Nat.le_refl _),rfl,rfl,fun xs' h=>by rw [I.Wc h q1]; exact e1⟩,⟨⟨u,?_⟩,?_⟩,fun b hb=>?_⟩
    · have:((i+1:Nat):Int)=(i:Int)+1:=by omega
      rw [this]; exact he2
    · exact t'.at fun o q=>s2.extBut _ _ (Ne.symm hne) q
    · rw [ji (Ne.symm (lt b hb))]; exact (hf b hb).1
  done:=by
    intro X hP hw hK hc i pins s σ H E I hf ⟨⟨old,he⟩,t⟩ ⟨xs,q1,hx⟩
    subst hP hw hK
    obtain ⟨its,rv,p,hz⟩:=I.list q1
    have hl:=rv.length
    refine wpAny_pyNext_enum_end (I.ok.hd hc) he t p.isList (by simp; omega) fun h' kp=>⟨rfl,Inv.a6t (t':=s.toks) (ch:=[e,it]) I hf fun b u hb eb=>?_⟩
    simp only [List.mem_cons,List.not_mem_nil,or_false,not_or] at hb
    exact kp b u hb.2 eb
  self:=fun _ _ _ _ _ ⟨⟨_,he⟩,_⟩ h=>wpAny_pyIter_enum he h
noncomputable def iEm (K:PySem.W.Frag) (ta:TA):TI:=fun σ H R=>ta σ H fun vs H1=>∃ a xs,vs=[.ref a]∧SqL K H1 a xs∧R (Itm K a) H1
noncomputable section
variable {X:Cx} {B:Bas} {a:Expr} {m:M T} {pos p:Pos} {elts:List Expr} {x1:Nat} {tpos:Pos}
theorem a6q {ta:TA} (hg:Gl X "enumerate") (hm:X.mg "enumerate" = none) (ha:PA X [a] ta) (hs:starEach [a] X.env=[(false,eval a X.env)]:=by rfl) :
    PI X (.Tuple elts x1 tpos) (.Call (.Name "enumerate" p) [a] [] pos) (iEm X.K ta):=by
  intro pins s σ H R I h
  refine Call_ (Nq I hg hm boot_enumerate (PyProof.Rows.callWith_type1 (thn (ha pos pins s σ H _ I h) fun us s1 z0=>?_) (by rw [hs]; rfl) (by rfl)))
  obtain ⟨vs,H1,I1,r1,q1⟩:=z0
  obtain ⟨a,xs,e,w1,q⟩:=q1
  subst e
  cases r1 with
  | cons r rr =>
    cases rr
    cases r
    obtain ⟨its,rv,pL,hz⟩:=I1.list w1
    refine call_enumerate_list pL.isList fun h' he hit hsz kp=>wpAny_pyIter_enum he ?_
    refine ⟨_,[s1.heap.objs.size+1,s1.heap.objs.size],_,_,H1,rfl,I1.kept (t':=s1.toks) kp,a0a (Nat.succ_ne_self _),⟨⟨_,he⟩,hit⟩,fun b hb=>?_,q⟩
    have hle:s1.heap.objs.size≤b:=by
      simp only [List.mem_cons,List.not_mem_nil,or_false] at hb -- here
      rcases hb with rfl | rfl
      · exact Nat.le_succ _
      · exact Nat.le_refl _
    exact I1.a7z hle (I1.hok.fresh hle)
theorem Rc {ts:List T} {s s':Sta} (h:Qi m s=some (ts,s')):∃ xs,m s=some (.lst xs,s')∧xs.length<lim∧ts=Q0 xs:=by
  unfold Qi at h
  split at h
  · rename_i xs s1 e1
    split at h
    · rename_i hl; cases h; exact ⟨xs,e1,hl,rfl⟩
    · cases h
  · cases h
theorem a7u:∀ st ts st',Qi m st=some (ts,st')→ts.length≤sizeLine:=fun st ts st' e=>by
  obtain ⟨xs,_,l1,rfl⟩:=Rc e
  unfold Q0
  rw [List.length_map,List.length_zipIdx]
  exact Nat.le_trans (Nat.le_of_lt l1) yc
theorem a0w {xs:List T} {i:Nat} {t:T} (h:(Q0 xs)[i]? = some t):∃ x,xs[i]? = some x∧t=.tup [.int (i:Int),x]:=by
  unfold Q0 at h
  rw [List.getElem?_map,List.getElem?_zipIdx] at h
  cases q:xs[i]? with
  | none=>rw [q] at h; cases h
  | some x=>rw [q] at h; simp at h; exact ⟨x,rfl,h.symm⟩
theorem a6c (hg:Gl X "enumerate") (hm:X.mg "enumerate" = none) (h1:PE X a (tOf X.K B m)) (hs:starEach [a] X.env=[(false,eval a X.env)]:=by rfl) :
    PI X (.Tuple elts x1 tpos) (.Call (.Name "enumerate" p) [a] [] pos) (iOf X.K B (Qi m)):=by
  intro pins s σ H R I hw
  refine a6q (ta:=Ws (tOf X.K B m) a7y) hg hm (vp h1 Bd hs) hs pins s σ H R I ?_
  obtain ⟨st,ps,S,as,Rl,ts,st',e,hz,q⟩:=hw
  obtain ⟨xs,e1,l1,rfl⟩:=Rc e
  refine ⟨st,ps,S,as,Rl,_,_,e1,fun v H1 S1 as1 R1=>?_⟩
  have top:=R1.top
  cases top with
  | @lst a vs _ hs hr =>
    refine ⟨a,vs,rfl,ou R1.sub hs,q _ H1 S1 as1 [(.ref a,.lst xs)] R1 fun S2 as2 H2 hp hh=>?_⟩
    have:=hp _ List.mem_cons_self
    cases this with
    | @lst _ vs2 _ hs2 hr2 =>
      refine ⟨fun i tt et=>?_,fun i hi=>⟨vs2,ou hh hs2,?_⟩⟩
      · obtain ⟨x,f1,rfl⟩:=a0w et
        obtain ⟨vx,gx,rx⟩:=hr2.get f1
        refine ⟨⟨vs2,vx,ou hh hs2,gx⟩,fun v H' z0=>?_⟩
        obtain ⟨pp,x',hn,hv,hH,b1⟩:=z0
        have c1:=b1 _ (ou hh hs2)
        rw [gx] at c1
        cases c1
        subst hv hH
        have x:=Ext.laid hh hn (.tup [.int (i:Int),vx])
        exact ⟨_,x,.tup (SqT.of jh) (.cons (.int _) (.cons (rx.mono x.s nol) .nil))⟩
      · rw [hr2.length]
        unfold Q0 at hi
        rwa [List.length_map,List.length_zipIdx] at hi
end
end C
end
noncomputable section
set_option linter.all false
set_option maxRecDepth 100000
set_option maxHeartbeats 4000002
set_option autoImplicit false
namespace C
open PySem PySem.Spec PyProof.Rows L2
theorem Jx:typeLookup (.type "zip") "__getattr__" = pure none:=by rw [typeLookup_type,builtinLookup_eq_fast]; kernel_rfl
theorem Fl:entryFor table "zip.__getattribute__" = some Builtin.«object.__getattribute__» :=
  entryFor_alias (id' := "object.__getattribute__") (by kernel_rfl) (by decide +kernel) (by decide +kernel) (by kernel_rfl) -- here
theorem Oj:typeLookup (.type "zip") "keys" = pure none:=am_miss_of_fast (by decide +kernel)
theorem Dr (a:Addr) (fs:Array Value) (name:Str) (u:Tok) (hmiss:typeLookup (.type "zip") name=pure none) (hname:(["__module__","__name__","__qualname__","__doc__","__annotations__"]:List Str).contains name=false) (hsz:name.length+100≤sizeLine:=by size_fits) :
    Meets (Builtin.«object.__getattribute__» ⟨[.ref a,.str name u],[]⟩) (fun A R s=>s.heap.get? a=some { cls:=.type "zip",dict:=none,data:=.fields fs,slots:=#[] }∧raisesAttr (.ref a) name A R s) :=
  Meets.of_wp fun prog w A R s hs=>by -- here
    obtain ⟨hp,g,d,tk,os⟩:=s -- here
    obtain ⟨hx,hs⟩:=hs
    have hT:(⟨hp,g,d,tk,os⟩:Shared).TypeIs (.ref a) "zip" := ⟨_,hx,rfl⟩
    unfold Builtin.«object.__getattribute__» -- here
    repeat (any_goals (first | assumption | wp_step)) -- here
    simp only [hname,Bool.false_eq_true,if_false] -- here
    repeat (any_goals (first | assumption | wp_step)) -- here
    exact wpAny_raiseAttrError hs.1 hs.2 (attrMsg_fits (by decide +kernel) hsz) -- here
noncomputable section
variable {prog:Program} {w:World} {A:Around} {E:Value→Shared→Prop} {s:Shared}
theorem a4c {l:Addr} {fs:Array Value} {Q:Option Value→Shared→Prop} (hx:s.heap.get? l=some { cls:=.type "zip",dict:=none,data:=.fields fs,slots:=#[] }) (nh:A.handled=none)
    (h:∀ h' tk e,Heap.NewExcOf s.heap h' e "AttributeError" → Q none { s with heap:=h',toks:=tk }):wpAny (model prog w) A (getAttr? (.ref l) "keys") Q E s:=by
  obtain ⟨h0,g0,d0,tk,os⟩:=s
  have hT:∀ tk',(⟨h0,g0,d0,tk',os⟩:Shared).TypeIs (.ref l) "zip" := fun _=>⟨_,hx,rfl⟩
  have g1:=sub_AttributeError
  have g3:=F.slot_zip_getattribute.lookup
  have g4:=F.slot_zip_getattribute.bind (.ref l)
  have g5:=Jx
  unfold getAttr?
  unfold getAttrBy?
  unfold getAttrBy
  repeat (any_goals (first | assumption | exact hT _ | ((with_reducible show wpAny _ _ (call (Value.builtin "zip.__getattribute__") _ _) _ _ _); refine call_meets F.slot_zip_getattribute (hT _) Fl (F.args_zip_getattribute_2 _ _) (Dr l fs "keys" _ Oj (by decide +kernel)) ⟨hx,nh,fun h' tk' e y=>?_⟩) | wp_step))
  obtain ⟨t',u',he⟩:=y.there
  change wpAny _ _ (getattributeRaised _ _ _ _ _ _ _) _ _ _
  unfold getattributeRaised
  repeat (any_goals first | assumption | wp_step)
  exact h _ _ _ y.of
end
end C
end
noncomputable section
set_option linter.all false
set_option maxRecDepth 100000
set_option maxHeartbeats 4000002
set_option autoImplicit false
namespace C
open PySem PySem.Spec PyProof.Rows L2
open Sem (wp)
noncomputable section
variable {prog:Program} {w:World} {A:Around} {E:Value→Shared→Prop} {s:Shared}
theorem a3v {M:Model} {a:Addr} {Q:Option Obj→Shared→Prop} (h:Q (s.heap.get? a) s):wpAny M A (loadIfAlive a) Q E s:=fun Γ p _=>by
  unfold loadIfAlive
  rw [Sem.wp_loadIfAlive]
  exact (Sem.wp_pure ..).mpr h
noncomputable abbrev a6z (h:Heap) (z ti to':Addr) (a:Addr) (b:Bool):Prop:=h.get? z=some { cls:=.type "zip",dict:=none,data:=.fields #[rawInt a,.bool b,.bool false,.ref ti,.ref to'],slots:=#[] }
theorem V4 {z ti to' a:Addr} {b:Bool} {o:Obj} {Q:Bool→Shared→Prop} (hz:a6z s.heap z ti to' a b) (ha:s.heap.get? a=some o)
    (q:∀ h',a6z h' z ti to' a true→Heap.ExtBut z s.heap h'→h'.objs.size=s.heap.objs.size→Q false { s with heap:=h' }):wpAny (model prog w) A (Builtin.SmallTypes.ownedTupleIsFree (.ref z)) Q E s:=by
  unfold Builtin.SmallTypes.ownedTupleIsFree -- here
  refine wpAny_bind (wpAny_field hz rfl (x:=rawInt a) rfl ?_)
  show wpAny _ _ (loadIfAlive ((a:Int)).toNat >>= _) _ _ s
  refine wpAny_bind (a3v ?_)
  rw [Int.toNat_natCast,ha]
  dsimp only
  rw [if_neg (by simp)]
  refine wpAny_bind (wpAny_field hz rfl (x:=.bool b) rfl ?_)
  cases b with
  | true =>
    rw [if_neg (by decide)]
    exact wpAny_pure (q _ hz (fun _ _ _ e=>e) rfl)
  | false =>
    rw [if_pos (by decide)]
    exact wpAny_bind (wpAny_setField_rec hz (by simp) fun h' hz' s'=>wpAny_pure (q h' hz' s'.extBut s'.1))
theorem a07 {k1 k2:Bool} {z ti to' i1 i2 a1 a2 a:Addr} {b:Bool} {o:Obj} {j1 j2:Nat} {xs ys:Array Value} {x y:Value} {Q:Value→Shared→Prop} (D:Far z ti to' i1 i2) (hz:a6z s.heap z ti to' a b) (hI:IsPair s.heap ti (.ref i1) (.ref i2)) (ha:s.heap.get? a=some o)
    (h1:Fw k1 s.heap i1 a1 j1) (h2:Fw k2 s.heap i2 a2 j2) (r1:Az k1 s.heap a1 xs) (r2:Az k2 s.heap a2 ys) (n2:a2≠z∧a2≠i1∧a2≠i2) (n1:a1≠z) (hx:xs[j1]? = some x) (hy:ys[j2]? = some y)
    (q:∀ h',a6z h' z ti to' a true→Fw k1 h' i1 a1 (j1+1)→Fw k2 h' i2 a2 (j2+1)→IsPair h' s.heap.objs.size x y→(∀ c o,c≠z→c≠i1→c≠i2→s.heap.get? c=some o→h'.get? c=some o)→Q (.ref s.heap.objs.size) { s with heap:=h' }) :
    wpAny (model prog w) A (Builtin.«zip.__next__» ⟨[.ref z],[]⟩) (fun fin s'=>∃ v,fin=.done (.ret v)∧Q v s') E s:=by -- here
  obtain ⟨d1,d2,d3,d4,d5,d6,d7,d8,d9,d10⟩:=D.all
  refine (show wpAny _ _ (field (.ref z) 2 >>= _) _ _ _ from wpAny_bind (wpAny_field hz rfl (x:=.bool false) rfl ?_))
  refine (show wpAny _ _ (field (.ref z) 3 >>= _) _ _ _ from wpAny_bind (wpAny_field hz rfl (x:=.ref ti) rfl (wpAny_bind (wpAny_seqItems hI rfl ?_))))
  refine (show wpAny _ _ (Builtin.SmallTypes.ownedTupleIsFree (.ref z) >>= _) _ _ _ from wpAny_bind (V4 hz ha fun g1 z1 s1 sz1=>?_))
  dsimp only
  rw [if_neg (by decide)]
  rw [← Array.forIn_toList]
  simp only [List.forIn_cons,List.forIn_nil] -- here
  refine wpAny_bind (wpAny_bind (wpAny_bind (wpAny_holding (show wpAny _ _ (Builtin.SmallTypes.nextOf (.ref i1) >>= fun x=>pure (some x)) _ _ _ from wpAny_bind (Gd (s:={ s with heap:=g1 }) (h1.to fun o e=>s1 _ _ d3 e) (r1.to fun o e=>s1 _ _ n1 e) hx fun g2 t2 s2=>wpAny_pure (wpAny_pure ?_))))))
  have e2:∀ c o,c≠z→c≠i1→s.heap.get? c=some o→g2.get? c=some o:=fun c o c1 c2 e=>s2.extBut _ _ c2 (s1 _ _ c1 e)
  refine wpAny_bind (wpAny_bind (wpAny_holding (show wpAny _ _ (Builtin.SmallTypes.nextOf (.ref i2) >>= fun x=>pure (some x)) _ _ _ from wpAny_bind (Gd (s:={ s with heap:=g2 }) (h2.to fun o e=>e2 _ o d4 (Ne.symm d10) e) (r2.to fun o e=>e2 _ o n2.1 n2.2.1 e) hy fun g3 t3 s3=>wpAny_pure (wpAny_pure (wpAny_pure ?_))))))
  dsimp only
  have sz:g3.objs.size=s.heap.objs.size:=by rw [s3.1]; show g2.objs.size=_; rw [s2.1]; exact sz1
  refine wpAny_bind (wpAny_newTuple (wpAny_pure ⟨_,rfl,?_⟩) (by show 2≤sizeLine; rw [sizeLine_eq]; decide))
  show Q (.ref g3.objs.size) _
  have z3:a6z g3 z ti to' a true:=s3.extBut _ _ (Ne.symm d4) (s2.extBut _ _ (Ne.symm d3) z1)
  have p3:IsPair (g3.push { cls:=.type "tuple",data:=.seq #[x,y] }) g3.objs.size x y:=Heap.get?_push_size _ rfl
  rw [sz] at p3 ⊢
  exact q _ (Heap.get?_push_of_some _ z3) (t2.to fun o e=>Heap.get?_push_of_some _ (s3.extBut _ _ d10 e)) (t3.to fun o e=>Heap.get?_push_of_some _ e) p3 fun c o c1 c2 c3 e=>Heap.get?_push_of_some _ (s3.extBut _ _ c3 (e2 c o c1 c2 e))
theorem Z4 {k1 k2:Bool} {z ti to' i1 i2 a1 a2 a:Addr} {b:Bool} {o:Obj} {j1 j2:Nat} {xs ys:Array Value} {Q:PySem.Fin→Shared→Prop} (hh:A.handled=none) (D:Far z ti to' i1 i2) (hz:a6z s.heap z ti to' a b) (hI:IsPair s.heap ti (.ref i1) (.ref i2)) (ha:s.heap.get? a=some o)
    (h1:Fw k1 s.heap i1 a1 j1) (h2:Fw k2 s.heap i2 a2 j2) (r1:Az k1 s.heap a1 xs) (r2:Az k2 s.heap a2 ys) (n2:a2≠z∧a2≠i1∧a2≠i2) (n1:a1≠z) (hend:xs[j1]? = none∨ys[j2]? = none)
    (q:∀ h' e,(∀ c o,c≠z→c≠i1→c≠i2→s.heap.get? c=some o→h'.get? c=some o)→(∃ o,h'.get? e=some o∧o.cls=.type "StopIteration")→E (.ref e) { s with heap:=h' }) :
    wpAny (model prog w) A (Builtin.«zip.__next__» ⟨[.ref z],[]⟩) Q E s:=by -- here
  obtain ⟨d1,d2,d3,d4,d5,d6,d7,d8,d9,d10⟩:=D.all
  refine (show wpAny _ _ (field (.ref z) 2 >>= _) _ _ _ from wpAny_bind (wpAny_field hz rfl (x:=.bool false) rfl ?_))
  refine (show wpAny _ _ (field (.ref z) 3 >>= _) _ _ _ from wpAny_bind (wpAny_field hz rfl (x:=.ref ti) rfl (wpAny_bind (wpAny_seqItems hI rfl ?_))))
  refine (show wpAny _ _ (Builtin.SmallTypes.ownedTupleIsFree (.ref z) >>= _) _ _ _ from wpAny_bind (V4 hz ha fun g1 z1 s1 sz1=>?_))
  dsimp only
  rw [if_neg (by decide)]
  rw [← Array.forIn_toList]
  simp only [List.forIn_cons,List.forIn_nil] -- here
  cases hx:xs[j1]? with
  | none =>
    exact wpAny_bind (wpAny_bind (wpAny_bind (wpAny_holding (show wpAny _ _ (Builtin.SmallTypes.nextOf (.ref i1) >>= fun x=>pure (some x)) _ _ _ from wpAny_bind (Ed (s:={ s with heap:=g1 }) hh (h1.to fun o e=>s1 _ _ d3 e) (r1.to fun o e=>s1 _ _ n1 e) hx fun g2 e s2 he=>q g2 e (fun c o c1 c2 _ x=>s2 _ _ c2 (s1 _ _ c1 x)) he)))))
  | some x =>
    have hy:ys[j2]? = none:=hend.resolve_left fun h=>by rw [hx] at h; cases h
    refine wpAny_bind (wpAny_bind (wpAny_bind (wpAny_holding (show wpAny _ _ (Builtin.SmallTypes.nextOf (.ref i1) >>= fun x=>pure (some x)) _ _ _ from wpAny_bind (Gd (s:={ s with heap:=g1 }) (h1.to fun o e=>s1 _ _ d3 e) (r1.to fun o e=>s1 _ _ n1 e) hx fun g2 t2 s2=>wpAny_pure (wpAny_pure ?_))))))
    have e2:∀ c o,c≠z→c≠i1→s.heap.get? c=some o→g2.get? c=some o:=fun c o c1 c2 e=>s2.extBut _ _ c2 (s1 _ _ c1 e)
    exact wpAny_bind (wpAny_bind (wpAny_holding (show wpAny _ _ (Builtin.SmallTypes.nextOf (.ref i2) >>= fun x=>pure (some x)) _ _ _ from wpAny_bind (Ed (s:={ s with heap:=g2 }) hh (h2.to fun o e=>e2 _ o d4 (Ne.symm d10) e) (r2.to fun o e=>e2 _ o n2.1 n2.2.1 e) hy fun g3 e s3 he=>q g3 e (fun c o c1 c2 c3 x=>s3 _ _ c3 (e2 c o c1 c2 x)) he))))
structure aa9 (k1 k2:Bool) (z ti to' i1 i2 a1 a2:Addr) (i:Nat) (h:Heap):Prop where
  it1:Fw k1 h i1 a1 i
  it2:Fw k2 h i2 a2 i
  its:IsPair h ti (.ref i1) (.ref i2)
  st:Mj h z ti to' i1 i2 .none∨∃ a b o,a6z h z ti to' a b∧h.get? a=some o∧a≠z∧a≠i1∧a≠i2
theorem a0d {k1 k2:Bool} {z ti to' i1 i2 a1 a2:Addr} {i:Nat} {xs ys:Array Value} {x y:Value} {Q:Option Value→Shared→Prop} (D:Far z ti to' i1 i2) (Z:aa9 k1 k2 z ti to' i1 i2 a1 a2 i s.heap)
    (r1:Az k1 s.heap a1 xs) (r2:Az k2 s.heap a2 ys) (n2:a2≠z∧a2≠to'∧a2≠i1∧a2≠i2) (n1:a1≠z) (hx:xs[i]? = some x) (hy:ys[i]? = some y)
    (q:∀ h',aa9 k1 k2 z ti to' i1 i2 a1 a2 (i+1) h'→IsPair h' s.heap.objs.size x y→Tf z to' i1 i2 s.heap h'→Q (some (.ref s.heap.objs.size)) { s with heap:=h' }):wpAny (model prog w) A (pyNext (.ref z)) Q E s:=by
  obtain ⟨t1,t2,hI,st⟩:=Z
  obtain ⟨d1,d2,d3,d4,d5,d6,d7,d8,d9,d10⟩:=D.all
  rcases st with Z | ⟨a,b,o,hz,ha,na,na1,na2⟩
  · have nz:s.heap.objs.size≠z:=Nat.ne_of_gt (Heap.lt_size Z.zip)
    obtain ⟨o1,g1,_⟩:=t1.obj
    obtain ⟨o2,g2,_⟩:=t2.obj
    exact a4f D Z t1 t2 r1 r2 n2 n1 hx hy fun h' Z' t1' t2' hp kp=>q h' ⟨t1',t2',Z'.its,.inr ⟨_,false,_,Z'.zip,hp,nz,Nat.ne_of_gt (Heap.lt_size g1),Nat.ne_of_gt (Heap.lt_size g2)⟩⟩ hp kp
  · have ty:s.TypeIs (.ref z) "zip" := ⟨_,hz,rfl⟩
    unfold pyNext
    exact wpAny_bind (wpAny_attempt (wpAny_callSpecial?_slot (name:=Str.ofString "__next__") ty F.slot_zip_next (wpAny_call_entry F.slot_zip_next ty F.entry_zip_next
      (a07 D hz hI ha t1 t2 r1 r2 ⟨n2.1,n2.2.2⟩ n1 hx hy fun h' z' t1' t2' hp kp=>wpAny_pure (q h' ⟨t1',t2',kp _ _ d1 d6 d7 hI,.inr ⟨a,true,o,z',kp _ _ na na1 na2 ha,na,na1,na2⟩⟩ hp fun c o c1 _ c3 c4 e=>kp c o c1 c3 c4 e)) (F.args_zip_next_1 _))))
theorem Yw {k1 k2:Bool} {z ti to' i1 i2 a1 a2:Addr} {i:Nat} {xs ys:Array Value} {Q:Option Value→Shared→Prop} (hh:A.handled=none) (D:Far z ti to' i1 i2) (Z:aa9 k1 k2 z ti to' i1 i2 a1 a2 i s.heap)
    (r1:Az k1 s.heap a1 xs) (r2:Az k2 s.heap a2 ys) (n2:a2≠z∧a2≠to'∧a2≠i1∧a2≠i2) (n1:a1≠z) (hend:xs[i]? = none∨ys[i]? = none)
    (q:∀ h',Tf z to' i1 i2 s.heap h'→Q none { s with heap:=h' }):wpAny (model prog w) A (pyNext (.ref z)) Q E s:=by
  obtain ⟨t1,t2,hI,st⟩:=Z
  rcases st with Z | ⟨a,b,o,hz,ha,na,na1,na2⟩
  · exact a3r hh D Z t1 t2 r1 r2 n2 n1 hend q
  · have ty:s.TypeIs (.ref z) "zip" := ⟨_,hz,rfl⟩
    unfold pyNext
    refine wpAny_bind (wpAny_attempt (wpAny_callSpecial?_slot (name:=Str.ofString "__next__") ty F.slot_zip_next (wpAny_call_entry F.slot_zip_next ty F.entry_zip_next
      (Z4 hh D hz hI ha t1 t2 r1 r2 ⟨n2.1,n2.2.2⟩ n1 hend fun h' e kp he=>?_) (F.args_zip_next_1 _))))
    obtain ⟨o,ho,hc⟩:=he
    exact wpAny_bind (wpAny_isInstance (T := "StopIteration") (b:=true) ⟨o,ho,hc⟩ isSubtype_stop (wpAny_pure (q _ fun c o c1 _ c3 c4 e=>kp c o c1 c3 c4 e)))
end
end C
end
noncomputable section
set_option linter.all false
set_option maxRecDepth 100000
set_option maxHeartbeats 4000002
set_option autoImplicit false
namespace C
open PySem PySem.Spec PyProof.Rows L2
noncomputable section
variable {prog:Program} {w:World} {A:Around} {R:Result→Shared→Prop} {k1 k2:Bool} {z ti to' i1 i2 a1 a2:Addr} {xs ys:Array Value} {κ:Type} [DecidableEq κ] {knd:PySem.KeyKind prog w κ}
theorem Yl (nh:A.handled=none) (Df:Far z ti to' i1 i2) (D:Addr) (hDf:D∉[z,ti,to',i1,i2]) (result:Value) (h0:Heap) (key:Nat→κ) (val:Nat→Value) (n:Nat) (hz:n≤sizeLine)
    (r1:Az k1 h0 a1 xs) (r2:Az k2 h0 a2 ys) (n1:a1∉[D,z,ti,to',i1,i2]) (n2:a2∉[D,z,ti,to',i1,i2]) (hmin:n=min xs.size ys.size)
    (hk:∀ i x,i<n→xs[i]? = some x→knd.is (key i) x=true) (hv:∀ i y,i<n→ys[i]? = some y→y=val i) :
    ∀ (j i:Nat) (c:Nat) (s:Shared),n - i=j→i≤n→aa9 k1 k2 z ti to' i1 i2 a1 a2 i s.heap→(∀ b o,b∉[D,z,ti,to',i1,i2]→h0.get? b=some o→s.heap.get? b=some o)→s.heap.DictOf knd D (told key val i) →
      (∀ h' tk,h'.DictOf knd D (told key val n)→(∀ b o,b∉[D,z,ti,to',i1,i2]→h0.get? b=some o→h'.get? b=some o)→R (.ok (.ret result)) { s with heap:=h',toks:=tk }) →
      codeAny (model prog w) A (.builtin "dict.update.loop" ⟨[.ref D,.ref z,rawInt (c:Int),result],[]⟩) R s:=by
  simp only [List.mem_cons,List.not_mem_nil,or_false,not_or] at hDf n1 n2
  obtain ⟨f1,f2,f3,f4,f5⟩:=hDf
  have mem:∀ b,b∉[D,z,ti,to',i1,i2]→b≠D∧b≠z∧b≠ti∧b≠to'∧b≠i1∧b≠i2:=fun b hb=>by
    simpa only [List.mem_cons,List.not_mem_nil,or_false,not_or] using hb
  have memI:∀ b,b≠D→b≠z→b≠ti→b≠to'→b≠i1→b≠i2→b∉[D,z,ti,to',i1,i2]:=fun b c1 c2 c3 c4 c5 c6=>by
    simp only [List.mem_cons,List.not_mem_nil,or_false,not_or]; exact ⟨c1,c2,c3,c4,c5,c6⟩
  have rows:∀ {h:Heap},(∀ b o,b∉[D,z,ti,to',i1,i2]→h0.get? b=some o→h.get? b=some o)→Az k1 h a1 xs∧Az k2 h a2 ys:=fun k =>
    ⟨r1.to fun o e=>k _ o (memI _ n1.1 n1.2.1 n1.2.2.1 n1.2.2.2.1 n1.2.2.2.2.1 n1.2.2.2.2.2) e,r2.to fun o e=>k _ o (memI _ n2.1 n2.2.1 n2.2.2.1 n2.2.2.2.1 n2.2.2.2.2.1 n2.2.2.2.2.2) e⟩
  intro j
  induction j with
  | zero =>
    intro i c s hj hi Z keep hD hR
    have e:i=n:=by omega
    subst e
    obtain ⟨q1,q2⟩:=rows keep
    refine codeAny_builtin Ax ?_
    rw [Around.under_plainId nj _]
    change wpAny _ A.in1 (pyNext (.ref z) >>= _) _ _ s
    refine wpAny_bind (Yw (A:=A.in1) nh Df Z q1 q2 ⟨n2.2.1,n2.2.2.2.1,n2.2.2.2.2.1,n2.2.2.2.2.2⟩ n1.2.1 ?_ fun h' kp=>?_)
    · rcases Nat.le_total xs.size ys.size with hle | hle
      · exact .inl (Array.getElem?_eq_none (by omega))
      · exact .inr (Array.getElem?_eq_none (by omega))
    show wpAny _ A.in1 (Builtin.Dict.addKeywords D [] >>= fun _=>ret result) _ _ { s with heap:=h' }
    refine wpAny_bind (wpAny_pure (wpAny_pure (hR h' s.toks ?_ fun b o hb e=>?_)))
    · obtain ⟨o,es,ep,ho,rest⟩:=hD
      exact ⟨o,es,ep,kp D _ f1 f3 f4 f5 ho,rest⟩
    · obtain ⟨c1,c2,c3,c4,c5,c6⟩:=mem b hb
      exact kp b o c2 c4 c5 c6 (keep b o hb e)
  | succ j ih =>
    intro i c s hj hi Z keep hD hR
    have hlt:i<n:=by omega
    obtain ⟨q1,q2⟩:=rows keep
    have hx:xs[i]? = some xs[i]:=Array.getElem?_eq_getElem (by omega)
    have hy:ys[i]? = some ys[i]:=Array.getElem?_eq_getElem (by omega)
    refine codeAny_builtin Ax ?_
    rw [Around.under_plainId nj _]
    change wpAny _ A.in1 (pyNext (.ref z) >>= _) _ _ s
    refine wpAny_bind (a0d (A:=A.in1) Df Z q1 q2 ⟨n2.2.1,n2.2.2.2.1,n2.2.2.2.2.1,n2.2.2.2.2.2⟩ n1.2.1 hx hy fun h' Z' hp kp=>?_)
    have hkey:=hk i _ hlt hx
    have hval:=hv i _ hlt hy
    have hD':h'.DictOf knd D (told key val i):=by
      obtain ⟨o,es,ep,ho,rest⟩:=hD
      exact ⟨o,es,ep,kp D _ f1 f3 f4 f5 ho,rest⟩
    have hT:(Shared.mk h' s.gens s.drawn s.toks s.os).TypeIs (.ref s.heap.objs.size) "tuple" := ⟨_,hp,rfl⟩
    dsimp only
    refine wpAny_bind (wpAny_holding (wpAny_bind (wpAny_tryCatch ?_)))
    unfold Builtin.Dict.pairItems
    refine wpAny_bind (wpAny_typeOf (T := "tuple") hT ?_)
    rw [if_pos (by decide)]
    refine wpAny_bind (Ma (s:=Shared.mk h' s.gens s.drawn s.toks s.os) hp rfl ?_)
    refine wpAny_pure ?_
    show wpAny _ A.in1 (holding [xs[i],ys[i]] (dictSet D xs[i] ys[i])) _ _ _
    refine wpAny_holding (wpAny_dictSet_pairs hkey hD' (fun h2 hD2 same=>?_) (Nat.le_trans (Ez key val i) (Nat.le_trans hi hz)))
    rw [hval] at hD2
    refine wpAny_pure ⟨plainId_quiet nj _,?_⟩
    have ec:((c:Int)+1)=((c+1:Nat):Int):=by omega
    rw [ec]
    have e2:∀ b o,b≠D→h'.get? b=some o→h2.get? b=some o:=fun b o hb e=>by rw [same.2 b hb]; exact e
    obtain ⟨t1,t2,hI,st⟩:=Z'
    refine ih (i+1) (c+1) _ (by omega) hlt ⟨t1.to fun o e=>e2 _ o (Ne.symm f4) e,t2.to fun o e=>e2 _ o (Ne.symm f5) e,e2 _ _ (Ne.symm f2) hI,?_⟩ (fun b o hb e=>?_) hD2 fun h3 tk hD3 kp3=>hR h3 tk hD3 kp3
    · rcases st with ⟨zz,ii,a,b,kk⟩ | ⟨a,b,o,hz,ha,na,na1,na2⟩
      · exact .inl ⟨e2 _ _ (Ne.symm f1) zz,e2 _ _ (Ne.symm f2) ii,a,b,e2 _ _ (Ne.symm f3) kk⟩
      · by_cases haD:a=D
        · obtain ⟨o',es,ep,ho',rest⟩:=hD2
          exact .inr ⟨a,b,o',e2 _ _ (Ne.symm f1) hz,by rw [haD]; exact ho',na,na1,na2⟩
        · exact .inr ⟨a,b,o,e2 _ _ (Ne.symm f1) hz,e2 _ _ haD ha,na,na1,na2⟩
    · obtain ⟨c1,c2,c3,c4,c5,c6⟩:=mem b hb
      exact e2 b o c1 (kp b o c2 c4 c5 c6 (keep b o hb e))
end
noncomputable section
variable {prog:Program} {w:World} {A:Around} {E:Value→Shared→Prop} {s:Shared} {k1 k2:Bool} {z ti to' i1 i2 a1 a2:Addr} {xs ys:Array Value} {κ:Type} [DecidableEq κ] {knd:PySem.KeyKind prog w κ}
theorem T8 {key:Nat→κ} {val:Nat→Value} {n:Nat} {Q:Value→Shared→Prop} (nh:A.handled=none) (Df:Far z ti to' i1 i2) (Z:Mj s.heap z ti to' i1 i2 .none) (t1:Fw k1 s.heap i1 a1 0) (t2:Fw k2 s.heap i2 a2 0) (r1:Az k1 s.heap a1 xs) (r2:Az k2 s.heap a2 ys)
    (n1:a1∉[z,ti,to',i1,i2]) (n2:a2∉[z,ti,to',i1,i2]) (hz:n≤sizeLine) (hmin:n=min xs.size ys.size) (hk:∀ i x,i<n→xs[i]? = some x→knd.is (key i) x=true) (hv:∀ i y,i<n→ys[i]? = some y→y=val i)
    (q:∀ h' tk,h'.DictOf knd s.heap.objs.size (told key val n)→(∀ b o,b∉[z,ti,to',i1,i2]→s.heap.get? b=some o→h'.get? b=some o)→Q (.ref s.heap.objs.size) { s with heap:=h',toks:=tk }) :
    wpAny (model prog w) A (call (.type "dict") [.ref z]) Q E s:=by
  refine callType_codes (Q₁:=fun ob z=>ob=.ref s.heap.objs.size∧z = { s with heap:=s.heap.push { cls:=.type "dict",data:=.dict #[] } }) F.kt_called_dict (F.kt_typeCall_dict_1 _) F.entry_dict_init (kt_code_dict_new _ ⟨rfl,rfl⟩) ?_
  rintro obj s₁ ⟨rfl,rfl⟩
  have new0:(s.heap.push { cls:=.type "dict",data:=.dict #[] }).DictOf knd s.heap.objs.size []:=Heap.DictOf.new s.heap
  have up:∀ b o,s.heap.get? b=some o→(s.heap.push { cls:=.type "dict",data:=.dict #[] }).get? b=some o:=fun b o e=>Heap.get?_push_of_some _ e
  have hz1:=up _ _ Z.zip
  refine ⟨new0.typeIs,F.args_dict_init_2 _ _,?_⟩
  unfold Builtin.«dict.__init__» Builtin.Dict.selfAndRest
  refine wpAny_bind (wpAny_bind (wpAny_notOrdered_dict new0.typeIs ?_))
  show wpAny _ _ (pure (s.heap.objs.size,[Value.ref z])) _ _ _
  refine wpAny_pure ?_
  show wpAny _ _ (Builtin.Dict.updateFrom "dict.__init__" s.heap.objs.size (.ref z) [] .none) _ _ _
  unfold Builtin.Dict.updateFrom; refine wpAny_bind (wpAny_typeOf (T := "zip") ⟨_,hz1,rfl⟩ ?_)
  rw [if_pos (by decide)]
  refine wpAny_bind (a4c hz1 nh fun h2 tk e ne=>?_)
  rw [if_pos (show (none:Option Value).isNone=true from rfl)]
  have old2:∀ b o,s.heap.get? b=some o→h2.get? b=some o:=fun b o hb=>ne.keeps b o (up b o hb)
  have hD2:h2.DictOf knd s.heap.objs.size []:=by
    obtain ⟨o,es,ep,ho,rest⟩:=new0
    exact ⟨o,es,ep,ne.keeps _ _ ho,rest⟩
  obtain ⟨zz,its,ka,kb,kk⟩:=Z
  have Z2:Mj h2 z ti to' i1 i2 .none:=⟨old2 _ _ zz,old2 _ _ its,ka,kb,old2 _ _ kk⟩
  refine wpAny_bind (wpAny_rule (wpAny_bind (wpAny_pyIter_zip (s:={ s with heap:=h2,toks:=tk }) Z2.zip ?_)))
  refine wpAny_pure ⟨plainId_quiet nj _,?_⟩
  have lt:∀ b,(∃ o,s.heap.get? b=some o)→s.heap.objs.size≠b:=fun b ⟨o,e⟩=>Nat.ne_of_gt (Heap.lt_size e)
  have nD:s.heap.objs.size∉[z,ti,to',i1,i2]:=by
    simp only [List.mem_cons,List.not_mem_nil,or_false,not_or]
    obtain ⟨o1,g1,_⟩:=t1.obj
    obtain ⟨o2,g2,_⟩:=t2.obj
    exact ⟨lt _ ⟨_,zz⟩,lt _ ⟨_,its⟩,lt _ ⟨_,kk⟩,lt _ ⟨_,g1⟩,lt _ ⟨_,g2⟩⟩
  have nr:∀ {k:Bool} {a:Addr} {xs:Array Value},Az k s.heap a xs→a∉[z,ti,to',i1,i2]→a∉[s.heap.objs.size,z,ti,to',i1,i2]:=fun {k a xs} r h=>by
    have:a≠s.heap.objs.size:=by -- here
      cases k <;> obtain ⟨o,e,_⟩:=r <;> exact Nat.ne_of_lt (Heap.lt_size e)
    simp only [List.mem_cons,not_or] at h ⊢
    exact ⟨this,h⟩
  refine Yl (A:=A.in1) (knd:=knd) (h0:=s.heap) nh Df s.heap.objs.size nD .none key val n hz r1 r2 (nr r1 n1) (nr r2 n2) hmin hk hv (n - 0) 0 0 { s with heap:=h2,toks:=tk } rfl (Nat.zero_le _) ⟨t1.to fun o e=>old2 _ o e,t2.to fun o e=>old2 _ o e,Z2.its,.inl Z2⟩ (fun b o _ e=>old2 b o e) hD2 fun h3 tk3 hD3 kp=>?_
  refine ⟨rfl,q h3 tk3 hD3 fun b o hb e=>kp b o ?_ e⟩
  simp only [List.mem_cons,not_or] at hb ⊢
  exact ⟨Nat.ne_of_lt (Heap.lt_size e),hb⟩
end
noncomputable section
variable {X:Cx} {B:Bas} {a b:Expr} {m1 m2:M T} {p1 p2 p3 p4:Pos}
theorem a5o {K:PySem.W.Frag} {S:Hp} {as:List Addr} {prog:Program} {w:World}:∀ {vs1:List V} {xs:List T} {us1:List Value} {vs2:List V} {ys:List T} {us2:List Value} {l:List (L2.Key × T)},vh K S as vs1 xs→yh vs1 us1→vh K S as vs2 ys→yh vs2 us2→Bw (a6x xs ys)=some l →
    l.length=min us1.length us2.length∧(∀ (i:Nat) x,i<l.length→us1[i]? = some x→(vo prog w).is ((l.map (·.1)).getD i (.inl 0)) x=true)∧yh (vs2.take l.length) (us2.take l.length)∧vh K S as (vs2.take l.length) (l.map (·.2))
  | _,_,_,_,_,_,l,.nil,.nil,_,_,e=>by
    have:l=[]:=by simpa [a6x,Bw] using e.symm
    subst this
    exact ⟨by simp,fun i x h=>by simp at h,.nil,.nil⟩
  | _,_,_,_,_,_,l,.cons _ _,.cons _ _,.nil,.nil,e=>by
    have:l=[]:=by simpa [a6x,Bw] using e.symm
    subst this
    exact ⟨by simp,fun i x h=>by simp at h,.nil,.nil⟩
  | _,_,_,_,_,_,l,.cons h1 q1,.cons b1 c1,.cons h2 q2,.cons b2 c2,e=>by
    obtain ⟨k,v,qk,l',ex,e1,e2,rfl⟩:=Kp (show Bw (_::a6x _ _)=some l from e)
    cases ex
    obtain ⟨a1,a2,a3,a4⟩:=a5o (prog:=prog) (w:=w) q1 c1 q2 c2 e2
    refine ⟨by simp [a1],fun i x hi hx=>?_,.cons b2 a3,.cons h2 a4⟩
    cases i with
    | zero =>
      simp at hx
      subst hx
      have ek:=a2c h1 e1
      subst ek
      exact Xx b1
    | succ j=>simpa using a2 j x (by simpa using hi) (by simpa using hx)
theorem Xm (hc:X.calm=true) (hg:Gl X "dict") (hm:X.mg "dict" = none) (hg2:Gl X "zip") (hm2:X.mg "zip" = none) (ha:PE X a (tOf X.K B m1)) (hb:PE X b (tOf X.K B m2))
    (hs:starEach [a,b] X.env=[(false,eval a X.env),(false,eval b X.env)]:=by rfl) (hs2:starEach [b] X.env=[(false,eval b X.env)]:=by rfl)
    (he:starEach [.Call (.Name "zip" p2) [a,b] [] p3] X.env=(false,eval (.Call (.Name "zip" p2) [a,b] [] p3) X.env)::starEach [] X.env:=by rfl) (hpl:(backTo p4 (starEach [] X.env)).any (·.1)=false:=by rfl) :
    PE X (.Call (.Name "dict" p1) [.Call (.Name "zip" p2) [a,b] [] p3] [] p4) (fOf X.K B (mOp Kf m1 m2)):=by
  intro pins s σ H Q I z8
  obtain ⟨st,ps,S,as,R,t,st',ev,q⟩:=z8
  obtain ⟨t1,s1,t2,e1,e2,e3⟩:=Ox ev
  unfold Kf at e3
  split at e3
  · rename_i xs ys f1 f2
    split at e3
    · rename_i hl
      obtain ⟨l,el,rfl⟩:=Option.map_eq_some_iff.mp e3
      refine wpAny_Call_Name_kw (Nq I hg hm PyProof.Rows.boot_dict ?_ (by decide) (by decide))
      refine PyProof.Rows.callWith_type1 ?_ he hpl
      rw [he]
      show wpAny _ _ (spliced ((false,eval (.Call (.Name "zip" p2) [a,b] [] p3) X.env)::backTo p4 (starEach [] X.env))) _ _ s
      refine Calls.spliced_cons ?_
      have pa:=vp ha (vp hb Bd (by rw [hs2]; rfl)) (by rw [hs,hs2])
      refine Call_ (Nq I hg2 hm2 boot_zip (PyProof.Rows.callWith_type1 (thn (pa p3 pins s σ H (fun vs H2=>∃ k1 k2 a1 a2 vs1 vs2 S2 as2,vs=[.ref a1,.ref a2]∧Rel X.K B st' σ H2 ps S2 as2∧Sq k1 X.K S2 a1 vs1∧Sq k2 X.K S2 a2 vs2∧vh X.K S2 as2 vs1 xs∧vh X.K S2 as2 vs2 ys) I ?_) fun us s2 ⟨vs,H1,I1,r1,q1⟩=>?_) (by rw [hs,hs2]) (by rw [hs2]; rfl)))
      · refine ⟨st,ps,S,as,R,t1,s1,e1,fun v H1 S1 as1 R1=>⟨s1,_,S1,as1,R1,t2,st',e2,fun v2 H2 S2 as2 R2=>?_⟩⟩
        obtain ⟨k1,a1,vs1,rfl,w1,p1,_⟩:=Yg R2.top2 f1
        obtain ⟨k2,a2,vs2,rfl,w2,p2,_⟩:=Yg R2.top f2
        exact ⟨k1,k2,a1,a2,vs1,vs2,S2,as2,rfl,R2.drop.drop,w1,w2,p1,p2⟩
      obtain ⟨k1,k2,a1,a2,vs1,vs2,S2,as2,rfl,R2,w1,w2,g1,g2⟩:=q1
      cases r1 with
      | cons r rr =>
        cases rr with
        | cons r' rr =>
          cases rr
          cases r
          cases r'
          obtain ⟨its1,v1,r1⟩:=(w1.mono R2.sub).row I1
          obtain ⟨its2,v2,r2⟩:=(w2.mono R2.sub).row I1
          obtain ⟨b1,b2,b3,b4⟩:=a5o (prog:=X.prog) (w:=X.w) g1 v1 g2 v2 el
          refine a2p r1 r2 fun h' Z t1' t2' kp=>Calls.spliced_nil ?_
          have Df:Far (s2.heap.objs.size+4) (s2.heap.objs.size+2) (s2.heap.objs.size+3) s2.heap.objs.size (s2.heap.objs.size+1):=a6i s2.heap.objs.size
          have out:∀ b,b<s2.heap.objs.size→b∉[s2.heap.objs.size+4,s2.heap.objs.size+2,s2.heap.objs.size+3,s2.heap.objs.size,s2.heap.objs.size+1]:=fun b hb=>by
            have hb':(b:Nat)<s2.heap.objs.size:=hb
            simp only [List.mem_cons,List.not_mem_nil,or_false,not_or]
            refine ⟨?_,?_,?_,?_,?_⟩ <;> apply Nat.ne_of_lt <;> omega
          have low:∀ {k:Bool} {a:Addr} {zs:Array Value},Az k s2.heap a zs→a<s2.heap.objs.size:=fun {k a zs} r=>by
            cases k <;> obtain ⟨o,e,_⟩:=r <;> exact Heap.lt_size e
          obtain ⟨kv,k5,k6⟩:=Kc l b3 b4 l.length (Nat.le_refl _)
          rw [List.take_length] at k6
          have hsz:s2.heap.objs.size≤h'.objs.size:=Nat.le_of_lt (Nat.lt_of_le_of_lt (Nat.le_add_right _ 4) (Heap.lt_size Z.zip))
          have lz:l.length≤sizeLine:=by
            rw [b1,← v1.length,g1.length]
            exact Nat.le_trans (Nat.min_le_left _ _) (Nat.le_trans (Nat.le_of_lt hl.1) yc)
          refine T8 (s:={ s2 with heap:=h' }) (knd:=vo X.prog X.w) (key:=fun i=>(l.map (·.1)).getD i (.inl 0)) (val:=fun i=>(its2.take l.length).getD i .none) (n:=l.length) (I1.ok.hd hc) Df Z t1' t2' (r1.to fun o e=>kp _ o e) (r2.to fun o e=>kp _ o e) (out _ (low r1)) (out _ (low r2)) lz (by simpa using b1)
            (fun i x hi hx=>b2 i x hi (by simpa using hx)) (fun i y hi hy=>?_) fun h3 tk hD old=>?_
          · have hy':its2[i]? = some y:=by simpa using hy
            rw [List.getD_eq_getElem?_getD,List.getElem?_take,if_pos hi,hy']; rfl
          · have hp:H1 h'.objs.size=none:=I1.hok.fresh hsz
            have kl:kv.length≤sizeLine:=by
              rw [k5.length]
              exact Nat.le_trans (Ez _ _ _) lz
            obtain ⟨z1,z2,z3,z4⟩:=R2.fresh hp
            refine ⟨.ref h'.objs.size,_,I1.laid (a:=h'.objs.size) (o:=.dK kv) (h':=h3) (t':=tk) (fun b o e=>old b o (out b (Heap.lt_size e)) (kp b o e)) hsz (V0 kl (beq_eq_false_iff_ne.mpr (Ne.symm (Nat.ne_of_lt (Nat.lt_of_lt_of_le I1.big hsz)))) k5 hD),rfl,q _ _ _ _ (R2.aa0 z1 z2 z3 z4) ⟨⟨_,jh,k6⟩,z2,z3,z1⟩ z4⟩
    · cases e3
  · cases e3
theorem N6 (hc:X.calm=true) (hg:Gl X "dict") (hm:X.mg "dict" = none) (hg2:Gl X "zip") (hm2:X.mg "zip" = none) (ha:PE X a (tOf X.K B m1)) (hb:PE X b (tOf X.K B m2))
    (hs:starEach [a,b] X.env=[(false,eval a X.env),(false,eval b X.env)]:=by rfl) (hs2:starEach [b] X.env=[(false,eval b X.env)]:=by rfl)
    (he:starEach [.Call (.Name "zip" p2) [a,b] [] p3] X.env=(false,eval (.Call (.Name "zip" p2) [a,b] [] p3) X.env)::starEach [] X.env:=by rfl) (hpl:(backTo p4 (starEach [] X.env)).any (·.1)=false:=by rfl) :
    PE X (.Call (.Name "dict" p1) [.Call (.Name "zip" p2) [a,b] [] p3] [] p4) (tOf X.K B (mOp Kf m1 m2)):=uh (Xm hc hg hm hg2 hm2 ha hb hs hs2 he hpl)
end
end C
end
noncomputable section
set_option linter.all false
set_option maxRecDepth 100000
set_option autoImplicit false
namespace C
open PySem
theorem Rh {α:Type} {h f:α→T} {g:G} {c:M Bool} {e:M T} {nv:Nat} {cap:List Slot} {sto:List SO} (hcap:cap.map kh=cap) :
    ∀ (l:List α) (acc:List T) (pre:List Slot),pre.length=nv→acc.length+l.length≤lim →
      (∀ a∈l,∀ pre:List Slot,pre.length=nv→∃ pre',pre'.length=nv∧g (h a) ⟨pre++cap,sto⟩=some ⟨pre'++cap,sto⟩∧c ⟨pre'++cap,sto⟩=some (true,⟨pre'++cap,sto⟩)∧e ⟨pre'++cap,sto⟩=some (f a,⟨pre'++cap,sto⟩)) →
      ∃ s',Ew g c e (l.map h) ⟨pre++cap,sto⟩ acc=some (acc++l.map f,s')∧s'.sto=sto
  | [],acc,pre,hp,hl,H=>⟨⟨pre++cap,sto⟩,by simp [Ew],rfl⟩
  | a::l,acc,pre,hp,hl,H=>by
    obtain ⟨pre',p1,p2,p3,p4⟩:=H a List.mem_cons_self pre hp
    have hlen:acc.length<lim:=by simp at hl ⊢; omega
    obtain ⟨s',q1,q2⟩:=Rh hcap l (acc++[f a]) (pre'.map kh) (by simpa using p1) (by simp at hl ⊢; omega) fun b hb=>H b (List.mem_cons_of_mem _ hb)
    refine ⟨s',?_,q2⟩
    rw [List.map_cons,Ew,p2]
    dsimp only
    rw [p3]
    dsimp only
    rw [p4]
    dsimp only
    rw [if_pos hlen,ur]
    dsimp only
    rw [List.map_append,hcap,q1]
    simp
theorem yt {α:Type} (h f:α→T) (l:List α) {g:G} {c:M Bool} {e:M T} {nv:Nat} {ci:List Nat} {it:M (List T)} {s s1:Sta} (env:List Slot) (cap:List Slot) (hit:it s=some (l.map h,s1)) (henv:au ci s1.env=env) (hci:ci.map (fun i=>(env[i]?).getD none)=cap) (hcap:cap.map kh=cap) (hl:l.length≤lim)
    (H:∀ a∈l,∀ pre:List Slot,pre.length=nv→∃ pre',pre'.length=nv∧g (h a) ⟨pre++cap,s1.sto⟩=some ⟨pre'++cap,s1.sto⟩∧c ⟨pre'++cap,s1.sto⟩=some (true,⟨pre'++cap,s1.sto⟩)∧e ⟨pre'++cap,s1.sto⟩=some (f a,⟨pre'++cap,s1.sto⟩)) :
    zj nv ci g it c e s=some (.lst (l.map f),⟨env,s1.sto⟩):=by
  obtain ⟨s',q1,q2⟩:=Rh hcap l [] (List.replicate nv none) (by simp) (by simpa using hl) H
  unfold zj
  rw [hit]
  dsimp only
  rw [henv,hci,q1]
  dsimp only
  rw [q2]; rfl
noncomputable def okS (x:Str):Prop:=PyData.canLay0 (.str x)=true
theorem J8 {x:Str} (h:okS x):dat (.str x)=some (.str x):=by
  unfold okS at h
  simp [dat,h]
theorem a6v {a b:Str} (ha:okS a) (hb:okS b):neO (.str a) (.str b)=some (.bl (!(a==b))):=by
  simp [neO,eqT,eqD,J8 ha,J8 hb,PyData.depth,PyData.eqv]
noncomputable def Pl (n:Nat) (t:T):Prop:=∃ d,dat t=some d∧d.depth≤n
theorem a5u (n:Nat) (i:Int):Pl n (.int i):=⟨.int i,by simp [dat],by simp [PyData.depth]⟩
theorem pls {n:Nat}:∀ ts:List T,(∀ t∈ts,Pl n t)→∃ ds,Px ts=some ds∧PyData.depthAll ds≤n
  | [],_=>⟨[],by simp [Px],by simp [PyData.depthAll]⟩
  | t::r,h=>by
    obtain ⟨d,d1,d2⟩:=h t List.mem_cons_self
    obtain ⟨ds,e1,e2⟩:=pls r fun x hx=>h x (List.mem_cons_of_mem _ hx)
    exact ⟨d::ds,by simp [Px,d1,e1],by simp only [PyData.depthAll]; omega⟩
theorem Zf {n:Nat} {ts:List T} (h:∀ t∈ts,Pl n t):Pl (n+1) (.tup ts):=by
  obtain ⟨ds,e1,e2⟩:=pls ts h
  exact ⟨.tuple ds,by simp [dat,e1],by simp only [PyData.depth]; omega⟩
mutual
theorem W3:∀ d:PyData,d.canLay0=true→PyData.eqv d d=true
  | .none,_=>by simp [PyData.eqv]
  | .bool b,_=>by simp [PyData.eqv] -- here
  | .int i,_=>by simp [PyData.eqv] -- here
  | .str x,_=>by simp [PyData.eqv] -- here
  | .list xs,h=>by simp only [PyData.eqv]; exact Ky xs (by simpa [PyData.canLay0] using h)
  | .tuple xs,h=>by simp only [PyData.eqv]; exact Ky xs (by simpa [PyData.canLay0] using h)
  | .dict _,h=>by simp [PyData.canLay0] at h
theorem Ky:∀ xs:List PyData,PyData.canLayAll0 xs=true→PyData.eqvAll xs xs=true
  | [],_=>by simp [PyData.eqvAll]
  | x::xs,h=>by
    simp only [PyData.canLayAll0,Bool.and_eq_true] at h
    simp only [PyData.eqvAll,W3 x h.1,Ky xs h.2,Bool.and_self]
end
end C
namespace C
open PySem
theorem a0k {g:G} {b:S} (P:List T→Sta→Prop) (H:∀ t r s,P (t::r) s→∃ s1 s2,g t s=some s1∧b s1=some (.next,s2)∧P r s2):∀ (ts:List T) (s:Sta),P ts s→∃ s',Fo g b ts s=some (.next,s')∧P [] s'
  | [],s,h=>⟨s,by simp [Fo],h⟩
  | t::r,s,h=>by
    obtain ⟨s1,s2,h1,h2,h3⟩:=H t r s h
    obtain ⟨s',e,p⟩:=a0k P H r s2 h3
    refine ⟨s',?_,p⟩
    rw [Fo]; dsimp only; rw [h1]; dsimp only; rw [h2]; dsimp only; exact e
theorem Ds {g:G} {b:S} {ts:List T} {s:Sta} {r:Option (Flow × Sta)} (hF:Fo g b ts s=r) (P:List T→Sta→Prop) (hP:P ts s) (H:∀ t r s,P (t::r) s→∃ s1 s2,g t s=some s1∧b s1=some (.next,s2)∧P r s2):∃ s',r=some (.next,s')∧P [] s':=by
  obtain ⟨s',e,p⟩:=a0k P H ts s hP
  exact ⟨s',hF.symm.trans e,p⟩
end C
namespace C
open PySem
theorem Ut {α:Type} {g:G} {c:M Bool} {e:M T} {nv:Nat} {ci:List Nat} {it:M (List T)} {s:Sta} {r:Option (T × Sta)} (hF:zj nv ci g it c e s=r) (h f:α→T) (l:List α) (s1:Sta) (env cap:List Slot) (hit:it s=some (l.map h,s1)) (henv:au ci s1.env=env) (hci:ci.map (fun i=>(env[i]?).getD none)=cap) (hcap:cap.map kh=cap) (hl:l.length≤lim)
    (H:∀ a∈l,∀ pre:List Slot,pre.length=nv→∃ pre',pre'.length=nv∧g (h a) ⟨pre++cap,s1.sto⟩=some ⟨pre'++cap,s1.sto⟩∧c ⟨pre'++cap,s1.sto⟩=some (true,⟨pre'++cap,s1.sto⟩)∧e ⟨pre'++cap,s1.sto⟩=some (f a,⟨pre'++cap,s1.sto⟩)) :
    r=some (.lst (l.map f),⟨env,s1.sto⟩):=hF.symm.trans (yt h f l env cap hit henv hci hcap hl H)
theorem a0c {α:Type} (h:α→T) (l:List α) {i:Int} (h0:0≤i) (h1:i<l.length):∃ a∈l,iz (.lst (l.map h)) (.int i)=some (h a):=by
  have hi:i.toNat<l.length:=by omega
  refine ⟨l[i.toNat],List.getElem_mem hi,?_⟩
  simp [iz,ixI,h0,h1,List.getElem?_eq_getElem hi]
theorem O8 {α:Type} (h:α→T) (l:List α) {k:Nat} (hk:k<l.length):iz (.lst (l.map h)) (.int (k:Int))=some (h l[k]):=by
  have h1:(k:Int)<(l.length:Int):=by omega
  simp [iz,ixI,h1,List.getElem?_eq_getElem hk]
end C
end
noncomputable section
set_option linter.all false
set_option maxRecDepth 100000
set_option autoImplicit false
namespace C
open PySem
theorem Fq {α:Type} {h f:α→T} {q:α→Bool} {g:G} {c:M Bool} {e:M T} {nv:Nat} {cap:List Slot} {sto:List SO} (hcap:cap.map kh=cap) :
    ∀ (l:List α) (acc:List T) (pre:List Slot),pre.length=nv→acc.length+l.length≤lim →
      (∀ a∈l,∀ pre:List Slot,pre.length=nv→∃ pre',pre'.length=nv∧g (h a) ⟨pre++cap,sto⟩=some ⟨pre'++cap,sto⟩∧c ⟨pre'++cap,sto⟩=some (q a,⟨pre'++cap,sto⟩)∧(q a=true→e ⟨pre'++cap,sto⟩=some (f a,⟨pre'++cap,sto⟩))) →
      ∃ s',Ew g c e (l.map h) ⟨pre++cap,sto⟩ acc=some (acc++(l.filter q).map f,s')∧s'.sto=sto
  | [],acc,pre,hp,hl,H=>⟨⟨pre++cap,sto⟩,by simp [Ew],rfl⟩
  | a::l,acc,pre,hp,hl,H=>by
    obtain ⟨pre',p1,p2,p3,p4⟩:=H a List.mem_cons_self pre hp
    have hlen:acc.length<lim:=by simp at hl ⊢; omega
    rw [List.map_cons,Ew,p2]
    dsimp only
    rw [p3]
    cases hq:q a with
    | true =>
      obtain ⟨s',q1,q2⟩:=Fq hcap l (acc++[f a]) (pre'.map kh) (by simpa using p1) (by simp at hl ⊢; omega) fun b hb=>H b (List.mem_cons_of_mem _ hb)
      refine ⟨s',?_,q2⟩
      dsimp only
      rw [p4 hq]
      dsimp only
      rw [if_pos hlen,ur]
      dsimp only
      rw [List.map_append,hcap,q1]
      simp [hq]
    | false =>
      obtain ⟨s',q1,q2⟩:=Fq hcap l acc (pre'.map kh) (by simpa using p1) (by simp at hl ⊢; omega) fun b hb=>H b (List.mem_cons_of_mem _ hb)
      refine ⟨s',?_,q2⟩
      dsimp only
      rw [ur]
      dsimp only
      rw [List.map_append,hcap,q1]
      simp [hq]
theorem Ze {α:Type} {g:G} {c:M Bool} {e:M T} {nv:Nat} {ci:List Nat} {it:M (List T)} {s:Sta} {r:Option (T × Sta)} (hF:zj nv ci g it c e s=r) (h f:α→T) (q:α→Bool) (l:List α) (s1:Sta) (env cap:List Slot) (hit:it s=some (l.map h,s1)) (henv:au ci s1.env=env) (hci:ci.map (fun i=>(env[i]?).getD none)=cap) (hcap:cap.map kh=cap) (hl:l.length≤lim)
    (H:∀ a∈l,∀ pre:List Slot,pre.length=nv→∃ pre',pre'.length=nv∧g (h a) ⟨pre++cap,s1.sto⟩=some ⟨pre'++cap,s1.sto⟩∧c ⟨pre'++cap,s1.sto⟩=some (q a,⟨pre'++cap,s1.sto⟩)∧(q a=true→e ⟨pre'++cap,s1.sto⟩=some (f a,⟨pre'++cap,s1.sto⟩))) :
    r=some (.lst ((l.filter q).map f),⟨env,s1.sto⟩):=by
  obtain ⟨s',q1,q2⟩:=Fq hcap l [] (List.replicate nv none) (by simp) (by simpa using hl) H
  rw [← hF]
  unfold zj
  rw [hit]
  dsimp only
  rw [henv,hci,q1]
  dsimp only
  rw [q2]; rfl
theorem a2d {n:Nat} {t:T} (h:Pl n t) (hn:n≤40):eqD t t=some true:=by
  obtain ⟨d,e1,e2⟩:=h
  have:d.depth≤40:=Nat.le_trans e2 hn
  simp [eqD,e1,this,W3 d (Fd _ e1)]
theorem a2t {n:Nat} {t:T} (h:Pl n t) (hn:n≤40):eqT t t=some true:=by
  cases t with
  | dic k=>obtain ⟨d,e1,_⟩:=h; simp [dat] at e1
  | _=>exact a2d h hn
theorem a4u {n:Nat} {t:T} (h:Pl n t) (hn:n≤40):neO t t=some (.bl false):=by simp [neO,a2t h hn]
theorem qy {a b:Int}:eqO (.int a) (.int b)=some (.bl (a==b)):=by simp [eqO,eqT,eqD,dat,PyData.depth,PyData.eqv]
theorem a1b {a b:Int}:neO (.int a) (.int b)=some (.bl (!(a==b))):=by simp [neO,eqT,eqD,dat,PyData.depth,PyData.eqv]
theorem Yi {a b:Str} (ha:okS a) (hb:okS b):eqO (.str a) (.str b)=some (.bl (a==b)):=by
  simp [eqO,eqT,eqD,J8 ha,J8 hb,PyData.depth,PyData.eqv]
theorem Je {xs:List T} {k:Nat} {t:T} (h:xs[k]? = some t):iz (.tup xs) (.int (k:Int))=some t:=by
  have hk:k<xs.length:=(List.getElem?_eq_some_iff.mp h).1
  have h1:(k:Int)<(xs.length:Int):=by omega
  simp [iz,ixI,h1,h]
theorem zc {a:T} {r:List T}:iz (.tup (a::r)) (.int 0)=some a:=Je (k:=0) rfl
theorem Bp {a b:T} {r:List T}:iz (.tup (a::b::r)) (.int 1)=some b:=Je (k:=1) rfl
theorem J2 {a b c:T} {r:List T}:iz (.tup (a::b::c::r)) (.int 2)=some c:=Je (k:=2) rfl
theorem Vk {a b c d:T} {r:List T}:iz (.tup (a::b::c::d::r)) (.int 3)=some d:=Je (k:=3) rfl
theorem Ja {α β:Type} {f g:α→List β}:∀ {l:List α},(∀ a∈l,f a=g a)→l.flatMap f=l.flatMap g
  | [],_=>rfl
  | a::l,h=>by rw [List.flatMap_cons,List.flatMap_cons,h a List.mem_cons_self,Ja fun b hb=>h b (List.mem_cons_of_mem _ hb)]
theorem Mt {i j:Nat} {x y:T} {s:Sta}:jw [i,j] (.tup [x,y]) s=some (bw j y false (bw i x false s)):=by simp [jw]
theorem Vx {a b c:S} {s s':Sta} (h:jc a b s=some (.next,s')):jc a (jc b c) s=c s':=by
  unfold jc at h ⊢
  cases ha:a s with
  | none=>rw [ha] at h; cases h
  | some p =>
    obtain ⟨fl,s1⟩:=p
    rw [ha] at h
    cases fl with
    | next=>dsimp only at h ⊢; rw [h]
    | _=>cases h
theorem nq {a b:S} {s s':Sta} (h:a s=some (.next,s')):jc a b s=b s':=by unfold jc; rw [h]
noncomputable def Out (r:Option (T × List SO)) (P:T→List SO→Prop):Prop:=∃ t s,r=some (t,s)∧P t s
theorem Out.of {t:T} {s:List SO} {P:T→List SO→Prop} (h:P t s):Out (some (t,s)) P:=⟨t,s,rfl,h⟩
theorem Xb {n:Nat} {c:M Bool} {b:S} {s s1 s2:Sta} (hc:c s=some (true,s1)) (hb:b s1=some (.next,s2)):Dd (n+1) c b s=Dd n c b s2:=by
  rw [Dd]; dsimp only; rw [hc]; dsimp only; rw [hb]
theorem X7 {n:Nat} {c:M Bool} {b:S} {s s1:Sta} (hc:c s=some (false,s1)):Dd (n+1) c b s=some (.next,s1):=by
  rw [Dd]; dsimp only; rw [hc]
end C
end
noncomputable section
set_option linter.all false
namespace K
open C PySem
noncomputable def Cy:Fn:=iu 2
  (jj (mOp jr (mOp iz (cj 0) (aq (.int 0))) (jg a6f (ak (zj 2 [1] (jw [0,1]) (jm (mOp iz (cj 0) (aq (.int 1)))) iw (mOp Mh (cj 1) (mOp iz (cj 2) (cj 0)))) iy))))
noncomputable def yu:Fn:=iu 1
  (jj (zj 2 [] (jw [0,1]) (jm (mOp iz (cj 0) (aq (.int 1)))) iw (cj 0)))
mutual
noncomputable def v8:Nat→Fn
  | 0=>fun _ _=>none
  | n+1=>iu 4
      (jc (jk 3 (mOp iz (cj 0) (aq (.int 0))))
      (jc (sIf (gj (mOp eqO (cj 3) (aq (.str "most"))))
      (jj (mOp leT (dw Cy (ak (mOp iz (cj 0) (aq (.int 1))) (ak (cj 1) iy))) (aq (.int 0))))
      jo)
      (jc (sIf (gj (mOp eqO (cj 3) (aq (.str "rest"))))
      (jj (mOp eqO (mOp kj (dw Cy (ak (mOp iz (cj 0) (aq (.int 1))) (ak (cj 1) iy))) (mOp iz (cj 0) (aq (.int 2)))) (aq (.int 0))))
      jo)
      (jc (sIf (gj (mOp eqO (cj 3) (aq (.str "at"))))
      (jj (mOp eqO (mOp iz (cj 2) (mOp iz (cj 0) (aq (.int 1)))) (mOp iz (cj 0) (aq (.int 2)))))
      jo)
      (jc (sIf (gj (mOp eqO (cj 3) (aq (.str "not"))))
      (jj (j7 (m7 (gj (dw (v8 n) (ak (mOp iz (cj 0) (aq (.int 1))) (ak (cj 1) (ak (cj 2) iy))))))))
      jo)
      (jc (sIf (gj (mOp eqO (cj 3) (aq (.str "and"))))
      (jj (j7 (m7 (gj (dw (Dl n) (ak (aq (.bl false)) (ak (mOp iz (cj 0) (aq (.int 1))) (ak (cj 1) (ak (cj 2) iy)))))))))
      jo)
      (jj (dw (Dl n) (ak (aq (.bl true)) (ak (mOp iz (cj 0) (aq (.int 1))) (ak (cj 1) (ak (cj 2) iy))))))))))))
noncomputable def Dl:Nat→Fn
  | 0=>fun _ _=>none
  | n+1=>iu 5
      (jc (jt (gq 4) (jm (cj 1))
      (sIf (gj (mOp eqO (dw (v8 n) (ak (cj 4) (ak (cj 2) (ak (cj 3) iy)))) (cj 0)))
      (jj (aq (.bl true)))
      jo))
      (jj (aq (.bl false))))
end
noncomputable def yx:Fn:=iu 1
  (jc (sIf (gj (mOp eqO (mOp iz (cj 0) (aq (.int 0))) (aq (.str "not"))))
  (jj (jg (fun l=>some (.tup l)) (ak (mOp iz (cj 0) (aq (.int 1))) iy)))
  jo)
  (jj (mIf (gj (mOp inT (mOp iz (cj 0) (aq (.int 0))) (jg (fun l=>some (.tup l)) (ak (aq (.str "and")) (ak (aq (.str "or")) iy))))) (mOp iz (cj 0) (aq (.int 1))) (jg (fun l=>some (.tup l)) iy))))
noncomputable def zy:Fn:=iu 4
  (jc (lg 1 (jg (fun l=>some (.lst l)) iy))
  (jc (lg 2 (jg (fun l=>some (.lst l)) (ak (cj 0) iy)))
  (jc (Dd 1000 (gj (mOp gtT (Gz 2) (aq (.int 0))))
  (jc (a80 2 3)
  (jc (cg 1 (cj 3))
  (cu 2 (mUn a7k (dw yx (ak (cj 3) iy)))))))
  (jj (cj 1)))))
noncomputable def rm:Fn:=iu 3
  (jc (lg 1 (jg (fun l=>some (.lst l)) iy))
  (jc (jt (gq 2) (jm (dw zy (ak (cj 0) iy)))
  (sIf (gj (mOp inT (mOp iz (cj 2) (aq (.int 0))) (jg (fun l=>some (.tup l)) (ak (aq (.str "most")) (ak (aq (.str "rest")) iy)))))
  (cu 1 (dw yu (ak (mOp iz (cj 2) (aq (.int 1))) iy)))
  jo))
  (jj (cj 1))))
noncomputable def qp:Fn:=iu 1
  (jj (zj 1 [] (gq 0) (jm (dw zy (ak (cj 0) iy))) (gj (mOp eqO (mOp iz (cj 0) (aq (.int 0))) (aq (.str "at")))) (cj 0)))
noncomputable def Cr:Fn:=iu 1
  (jj (jg Ck (ak (dw rm (ak (cj 0) iy)) iy)))
noncomputable def Cj:Fn:=iu 1
  (jj (jg Ck (ak (zj 1 [] (gq 0) (jm (dw qp (ak (cj 0) iy))) iw (mOp iz (cj 0) (aq (.int 1)))) iy)))
noncomputable def Fp:Fn:=iu 2
  (jj (jg a7f (ak (zj 1 [1] (gq 0) (jm (cj 0)) iw (mOp inT (cj 0) (cj 1))) iy)))
noncomputable def qu:Fn:=iu 1
  (jj (mOp jr (jg (fun l=>some (.lst l)) (ak (jg (fun l=>some (.tup l)) (ak (aq (.str "hand")) (ak (mOp iz (cj 0) (aq (.int 0))) iy))) iy)) (zj 2 [] (jw [0,1]) (jm (mOp iz (cj 0) (aq (.int 3)))) iw (jg (fun l=>some (.tup l)) (ak (aq (.str "box")) (ak (cj 0) iy))))))
noncomputable def Bq:Fn:=iu 5
  (jc (jk 1 (dw Cj (ak (mOp iz (cj 0) (aq (.int 2))) iy)))
  (jc (lg 2 (dw Cr (ak (mOp iz (cj 0) (aq (.int 2))) iy)))
  (jc (jt (jw [3,4]) (jm (mOp iz (cj 0) (aq (.int 3))))
  (cu 2 (dw yu (ak (cj 4) iy))))
  (jj (mOp jr (mOp jr (dw qu (ak (cj 0) iy)) (zj 1 [] (gq 0) (jm (cj 1)) iw (jg (fun l=>some (.tup l)) (ak (aq (.str "hand")) (ak (cj 0) iy))))) (zj 1 [] (gq 0) (jm (cj 2)) iw (jg (fun l=>some (.tup l)) (ak (aq (.str "box")) (ak (cj 0) iy)))))))))
noncomputable def Fb:Fn:=iu 5
  (jc (jk 3 (mOp iz (mOp iz (cj 0) (aq (.int 2))) (cj 1)))
  (jc (jk 4 (mOp iz (mOp iz (cj 0) (aq (.int 2))) (cj 2)))
  (jj (j7 (m7 (gj (j7 (mOr (gj (dw Fp (ak (dw qu (ak (cj 3) iy)) (ak (dw Bq (ak (cj 4) iy)) iy)))) (gj (dw Fp (ak (dw qu (ak (cj 4) iy)) (ak (dw Bq (ak (cj 3) iy)) iy))))))))))))
noncomputable def Ay:Fn:=iu 1
  (jj (jg (fun l=>some (.tup l)) (ak (jg Aj (ak (zj 1 [] (gq 0) (jm (mOp iz (cj 0) (aq (.int 1)))) iw (aq (.int 0))) iy)) (ak (jg Aj (ak (zj 1 [] (gq 0) (jm (mOp iz (cj 0) (aq (.int 0)))) iw (mOp iz (cj 0) (aq (.int 4)))) iy)) iy))))
noncomputable def Bc:Fn:=iu 2
  (jj (mOp Kf (zj 1 [] (gq 0) (jm (mOp iz (cj 0) (aq (.int 0)))) iw (mOp iz (cj 0) (aq (.int 0)))) (mOp iz (cj 1) (aq (.int 1)))))
noncomputable def yp:Fn:=iu 2
  (jj (mOp Kf (zj 1 [] (gq 0) (jm (mOp iz (cj 0) (aq (.int 1)))) iw (mOp iz (cj 0) (aq (.int 0)))) (mOp iz (cj 1) (aq (.int 0)))))
noncomputable def n6:Fn:=iu 11
  (jc (jk 3 (jg Mp (ak (mOp iz (cj 2) (aq (.int 3))) iy)))
  (jc (lg 4 (jg (fun l=>some (.lst l)) iy))
  (jc (jt (jw [5,6,7,8,9]) (jm (mOp iz (cj 0) (aq (.int 0))))
  (jc (jk 10 (mIf (gj (mOp inT (cj 5) (cj 3))) (dw Cy (ak (mOp iz (cj 3) (cj 5)) (ak (cj 1) iy))) (mOp iz (cj 1) (cj 5))))
  (jc (sIf (m8 (gj (mOp inT (cj 5) (cj 3))) (mOr (gj (mOp ltT (cj 10) (cj 7))) (gj (mOp gtT (cj 10) (cj 8)))))
  (jj (aq .non))
  jo)
  (cg 4 (cj 10)))))
  (jj (jg Aj (ak (cj 4) iy))))))
noncomputable def mz:Fn:=iu 2
  (jj (jg Aj (ak (zj 2 [1] (jw [0,1]) (Pz (cj 0)) iw (mIf (gj (mOp eqO (cj 0) (mOp iz (cj 2) (aq (.int 0))))) (mOp iz (cj 2) (aq (.int 4))) (cj 1))) iy)))
noncomputable def Fx:Fn:=iu 8
  (jc (jk 2 (dw Bc (ak (cj 0) (ak (cj 1) iy))))
  (jc (jk 3 (dw yp (ak (cj 0) (ak (cj 1) iy))))
  (jc (lg 4 (jg (fun l=>some (.lst l)) iy))
  (jc (jt (jw [5,6]) (Qi (mOp iz (cj 0) (aq (.int 2))))
  (sIf (m8 (gj (mOp eqO (mOp iz (cj 3) (mOp iz (cj 6) (aq (.int 0)))) (mOp iz (cj 6) (aq (.int 1))))) (gj (dw (v8 40) (ak (mOp iz (cj 6) (aq (.int 2))) (ak (cj 2) (ak (cj 3) iy))))))
  (jc (jk 7 (dw n6 (ak (cj 0) (ak (cj 2) (ak (cj 6) iy)))))
  (sIf (gj (mOp Nj (cj 7) (aq .non)))
  (cg 4 (jg (fun l=>some (.tup l)) (ak (cj 5) (ak (jg (fun l=>some (.tup l)) (ak (dw mz (ak (cj 3) (ak (cj 6) iy))) (ak (cj 7) iy))) iy))))
  jo))
  jo))
  (jj (cj 4))))))
noncomputable def Mv:Fn:=iu 2
  (jj (zj 2 [] (jw [0,1]) (jm (dw Fx (ak (cj 0) (ak (cj 1) iy)))) iw (cj 0)))
noncomputable def Gq:Fn:=iu 5
  (jc (jk 3 (mOp iz (mOp iz (cj 0) (aq (.int 2))) (cj 2)))
  (jc (jk 4 (dw n6 (ak (cj 0) (ak (dw Bc (ak (cj 0) (ak (cj 1) iy))) (ak (cj 3) iy)))))
  (jj (jg (fun l=>some (.tup l)) (ak (dw mz (ak (dw yp (ak (cj 0) (ak (cj 1) iy))) (ak (cj 3) iy))) (ak (cj 4) iy))))))
noncomputable def qg:Fn:=iu 2
  (jc (sIf (gj (mOp ltT (cj 1) (jg lq (ak (cj 0) iy))))
  (jj (mOp iz (cj 0) (cj 1)))
  jo)
  (jj (aq (.int 0))))
noncomputable def fu:Fn:=iu 3
  (jc (sIf (gj (mOp eqO (G4 (cj 0)) (aq (.int 2))))
  (Lz 0 (Di (cj 0) (aq (.int 0))))
  jo)
  (jc (sIf (m8 (gj (mOp eqO (Di (cj 0) (aq (.int 1))) (aq (.int 0)))) (gj (mOp inT (Di (cj 0) (aq (.int 0))) (jg (fun l=>some (.lst l)) (ak (aq (.int 0)) (ak (mUn mj (aq (.int 1))) iy))))))
  (jc (Gj (cj 0) (aq (.int 0)) (mOp jr (Di (cj 0) (aq (.int 2))) (aq (.int 1013))))
  (Gj (cj 0) (aq (.int 1)) (aq (.int 1))))
  jo)
  (jc (sIf (gj (mOp eqO (Di (cj 0) (aq (.int 1))) (aq (.int 0))))
  (jc (jk 2 (mOp kj (Di (cj 0) (aq (.int 0))) (cj 1)))
  (jc (Gj (cj 0) (aq (.int 0)) (mOp j6 (Di (cj 0) (aq (.int 0))) (cj 1)))
  (jj (cj 2))))
  jo)
  (jc (Gj (cj 0) (aq (.int 0)) (mOp kj (mOp jr (mOp Mh (mOp kj (Di (cj 0) (aq (.int 0))) (aq (.int 2147483647))) (aq (.int 48271))) (aq (.int 1013))) (aq (.int 2147483629))))
  (jj (mOp kj (mOp j6 (mOp kj (mOp Mh (Di (cj 0) (aq (.int 0))) (aq (.int 69621))) (aq (.int 2147483587))) (aq (.int 11))) (cj 1)))))))
noncomputable def vq:Fn:=iu 4
  (jc (sIf (gj (mOp eqO (mOp kj (mOp j6 (cj 0) (aq (.int 640))) (aq (.int 4))) (aq (.int 1))))
  (jj (mOp iz (jg (fun l=>some (.lst l)) (j8 ["b","ab","abc","abcd","a","ba","aab","b1","bab","ab1"])) (mOp kj (cj 1) (aq (.int 10)))))
  jo)
  (jc (jk 2 (mOp jr (aq (.int 1)) (mOp kj (cj 0) (aq (.int 8)))))
  (jc (jk 3 (mOp kj (mOp j6 (cj 0) (aq (.int 8))) (cj 2)))
  (jj (mOp jr (mOp jr (mOp Mh (aq (.str "q")) (cj 3)) (mOp iz (aq (.str "abcdefghij")) (mOp kj (mOp jr (mOp Mh (aq (.int 3)) (cj 1)) (mOp j6 (cj 0) (aq (.int 64)))) (aq (.int 10))))) (mOp Mh (aq (.str "q")) (mOp ju (mOp ju (cj 2) (aq (.int 1))) (cj 3))))))))
noncomputable def Bf:Fn:=iu 6
  (jc (jk 2 (mOp ju (dw fu (ak (cj 0) (ak (aq (.int 5)) iy))) (aq (.int 2))))
  (jc (sIf (gj (mOp eqO (dw fu (ak (cj 0) (ak (aq (.int 9)) iy))) (aq (.int 8))))
  (jk 2 (mOp ju (dw fu (ak (cj 0) (ak (mOp ju (mOp Mh (aq (.int 2)) (mOp Vn (aq (.int 10)) (aq (.int 9)))) (aq (.int 1))) iy))) (mOp ju (mOp Vn (aq (.int 10)) (aq (.int 9))) (aq (.int 1)))))
  jo)
  (jc (lg 3 (jg (fun l=>some (.lst l)) iy))
  (jc (jt (gq 4) (jm (jg Em (ak (cj 1) iy)))
  (jc (jk 5 (mOp iz (jg (fun l=>some (.lst l)) (ak (aq (.int 0)) (ak (aq (.int 0)) (ak (aq (.int 1)) (ak (aq (.int 1)) (ak (mUn mj (aq (.int 1))) (ak (aq (.int 2)) (ak (mOp ju (dw fu (ak (cj 0) (ak (aq (.int 7)) iy))) (aq (.int 3))) iy)))))))) (dw fu (ak (cj 0) (ak (aq (.int 7)) iy)))))
  (sIf (gj (mOp neO (cj 5) (aq (.int 0))))
  (cg 3 (jg (fun l=>some (.tup l)) (ak (cj 4) (ak (cj 5) iy))))
  jo)))
  (jj (jg (fun l=>some (.tup l)) (ak (cj 2) (ak (jg Aj (ak (cj 3) iy)) iy))))))))
noncomputable def su:Fn:=iu 7
  (jc (jk 3 (dw fu (ak (cj 0) (ak (aq (.int 4)) iy))))
  (jc (sIf (gj (mOp eqO (cj 3) (aq (.int 0))))
  (jc (sGo (jw [4,5]) (mOp iz (cj 2) (dw fu (ak (cj 0) (ak (jg lq (ak (cj 2) iy)) iy)))))
  (jj (jg (fun l=>some (.tup l)) (ak (aq (.str "at")) (ak (cj 4) (ak (dw fu (ak (cj 0) (ak (cj 5) iy))) iy))))))
  jo)
  (jc (jk 6 (dw Bf (ak (cj 0) (ak (cj 1) iy))))
  (jc (sIf (gj (mOp eqO (cj 3) (aq (.int 1))))
  (jj (jg (fun l=>some (.tup l)) (ak (aq (.str "rest")) (ak (cj 6) (ak (mOp jr (aq (.int 2)) (dw fu (ak (cj 0) (ak (aq (.int 11)) iy)))) iy)))))
  jo)
  (jj (jg (fun l=>some (.tup l)) (ak (aq (.str "most")) (ak (cj 6) iy))))))))
noncomputable def Ao:Fn:=iu 7
  (jc (jk 3 (dw fu (ak (cj 0) (ak (aq (.int 11)) iy))))
  (jc (sIf (gj (mOp ltT (cj 3) (aq (.int 2))))
  (jj (jg (fun l=>some (.tup l)) (ak (aq (.str "and")) (ak (jg (fun l=>some (.tup l)) iy) iy))))
  jo)
  (jc (jk 4 (dw su (ak (cj 0) (ak (cj 1) (ak (cj 2) iy)))))
  (jc (sIf (gj (mOp ltT (cj 3) (aq (.int 5))))
  (jj (cj 4))
  jo)
  (jc (sIf (gj (mOp eqO (cj 3) (aq (.int 5))))
  (jj (jg (fun l=>some (.tup l)) (ak (aq (.str "not")) (ak (cj 4) iy))))
  jo)
  (jc (jk 5 (jg (fun l=>some (.tup l)) (ak (mOp iz (jg (fun l=>some (.lst l)) (ak (aq (.str "and")) (ak (aq (.str "or")) iy))) (mOp kj (cj 3) (aq (.int 2)))) (ak (jg (fun l=>some (.tup l)) (ak (cj 4) (ak (dw su (ak (cj 0) (ak (cj 1) (ak (cj 2) iy)))) iy))) iy))))
  (jc (sIf (gj (mOp ltT (cj 3) (aq (.int 8))))
  (jj (cj 5))
  jo)
  (jc (sIf (gj (mOp eqO (cj 3) (aq (.int 8))))
  (jj (jg (fun l=>some (.tup l)) (ak (aq (.str "not")) (ak (jg (fun l=>some (.tup l)) (ak (mOp iz (jg (fun l=>some (.lst l)) (ak (aq (.str "and")) (ak (aq (.str "or")) iy))) (dw fu (ak (cj 0) (ak (aq (.int 2)) iy)))) (ak (mOp iz (cj 5) (aq (.int 1))) iy))) iy))))
  jo)
  (jc (sIf (gj (mOp eqO (cj 3) (aq (.int 9))))
  (jj (jg (fun l=>some (.tup l)) (ak (mOp iz (jg (fun l=>some (.lst l)) (ak (aq (.str "and")) (ak (aq (.str "or")) iy))) (dw fu (ak (cj 0) (ak (aq (.int 2)) iy)))) (ak (jg (fun l=>some (.tup l)) (ak (jg (fun l=>some (.tup l)) (ak (aq (.str "not")) (ak (cj 5) iy))) (ak (dw su (ak (cj 0) (ak (cj 1) (ak (cj 2) iy)))) iy))) iy))))
  jo)
  (jc (jk 6 (jg Aj (ak (zj 1 [0,1,2] (gq 0) (fj (mOp jr (aq (.int 1)) (dw fu (ak (cj 0) (ak (aq (.int 3)) iy))))) iw (dw su (ak (cj 1) (ak (cj 2) (ak (cj 3) iy))))) iy)))
  (jj (jg (fun l=>some (.tup l)) (ak (mOp iz (jg (fun l=>some (.lst l)) (ak (aq (.str "and")) (ak (aq (.str "or")) iy))) (dw fu (ak (cj 0) (ak (aq (.int 2)) iy)))) (ak (mOp jr (mOp iz (cj 5) (aq (.int 1))) (cj 6)) iy))))))))))))))
noncomputable def Bj:Fn:=iu 7
  (jc (lg 3 (jg (fun l=>some (.lst l)) iy))
  (jc (jt (gq 4) (fj (cj 2))
  (jc (jk 5 (mOp ju (dw fu (ak (cj 0) (ak (aq (.int 4)) iy))) (aq (.int 2))))
  (jc (sIf (gj (mOp eqO (dw fu (ak (cj 0) (ak (aq (.int 9)) iy))) (aq (.int 8))))
  (jk 5 (mOp ju (dw fu (ak (cj 0) (ak (mOp ju (mOp Mh (aq (.int 2)) (mOp Vn (aq (.int 10)) (aq (.int 30)))) (aq (.int 9))) iy))) (mOp Vn (aq (.int 10)) (aq (.int 30)))))
  jo)
  (jc (jk 6 (mOp jr (cj 5) (dw fu (ak (cj 0) (ak (aq (.int 3)) iy)))))
  (cg 3 (jg (fun l=>some (.tup l)) (ak (dw vq (ak (cj 1) (ak (cj 4) iy))) (ak (aq (.str "")) (ak (cj 5) (ak (cj 6) (ak (mOp jr (cj 5) (dw fu (ak (cj 0) (ak (mOp jr (mOp ju (cj 6) (cj 5)) (aq (.int 1))) iy)))) iy)))))))))))
  (jj (cj 3))))
noncomputable def Bo:Fn:=iu 11
  (jc (sGo (jw [3,4]) (mOp iz (cj 2) (dw fu (ak (cj 0) (ak (jg lq (ak (cj 2) iy)) iy)))))
  (jc (jk 5 (dw fu (ak (cj 0) (ak (cj 4) iy))))
  (jc (jk 6 (dw fu (ak (cj 0) (ak (cj 4) iy))))
  (jc (jk 7 (dw Ao (ak (cj 0) (ak (cj 1) (ak (cj 2) iy)))))
  (jc (lg 8 (jg (fun l=>some (.lst l)) iy))
  (jc (jt (gq 9) (jm (jg Em (ak (cj 1) iy)))
  (jc (jk 10 (dw fu (ak (cj 0) (ak (aq (.int 5)) iy))))
  (jc (sIf (gj (mOp eqO (cj 10) (aq (.int 0))))
  (cg 8 (jg (fun l=>some (.tup l)) (ak (cj 9) (ak (dw Bf (ak (cj 0) (ak (cj 1) iy))) iy))))
  jo)
  (sIf (gj (mOp eqO (cj 10) (aq (.int 1))))
  (cg 8 (jg (fun l=>some (.tup l)) (ak (cj 9) (ak (jg (fun l=>some (.tup l)) (ak (mOp ju (dw fu (ak (cj 0) (ak (aq (.int 3)) iy))) (aq (.int 1))) (ak (jg (fun l=>some (.tup l)) (ak (jg (fun l=>some (.tup l)) (ak (cj 9) (ak (aq (.int 1)) iy))) iy)) iy))) iy))))
  jo))))
  (jj (jg (fun l=>some (.tup l)) (ak (cj 3) (ak (cj 5) (ak (cj 7) (ak (jg Aj (ak (cj 8) iy)) (ak (cj 6) iy)))))))))))))
noncomputable def Ba:Fn:=iu 11
  (jc (jk 2 (mOp kj (mOp j6 (dw qg (ak (cj 0) (ak (aq (.int 0)) iy))) (aq (.int 5))) (aq (.int 2))))
  (jc (jk 3 (dw qg (ak (cj 0) (ak (aq (.int 1)) iy))))
  (jc (jk 4 (Eo (ak (dw qg (ak (cj 0) (ak (aq (.int 2)) iy))) (ak (cj 2) iy))))
  (jc (jk 5 (mOp jr (aq (.int 1)) (dw fu (ak (cj 4) (ak (aq (.int 3)) iy)))))
  (jc (lg 6 (jg (fun l=>some (.lst l)) iy))
  (jc (jt (gq 7) (fj (cj 5))
  (cg 6 (jg (fun l=>some (.tup l)) (ak (dw vq (ak (cj 3) (ak (mOp jr (aq (.int 5)) (cj 7)) iy))) (ak (mOp jr (aq (.int 1)) (dw fu (ak (cj 4) (ak (mOp iz (jg (fun l=>some (.lst l)) (ak (aq (.int 4)) (ak (aq (.int 4)) (ak (aq (.int 2)) iy)))) (mOp ju (cj 5) (aq (.int 1)))) iy)))) iy)))))
  (jc (jk 8 (dw Bj (ak (cj 4) (ak (cj 3) (ak (dw fu (ak (cj 4) (ak (aq (.int 3)) iy))) iy)))))
  (jc (jk 9 (zj 1 [] (gq 0) (jm (cj 8)) iw (mOp iz (cj 0) (aq (.int 0)))))
  (jc (jk 10 (zj 1 [9,6,2] (gq 0) (jm (Ij (cj 0) (K1 (aq (.int 3))) (K1 (mOp jr (aq (.int 3)) (cj 1))))) iw (dw Bo (ak (Eo (ak (cj 0) (ak (cj 3) iy))) (ak (cj 1) (ak (cj 2) iy))))))
  (jj (jg (fun l=>some (.tup l)) (ak (cj 8) (ak (cj 6) (ak (cj 10) (ak (jg (fun l=>some (.tup l)) iy) iy)))))))))))))))
noncomputable def Aw:Fn:=iu 8
  (jc (jk 4 (dw Gq (ak (cj 0) (ak (cj 1) (ak (cj 3) iy)))))
  (jc (jk 5 (dw Mv (ak (cj 0) (ak (cj 4) iy))))
  (jc (jt (gq 6) (fj (jg lq (ak (mOp iz (cj 0) (aq (.int 2))) iy)))
  (sIf (gj (dw Fb (ak (cj 0) (ak (cj 3) (ak (cj 6) iy)))))
  (jc (sIf (gj (mOp neO (mOp inT (cj 6) (cj 5)) (mOp inT (cj 6) (cj 2))))
  (jj (aq (.bl false)))
  jo)
  (sIf (gj (mOp inT (cj 6) (cj 2)))
  (jc (jk 7 (dw Gq (ak (cj 0) (ak (cj 1) (ak (cj 6) iy)))))
  (jc (sIf (gj (mOp Pk (cj 3) (dw Mv (ak (cj 0) (ak (cj 7) iy)))))
  (jj (aq (.bl false)))
  jo)
  (sIf (gj (mOp neO (dw Gq (ak (cj 0) (ak (cj 7) (ak (cj 3) iy)))) (dw Gq (ak (cj 0) (ak (cj 4) (ak (cj 6) iy))))))
  (jj (aq (.bl false)))
  jo)))
  jo))
  jo))
  (jj (aq (.bl true))))))
noncomputable def Xr:Fn:=iu 10
  (jc (jk 1 (dw Ba (ak (cj 0) (ak (aq (.int 9)) iy))))
  (jc (lg 2 (jg (fun l=>some (.lst l)) (ak (dw Ay (ak (cj 1) iy)) iy)))
  (jc (jt (gq 3) (jm (Ij (cj 0) (K1 (aq (.int 12))) (K1 (aq (.int 19)))))
  (jc (jk 4 (Eo (ak (cj 3) (ak (aq (.int 0)) iy))))
  (jc (jk 5 (jg Aj (ak (zj 1 [4] (gq 0) (jm (mOp iz (cj 1) (aq (.int 1)))) iw (dw fu (ak (cj 1) (ak (mOp iz (cj 0) (aq (.int 1))) iy)))) iy)))
  (jc (jk 6 (jg Aj (ak (zj 1 [4] (gq 0) (jm (mOp iz (cj 1) (aq (.int 0)))) iw (mOp jr (mOp iz (cj 0) (aq (.int 2))) (dw fu (ak (cj 1) (ak (mOp jr (mOp ju (mOp iz (cj 0) (aq (.int 3))) (mOp iz (cj 0) (aq (.int 2)))) (aq (.int 1))) iy))))) iy)))
  (cg 2 (jg (fun l=>some (.tup l)) (ak (cj 5) (ak (cj 6) iy))))))))
  (jc (jt (gq 7) (jm (cj 2))
  (jc (jk 8 (dw Mv (ak (cj 1) (ak (cj 7) iy))))
  (jt (gq 9) (jm (cj 8))
  (sIf (m7 (gj (dw Aw (ak (cj 1) (ak (cj 7) (ak (cj 8) (ak (cj 9) iy)))))))
  (jj (aq (.bl false)))
  jo))))
  (jj (aq (.bl true)))))))
end K
end
noncomputable section
set_option linter.all false
set_option maxRecDepth 100000
set_option autoImplicit false
namespace K
open C PySem
noncomputable abbrev scr (cs:List Int):T:=.lst (cs.map .int)
noncomputable def cell (cs:List Int) (k:Nat):Int:=cs.getD k 0
theorem a6s {cs:List Int} {k:Nat} {sto:List SO}:qg [scr cs,.int (k:Int)] sto=some (.int (cell cs k),sto):=by
  by_cases h:k<cs.length
  · have h1:((k:Int)<(cs.length:Int)):=by omega
    have h2:cs[k]? = some cs[k]:=List.getElem?_eq_getElem h
    simp [iu,jc,sIf,jk,lg,jj,jo,sNx,dg,sGo,bh,jt,cg,cu,j5,gj,m7,m8,mOr,j7,mIf,mOp,mUn,cj,jg,ak,iy,aq,j8,dw,bw,gq,jw,fj,jm,ltT,leT,lq,jr,ju,kj,j6,mj,mq,j4,iw,au,kh,qg,iz,ixI,h1,h2,cell,List.getD]
  · have h1:¬ ((k:Int)<(cs.length:Int)):=by omega
    have h2:cs[k]? = none:=List.getElem?_eq_none_iff.mpr (by omega)
    simp [iu,jc,sIf,jk,lg,jj,jo,sNx,dg,sGo,bh,jt,cg,cu,j5,gj,m7,m8,mOr,j7,mIf,mOp,mUn,cj,jg,ak,iy,aq,j8,dw,bw,gq,jw,fj,jm,ltT,leT,lq,jr,ju,kj,j6,mj,mq,j4,iw,au,kh,qg,iz,ixI,h1,h2,cell,List.getD]
theorem a0i {cs:List Int} {k:Nat} {i:Int} {sto:List SO} (h:i=(k:Int)):qg [scr cs,.int i] sto=some (.int (cell cs k),sto):=by
  rw [h]; exact a6s
noncomputable def aad (so:SO):Prop:=(∃ a w,so=.lst [.int a,.int w])∨∃ a w c,so=.lst [.int a,.int w,.int c]
noncomputable def StO (sto:List SO):Prop:=∀ so∈sto,aad so
theorem StO.set {sto:List SO} (h:StO sto) (n:Nat) {so:SO} (hs:aad so):StO (sto.set n so):=fun x hx=>by
  rcases List.mem_or_eq_of_mem_set hx with z | z
  · exact h x z
  · subst z; exact hs
theorem ac4 (a:Int):inT (.int a) (.lst [.int 0,.int (-1)])=some (.bl (a==0||a == -1)):=by
  simp [inT,inL,eqD,dat,PyData.depth,PyData.eqv]
  rw [show ((0:Int)==a)=(a==0) from Bool.beq_comm,show ((-1:Int)==a)=(a == -1) from Bool.beq_comm]
noncomputable def Xz (a:Int):Int:=(a%2147483647 * 48271+1013)%2147483629
theorem a8p {n:Nat} {many a w c:Int} {sto:List SO} (hn:n<sto.length) (hs:StO sto) (hm:0<many) (hb:many.natAbs<fdl) (e:sto[n]? = some (.lst [.int a,.int w,.int c])) :
    ∃ r sto',fu [.obj n,.int many] sto=some (.int r,sto')∧0≤r∧r<many∧StO sto'∧sto'.length=sto.length:=by
  have lt:∀ x:Int,0≤x%many∧x%many<many:=fun x=>⟨Int.emod_nonneg _ (by omega),Int.emod_lt_of_pos _ hm⟩
  have S3:∀ a w c:Int,aad (.lst [.int a,.int w,.int c]):=fun a w c=>.inr ⟨a,w,c,rfl⟩
  have b1:∀ x:Int,Mq (x%2147483647)=true:=fun x=>by
    have:=Int.emod_nonneg x (show (2147483647:Int)≠0 by decide)
    have:=Int.emod_lt_of_pos x (show (0:Int)<2147483647 by decide)
    simp only [Mq,decide_eq_true_eq]; omega
  have b2:Mq 69621=true:=by decide
  unfold fu
  by_cases hw:w=0
  · subst hw
    by_cases ha:(a==0||a == -1)=true
    · refine ⟨(Xz (c+1013) * 69621%2147483587) / 11%many,sto.set n (.lst [.int (Xz (c+1013)),.int 1,.int c]),?_,(lt _).1,(lt _).2,hs.set n (S3 _ _ _),List.length_set⟩
      simp [iu,jc,sIf,jk,lg,jj,jo,sNx,dg,sGo,bh,jt,cg,cu,j5,gj,m7,m8,mOr,j7,mIf,mOp,mUn,cj,jg,ak,iy,aq,j8,dw,bw,gq,jw,fj,jm,ltT,leT,lq,jr,ju,kj,j6,mj,mq,j4,iw,au,kh,G4,e,qy,Di,ixI,ac4,ha,Gj,List.getElem?_set_self hn,Mh,b1,b2,hm,Xz]
    · refine ⟨a%many,sto.set n (.lst [.int (a / many),.int 0,.int c]),?_,(lt _).1,(lt _).2,hs.set n (S3 _ _ _),List.length_set⟩
      simp [iu,jc,sIf,jk,lg,jj,jo,sNx,dg,sGo,bh,jt,cg,cu,j5,gj,m7,m8,mOr,j7,mIf,mOp,mUn,cj,jg,ak,iy,aq,j8,dw,bw,gq,jw,fj,jm,ltT,leT,lq,jr,ju,kj,j6,mj,mq,j4,iw,au,kh,G4,e,qy,Di,ixI,ac4,ha,Gj,List.getElem?_set_self hn,hm,hb]
  · have hw':(w==0)=false:=beq_eq_false_iff_ne.mpr hw
    refine ⟨(Xz a * 69621%2147483587) / 11%many,sto.set n (.lst [.int (Xz a),.int w,.int c]),?_,(lt _).1,(lt _).2,hs.set n (S3 _ _ _),List.length_set⟩
    simp [iu,jc,sIf,jk,lg,jj,jo,sNx,dg,sGo,bh,jt,cg,cu,j5,gj,m7,m8,mOr,j7,mIf,mOp,mUn,cj,jg,ak,iy,aq,j8,dw,bw,gq,jw,fj,jm,ltT,leT,lq,jr,ju,kj,j6,mj,mq,j4,iw,au,kh,G4,e,qy,Di,ixI,hw',Gj,List.getElem?_set_self hn,Mh,b1,b2,hm,Xz]
theorem aal {n:Nat} {many a w:Int} {sto:List SO} (hn:n<sto.length) (e:sto[n]? = some (.lst [.int a,.int w])):fu [.obj n,.int many] sto=fu [.obj n,.int many] (sto.set n (.lst [.int a,.int w,.int a])):=by
  have l2:(2:Nat)<lim:=by decide
  simp [iu,jc,sIf,jk,lg,jj,jo,sNx,dg,sGo,bh,jt,cg,cu,j5,gj,m7,m8,mOr,j7,mIf,mOp,mUn,cj,jg,ak,iy,aq,j8,dw,bw,gq,jw,fj,jm,ltT,leT,lq,jr,ju,kj,j6,mj,mq,j4,iw,au,kh,fu,G4,e,qy,Di,ixI,Lz,List.getElem?_set_self hn,l2]
theorem pick {n:Nat} {many:Int} {sto:List SO} (hn:n<sto.length) (hs:StO sto) (hm:0<many) (hb:many.natAbs<fdl) :
    ∃ r sto',fu [.obj n,.int many] sto=some (.int r,sto')∧0≤r∧r<many∧StO sto'∧sto'.length=sto.length:=by
  have e:=List.getElem?_eq_getElem hn
  rcases hs _ (List.getElem_mem hn) with ⟨a,w,h⟩ | ⟨a,w,c,h⟩
  · rw [h] at e
    rw [aal hn e]
    obtain ⟨r,sto',q1,q2,q3,q4,q5⟩:=a8p (many:=many) (by rw [List.length_set]; exact hn) (hs.set n (.inr ⟨a,w,a,rfl⟩)) hm hb (List.getElem?_set_self hn)
    exact ⟨r,sto',q1,q2,q3,q4,by rw [q5,List.length_set]⟩
  · rw [h] at e
    exact a8p hn hs hm hb e
end K
end
noncomputable section
set_option linter.all false
set_option maxRecDepth 100000
set_option autoImplicit false
namespace C
open PySem
theorem N7 {g:G} {e:M T} {nv:Nat} {cap:List Slot} (hcap:cap.map kh=cap) (P:List T→List T→List SO→Prop)
    (H:∀ t r acc sto,P (t::r) acc sto→∀ pre:List Slot,pre.length=nv→∃ pre' u sto',pre'.length=nv∧g t ⟨pre++cap,sto⟩=some ⟨pre'++cap,sto⟩∧e ⟨pre'++cap,sto⟩=some (u,⟨pre'++cap,sto'⟩)∧P r (acc++[u]) sto') :
    ∀ (ts acc:List T) (pre:List Slot) (sto:List SO),pre.length=nv→acc.length+ts.length≤lim→P ts acc sto →
      ∃ us s',Ew g iw e ts ⟨pre++cap,sto⟩ acc=some (us,s')∧P [] us s'.sto
  | [],acc,pre,sto,hp,hl,p=>⟨acc,⟨pre++cap,sto⟩,by simp [Ew],p⟩
  | t::r,acc,pre,sto,hp,hl,p=>by
    obtain ⟨pre',u,sto',p1,p2,p3,p4⟩:=H t r acc sto p pre hp
    have hlen:acc.length<lim:=by simp only [List.length_cons] at hl; (clear p4 p3 p2 p1 p hp H hcap; omega)
    obtain ⟨us,s',q1,q2⟩:=N7 hcap P H r (acc++[u]) (pre'.map kh) sto' (by simpa using p1) (by simp only [List.length_cons,List.length_append,List.length_nil] at hl ⊢; omega) p4
    refine ⟨us,s',?_,q2⟩
    rw [Ew,p2]
    dsimp only [iw]
    rw [p3]
    dsimp only
    rw [if_pos hlen,ur]
    dsimp only
    rw [List.map_append,hcap,q1]
theorem Ga {g:G} {e:M T} {nv:Nat} {ci:List Nat} {it:M (List T)} {s:Sta} {r:Option (T × Sta)} (hF:zj nv ci g it iw e s=r) (ts:List T) (s1:Sta) (env cap:List Slot) (P:List T→List T→List SO→Prop) (hit:it s=some (ts,s1)) (henv:au ci s1.env=env) (hci:ci.map (fun i=>(env[i]?).getD none)=cap) (hcap:cap.map kh=cap) (hl:ts.length≤lim) (p:P ts [] s1.sto)
    (H:∀ t r acc sto,P (t::r) acc sto→∀ pre:List Slot,pre.length=nv→∃ pre' u sto',pre'.length=nv∧g t ⟨pre++cap,sto⟩=some ⟨pre'++cap,sto⟩∧e ⟨pre'++cap,sto⟩=some (u,⟨pre'++cap,sto'⟩)∧P r (acc++[u]) sto') :
    ∃ us sto',r=some (.lst us,⟨env,sto'⟩)∧P [] us sto':=by
  obtain ⟨us,s',q1,q2⟩:=N7 hcap P H ts [] (List.replicate nv none) s1.sto (by simp) (by simpa using hl) p
  refine ⟨us,s'.sto,?_,q2⟩
  rw [← hF]
  unfold zj
  rw [hit]
  dsimp only
  rw [henv,hci,q1]
end C
namespace K
open C PySem
noncomputable def qs (n:Nat):Str:=⟨((List.replicate n ("q" : Str).cps.toList).flatten).toArray⟩
theorem a87 {j:Int} (h0:0≤j) (h1:j≤1000):Mh (.str "q") (.int j)=some (.str (qs j.toNat)):=by
  have hl:Str.length ("q" : Str)≤100:=by decide +kernel
  simp only [Mh]
  rw [if_pos ⟨h0,h1,hl⟩]; rfl
noncomputable def lt1 (i:Nat):Str:=⟨#[("abcdefghij" : Str).cps.toList.getD i 0]⟩
theorem a83 {i:Nat} (h:i<10):iz (.str "abcdefghij") (.int (i:Int))=some (.str (lt1 i)):=by
  match i,h with
  | 0,_=>rfl
  | 1,_=>rfl
  | 2,_=>rfl
  | 3,_=>rfl
  | 4,_=>rfl
  | 5,_=>rfl
  | 6,_=>rfl
  | 7,_=>rfl
  | 8,_=>rfl
  | 9,_=>rfl
noncomputable def nm (p i q:Nat):Str:=qs p++lt1 i++qs q
noncomputable def okN (x:Str):Prop:=okS x∧x.length<40
theorem aaw:∀ p,p<8→∀ i,i<10→∀ q,q<8→okN (nm p i q)∧(qs p).length+(lt1 i).length<20∧(qs p++lt1 i).length+(qs q).length<40:=by
  unfold okN okS
  decide +kernel
noncomputable def wd (i:Nat):Str:=(["b","ab","abc","abcd","a","ba","aab","b1","bab","ab1"]:List Str).getD i "b"
theorem ab0:∀ i,i<10→okN (wd i):=by
  unfold okN okS
  decide +kernel
theorem aam {i:Nat} (h:i<10):iz (.lst [.str "b",.str "ab",.str "abc",.str "abcd",.str "a",.str "ba",.str "aab",.str "b1",.str "bab",.str "ab1"]) (.int (i:Int))=some (.str (wd i)):=by
  match i,h with
  | 0,_=>rfl
  | 1,_=>rfl
  | 2,_=>rfl
  | 3,_=>rfl
  | 4,_=>rfl
  | 5,_=>rfl
  | 6,_=>rfl
  | 7,_=>rfl
  | 8,_=>rfl
  | 9,_=>rfl
noncomputable def Dv (c k:Int):Str:=if c / 640%4=1 then wd (k%10).toNat else nm (c / 8%(1+c%8)).toNat ((3 * k+c / 64)%10).toNat (c%8 - c / 8%(1+c%8)).toNat
theorem name {c k:Int} {sto:List SO}:vq [.int c,.int k] sto=some (.str (Dv c k),sto)∧okN (Dv c k):=by
  by_cases h4:c / 640%4=1
  · obtain ⟨i,hi,ei⟩:∃ i:Nat,i<10∧k%10=(i:Int):=⟨(k%10).toNat,by omega,by omega⟩
    have en:Dv c k=wd i:=by unfold Dv; rw [if_pos h4,ei]; rfl
    rw [en]
    refine ⟨?_,ab0 i hi⟩
    simp [iu,jc,sIf,jk,lg,jj,jo,sNx,dg,sGo,bh,jt,cg,cu,j5,gj,m7,m8,mOr,j7,mIf,mOp,mUn,cj,jg,ak,iy,aq,j8,dw,bw,gq,jw,fj,jm,ltT,leT,lq,jr,ju,kj,j6,mj,mq,j4,iw,au,kh,vq,qy,h4,ei,aam hi]
  · obtain ⟨z,hz,ez⟩:∃ z:Nat,z<8∧c%8=(z:Int):=⟨(c%8).toNat,by omega,by omega⟩
    have hs:(0:Int)<1+(z:Int):=by omega
    have p0:=Int.emod_nonneg (c / 8) (show (1+(z:Int))≠0 by omega)
    have p1:=Int.emod_lt_of_pos (c / 8) hs
    obtain ⟨p,ep⟩:∃ p:Nat,c / 8%(1+(z:Int))=(p:Int):=⟨(c / 8%(1+(z:Int))).toNat,by omega⟩
    have hp:p≤z:=by omega
    obtain ⟨i,hi,ei⟩:∃ i:Nat,i<10∧(3 * k+c / 64)%10=(i:Int):=⟨((3 * k+c / 64)%10).toNat,by (clear hp ep p1 p0 hs ez hz h4; omega),by (clear hp ep p1 p0 hs ez hz h4; omega)⟩
    obtain ⟨o1,o2,o3⟩:=aaw p (by (clear ei hi ep p1 p0 hs hz h4; omega)) i hi (z - p) (by (clear ei hi hp ep p1 p0 hs hz h4; omega))
    have en:Dv c k=nm p i (z - p):=by
      unfold Dv
      rw [if_neg h4,ez,ep,ei]
      congr 1
      (clear o3 o2 o1 ei hi hp ep p1 p0 hs ez hz h4; omega)
    rw [en]
    refine ⟨?_,o1⟩
    have hb:(c / 640%4==1)=false:=beq_eq_false_iff_ne.mpr h4
    have m1:=a87 (j:=(p:Int)) (by (clear hb en o3 o2 o1 ei hi hp ep p1 p0 hs ez hz h4; omega)) (by (clear hb en o3 o2 o1 ei hi ep p1 p0 hs hz h4; omega))
    have m2:=a87 (j:=(z:Int) - (p:Int)) (by (clear m1 hb en o3 o2 o1 ei hi ep p1 p0 hs ez hz h4; omega)) (by (clear m1 hb en o3 o2 o1 ei hi hp ep p1 p0 hs hz h4; omega))
    rw [Int.toNat_natCast] at m1
    rw [show ((z:Int) - (p:Int)).toNat=z - p by (clear m2 m1 hb en o3 o2 o1 ei hi hp ep p1 p0 hs ez hz h4; omega)] at m2
    have b3:Mq 3=true:=by decide
    have mi:Mh (.int 3) (.int k)=some (.int (3 * k)):=by simp [Mh,b3]
    have l1:(qs p).length+(lt1 i).length<lim:=by show _<1000000; (clear mi b3 m2 m1 hb en o3 o1 ei hi hp ep p1 p0 hs ez hz h4; omega)
    have l2:(qs p++lt1 i).length+(qs (z - p)).length<lim:=by show _<1000000; (clear l1 mi b3 m2 m1 hb en o2 o1 ei hi hp ep p1 p0 hs ez hz h4; omega)
    simp [iu,jc,sIf,jk,lg,jj,jo,sNx,dg,sGo,bh,jt,cg,cu,j5,gj,m7,m8,mOr,j7,mIf,mOp,mUn,cj,jg,ak,iy,aq,j8,dw,bw,gq,jw,fj,jm,ltT,leT,lq,jr,ju,kj,j6,mj,mq,j4,iw,au,kh,vq,qy,hb,ez,hs,ep,m1,mi,ei,a83 hi,l1,show 1+(z:Int) - 1 - (p:Int)=(z:Int) - (p:Int) by (clear l2 l1 mi b3 m2 m1 hb en o3 o2 o1 ei hi hp ep p1 p0 hs ez hz h4; omega),m2,l2,nm]
theorem a6e (n:Nat):(qs n).cps.toList=List.replicate n 113:=by
  have e:("q" : Str).cps.toList=[113]:=by decide +kernel
  unfold qs
  rw [e]
  simp only
  induction n with
  | zero=>rfl
  | succ n ih=>simp [List.replicate_succ] at ih ⊢
noncomputable def ltc (i:Nat):Nat:=("abcdefghij" : Str).cps.toList.getD i 0
theorem a7j:∀ i,i<10→∀ j,j<10→ltc i=ltc j→i=j:=by decide +kernel
theorem a8u:∀ i,i<10→∀ j,j<10→wd i=wd j→i=j:=by decide +kernel
theorem a84 {p q i j:Nat} (hi:i<10) (hj:j<10) (h:nm p i q=nm p j q):i=j:=by
  have e:=congrArg (fun x:Str=>x.cps.toList[p]?) h
  have at1:∀ k,(nm p k q).cps.toList[p]? = some (ltc k):=fun k=>by
    have:(nm p k q).cps.toList=(qs p).cps.toList++[ltc k]++(qs q).cps.toList:=by
      show ((qs p).cps ++ #[ltc k]++(qs q).cps).toList=_
      simp
    rw [this,a6e]
    simp
  simp only [at1] at e
  exact a7j i hi j hj (Option.some.inj e)
theorem Wm {c:Int} {i j:Int} (hi:0≤i∧i<10) (hj:0≤j∧j<10) (h:Dv c i=Dv c j):i=j:=by
  unfold Dv at h
  by_cases h1:c / 640%4=1
  · rw [if_pos h1,if_pos h1] at h
    have:=a8u _ (by omega) _ (by omega) h
    omega
  rw [if_neg h1,if_neg h1] at h
  have:=a84 (by omega) (by omega) h
  omega
theorem W6 (c:Int) (a n:Nat) (h:a+n≤10):((List.range n).map fun (k:Nat)=>Dv c ((a:Int)+(k:Int))).Nodup:=by
  refine List.Pairwise.map _ ?_ (List.Pairwise.and_mem.mp List.nodup_range)
  intro i j z8 e
  obtain ⟨hi,hj,hij⟩:=z8
  have hi':=List.mem_range.mp hi -- here
  have hj':=List.mem_range.mp hj -- here
  have:=Wm (by omega) (by omega) e
  exact hij (by omega)
noncomputable abbrev Sm:=Int × List (Str × Int)
noncomputable def pT (p:Str × Int):T:=.tup [.str p.1,.int p.2]
noncomputable def smT (s:Sm):T:=.tup [.int s.1,.tup (s.2.map pT)]
noncomputable def a5c (N:List Str) (s:Sm):Prop:=s.2.length≤N.length∧∀ p∈s.2,p.1∈N∧-4<p.2∧p.2<4
noncomputable def Oz (N:List Str):Prop:=N.length≤2∧∀ x∈N,okN x
theorem Ve {x y:Str}:∀ {l:List Str},y∈Mg x l→y=x∨y∈l
  | [],h=>by simp [Mg] at h; exact .inl h
  | z::l,h=>by
    unfold Mg at h
    split at h
    · rcases List.mem_cons.mp h with rfl | h -- here
      · exact .inl rfl
      · exact .inr h
    · rcases List.mem_cons.mp h with rfl | h -- here
      · exact .inr List.mem_cons_self
      · rcases Ve h with h | h
        · exact .inl h
        · exact .inr (List.mem_cons_of_mem _ h)
theorem V6 {x:Str}:∀ {l:List Str},(Mg x l).length=l.length+1
  | []=>rfl
  | z::l=>by unfold Mg; split <;> simp [V6]
theorem Dm (l:List Str):∀ acc:List Str,(∀ y∈l.foldl (fun acc x=>Mg x acc) acc,y∈l∨y∈acc)∧(l.foldl (fun acc x=>Mg x acc) acc).length=l.length+acc.length:=by
  induction l with
  | nil=>intro acc; exact ⟨fun y h=>.inr h,by simp⟩
  | cons x l ih =>
    intro acc
    obtain ⟨h1,h2⟩:=ih (Mg x acc)
    refine ⟨fun y hy=>?_,by rw [List.foldl_cons,h2,V6,List.length_cons]; omega⟩
    rcases h1 y hy with h | h
    · exact .inl (List.mem_cons_of_mem _ h)
    · rcases Ve h with rfl | h
      · exact .inl List.mem_cons_self
      · exact .inr h
theorem Lh {l:List Str} {y:Str} (h:y∈Bg l):y∈l:=by
  rcases (Dm l []).1 y h with h | h
  · exact h
  · cases h
theorem Iw {l:List Str}:(Bg l).length=l.length:=by have:=(Dm l []).2; unfold Bg; simpa using this
theorem Pg:∀ l:List Str,Jg (l.map T.str)=some l
  | []=>rfl
  | x::l=>by simp [Jg,Pg l]
theorem sorted_strs {l:List Str} (h:l.length<64):Em [.lst (l.map T.str)]=some (.lst ((Bg l).map T.str)):=by
  simp [Em,h,Pg]
theorem a4n {n:Nat} {v:Int} (hn:n<7) (h0:0≤v) (h1:v<7):∃ t:Int,iz (.lst [.int 0,.int 0,.int 1,.int 1,.int (-1),.int 2,.int (v - 3)]) (.int (n:Int))=some (.int t)∧-4<t∧t<4:=by
  match n,hn with
  | 0,_=>exact ⟨0,rfl,by omega,by omega⟩
  | 1,_=>exact ⟨0,rfl,by omega,by omega⟩
  | 2,_=>exact ⟨1,rfl,by omega,by omega⟩
  | 3,_=>exact ⟨1,rfl,by omega,by omega⟩
  | 4,_=>exact ⟨-1,rfl,by omega,by omega⟩
  | 5,_=>exact ⟨2,rfl,by omega,by omega⟩
  | 6,_=>exact ⟨v - 3,rfl,by omega,by omega⟩
theorem a0b {j:Int} (h0:0≤j) (h1:j<1000000000000000000000000000000000):j.natAbs<fdl:=Nat.lt_trans (show j.natAbs<1000000000000000000000000000000000 by omega) (by decide)
structure Dn (sto:List SO) (sto':List SO):Prop where
  ok:StO sto'
  len:sto.length≤sto'.length
theorem Bv {n:Nat} {many:Int} {sto:List SO} (hn:n<sto.length) (hs:StO sto) (hm:0<many) (hb:many<1000000000000000000000000000000000) :
    ∃ (r:Int) (sto':List SO),fu [.obj n,.int many] sto=some (.int r,sto')∧0≤r∧r<many∧StO sto'∧sto'.length=sto.length:=pick hn hs hm (a0b (by omega) hb)
noncomputable def SmO (N:List Str) (L:Nat) (t:T) (st:List SO):Prop:=∃ s,t=smT s∧a5c N s∧StO st∧st.length=L
theorem sum {n:Nat} {N:List Str} {sto:List SO} (hn:n<sto.length) (hs:StO sto) (okN:Oz N) :
    Out (Bf [.obj n,.lst (N.map T.str)] sto) (SmO N sto.length):=by
  obtain ⟨r1,s1,p1,a1,b1,o1,l1⟩:=Bv (many:=5) hn hs (by decide) (by decide)
  obtain ⟨r2,s2,p2,a2,b2,o2,l2⟩:=Bv (many:=9) (by omega:n<s1.length) o1 (by decide) (by decide)
  have num:∃ (k:Int) (s3:List SO),StO s3∧s3.length=sto.length∧((jc (jk 2 (mOp ju (dw fu (ak (cj 0) (ak (aq (.int 5)) iy))) (aq (.int 2))))
      (sIf (gj (mOp eqO (dw fu (ak (cj 0) (ak (aq (.int 9)) iy))) (aq (.int 8))))
      (jk 2 (mOp ju (dw fu (ak (cj 0) (ak (mOp ju (mOp Mh (aq (.int 2)) (mOp Vn (aq (.int 10)) (aq (.int 9)))) (aq (.int 1))) iy))) (mOp ju (mOp Vn (aq (.int 10)) (aq (.int 9))) (aq (.int 1)))))
      jo)):S) ⟨[some (.obj n,false),some (.lst (N.map T.str),false),none,none,none,none],sto⟩=some (.next,⟨[some (.obj n,false),some (.lst (N.map T.str),false),some (.int k,false),none,none,none],s3⟩):=by
    by_cases h8:r2=8
    · obtain ⟨r3,s3,p3,a3,b3,o3,l3⟩:=Bv (n:=n) (many:=1999999999) (by (clear h8 o2 b2 a2 p2 o1 b1 a1 p1 okN hs; omega):n<s2.length) o2 (by decide) (by decide)
      refine ⟨r3 - 999999999,s3,o3,by (clear o3 b3 a3 p3 h8 o2 b2 a2 p2 o1 b1 a1 p1 okN hs hn; omega),?_⟩
      have bb:Mq 2=true:=by decide
      subst h8
      simp [iu,jc,sIf,jk,lg,jj,jo,sNx,dg,sGo,bh,jt,cg,cu,j5,gj,m7,m8,mOr,j7,mIf,mOp,mUn,cj,jg,ak,iy,aq,j8,dw,bw,gq,jw,fj,jm,ltT,leT,lq,jr,ju,kj,j6,mj,mq,j4,iw,au,kh,p1,p2,qy,Vn,Mh,bb,p3]
    · have hb:(r2==8)=false:=beq_eq_false_iff_ne.mpr h8
      refine ⟨r1 - 2,s2,o2,by (clear hb h8 o2 b2 a2 p2 o1 b1 a1 p1 okN hs hn; omega),?_⟩
      simp [iu,jc,sIf,jk,lg,jj,jo,sNx,dg,sGo,bh,jt,cg,cu,j5,gj,m7,m8,mOr,j7,mIf,mOp,mUn,cj,jg,ak,iy,aq,j8,dw,bw,gq,jw,fj,jm,ltT,leT,lq,jr,ju,kj,j6,mj,mq,j4,iw,au,kh,p1,p2,qy,hb]
  obtain ⟨k,s3,o3,l3,num⟩:=num
  have hN:(Bg N).length=N.length:=Iw
  have h2:=okN.1
  have nn:(Bg N).length<lim:=by show _<1000000; (clear num l3 o3 l2 o2 b2 a2 p2 l1 o1 b1 a1 p1 okN hs hn; omega)
  have so:=sorted_strs (l:=N) (by (clear nn hN num l3 o3 l2 o2 b2 a2 p2 l1 o1 b1 a1 p1 okN hs hn; omega))
  unfold Bf iu
  rw [show ([T.obj n,.lst (N.map T.str)].map (fun t=>some (t,false))++List.replicate (6 - [T.obj n,.lst (N.map T.str)].length) none:List Slot)=[some (.obj n,false),some (.lst (N.map T.str),false),none,none,none,none] from rfl,Vx num]
  simp [iu,jc,sIf,jk,lg,jj,jo,sNx,dg,sGo,bh,jt,cg,cu,j5,gj,m7,m8,mOr,j7,mIf,mOp,mUn,cj,jg,ak,iy,aq,j8,dw,bw,gq,jw,fj,jm,ltT,leT,lq,jr,ju,kj,j6,mj,mq,j4,iw,au,kh,so,nn]
  generalize hF:Fo _ _ _ _=r
  obtain ⟨s',rfl,P⟩:=Ds hF (fun ts s=>∃ (l:List Str) (acc:List (Str × Int)) (o4 o5:Slot) (st:List SO),ts=l.map T.str∧(∀ x∈l,x∈N)∧s=⟨[some (.obj n,false),some (.lst (N.map T.str),false),some (.int k,false),some (.lst (acc.map pT),true),o4,o5],st⟩∧StO st∧st.length=sto.length∧acc.length+l.length≤N.length∧∀ p∈acc,p.1∈N∧-4<p.2∧p.2<4)
    ⟨Bg N,[],none,none,s3,rfl,fun x hx=>Lh hx,rfl,o3,l3,by simp [hN],fun p hp=>by cases hp⟩ (by
      rintro t r s ⟨l,acc,o4,o5,st,e1,e2,rfl,e3,e4,e5,e6⟩
      cases l with
      | nil=>cases e1
      | cons x l =>
        cases e1
        have xN:=e2 x List.mem_cons_self
        obtain ⟨v,t1,q1,c1,d1,w1,m1⟩:=Bv (n:=n) (many:=7) (by (clear xN e5 e2 e6 e3 hF so nn h2 hN num l3 o3 l2 o2 b2 a2 p2 l1 o1 b1 a1 p1 okN hs; omega):n<st.length) e3 (by decide) (by decide)
        obtain ⟨i,t2,q2,c2,d2,w2,m2⟩:=Bv (n:=n) (many:=7) (by (clear w1 d1 c1 q1 xN e5 e2 e6 e3 hF so nn h2 hN num l3 o3 l2 o2 b2 a2 p2 l1 o1 b1 a1 p1 okN hs; omega):n<t1.length) w1 (by decide) (by decide)
        obtain ⟨ii,hi,ei⟩:∃ j:Nat,j<7∧i=(j:Int):=⟨i.toNat,by (clear m2 w2 c2 q2 m1 w1 d1 c1 q1 xN e5 e2 e6 e4 e3 hF so nn h2 hN num l3 o3 l2 o2 b2 a2 p2 l1 o1 b1 a1 p1 okN hs hn; omega),by (clear m2 w2 d2 q2 m1 w1 d1 c1 q1 xN e5 e2 e6 e4 e3 hF so nn h2 hN num l3 o3 l2 o2 b2 a2 p2 l1 o1 b1 a1 p1 okN hs hn; omega)⟩
        obtain ⟨tm,ht,g1,g2⟩:=a4n hi c1 d1
        rw [← ei] at ht
        simp only [List.length_cons] at e5
        have hl:acc.length<lim:=by show _<1000000; (clear g2 g1 ht ei hi m2 w2 d2 c2 q2 m1 w1 d1 c1 q1 xN e2 e6 e4 e3 hF so nn hN num l3 o3 l2 o2 b2 a2 p2 l1 o1 b1 a1 p1 okN hs hn; omega)
        by_cases h0:tm=0
        · refine ⟨_,⟨[some (.obj n,false),some (.lst (N.map T.str),false),some (.int k,false),some (.lst (acc.map pT),true),some (.str x,false),some (.int tm,false)],t2⟩,rfl,?_,l,acc,some (.str x,false),some (.int tm,false),t2,rfl,fun y hy=>e2 y (List.mem_cons_of_mem _ hy),rfl,w2,by (clear h0 hl g2 g1 ht ei hi w2 d2 c2 q2 w1 d1 c1 q1 xN e5 e2 e6 e3 hF so nn h2 hN num l3 o3 l2 o2 b2 a2 p2 l1 o1 b1 a1 p1 okN hs hn; omega),by (clear h0 hl g2 g1 ht ei hi m2 w2 d2 c2 q2 m1 w1 d1 c1 q1 xN e2 e6 e4 e3 hF so nn h2 hN num l3 o3 l2 o2 b2 a2 p2 l1 o1 b1 a1 p1 okN hs hn; omega),e6⟩
          subst h0
          simp [iu,jc,sIf,jk,lg,jj,jo,sNx,dg,sGo,bh,jt,cg,cu,j5,gj,m7,m8,mOr,j7,mIf,mOp,mUn,cj,jg,ak,iy,aq,j8,dw,bw,gq,jw,fj,jm,ltT,leT,lq,jr,ju,kj,j6,mj,mq,j4,iw,au,kh,q1,q2,ht,a1b]
        · have hb:(tm==0)=false:=beq_eq_false_iff_ne.mpr h0
          refine ⟨_,⟨[some (.obj n,false),some (.lst (N.map T.str),false),some (.int k,false),some (.lst ((acc++[(x,tm)]).map pT),true),some (.str x,false),some (.int tm,false)],t2⟩,rfl,?_,l,acc++[(x,tm)],some (.str x,false),some (.int tm,false),t2,rfl,fun y hy=>e2 y (List.mem_cons_of_mem _ hy),rfl,w2,by (clear hb h0 hl g2 g1 ht ei hi w2 d2 c2 q2 w1 d1 c1 q1 xN e5 e2 e6 e3 hF so nn h2 hN num l3 o3 l2 o2 b2 a2 p2 l1 o1 b1 a1 p1 okN hs hn; omega),by rw [List.length_append,List.length_singleton]; (clear hb h0 hl g2 g1 ht ei hi m2 w2 d2 c2 q2 m1 w1 d1 c1 q1 xN e2 e6 e4 e3 hF so nn h2 hN num l3 o3 l2 o2 b2 a2 p2 l1 o1 b1 a1 p1 okN hs hn; omega),?_⟩
          · simp [iu,jc,sIf,jk,lg,jj,jo,sNx,dg,sGo,bh,jt,cg,cu,j5,gj,m7,m8,mOr,j7,mIf,mOp,mUn,cj,jg,ak,iy,aq,j8,dw,bw,gq,jw,fj,jm,ltT,leT,lq,jr,ju,kj,j6,mj,mq,j4,iw,au,kh,q1,q2,ht,a1b,hb,hl,pT]
          · intro p hp
            rcases List.mem_append.mp hp with z | z -- here
            · exact e6 p z
            · rw [List.mem_singleton] at z; subst z; exact ⟨xN,g1,g2⟩)
  obtain ⟨l,acc,o4,o5,st,e1,e2,rfl,e3,e4,e5,e6⟩:=P
  cases l with
  | cons _ _=>cases e1
  | nil =>
    simp [iu,jc,sIf,jk,lg,jj,jo,sNx,dg,sGo,bh,jt,cg,cu,j5,gj,m7,m8,mOr,j7,mIf,mOp,mUn,cj,jg,ak,iy,aq,j8,dw,bw,gq,jw,fj,jm,ltT,leT,lq,jr,ju,kj,j6,mj,mq,j4,iw,au,kh,Aj]
    exact .of ⟨(k,acc),rfl,⟨by simpa using e5,e6⟩,e3,e4⟩
end K
end
noncomputable section
set_option linter.all false
set_option maxRecDepth 100000
set_option autoImplicit false
namespace K
open C PySem
noncomputable abbrev Hd:=Str × Int
noncomputable def hT (h:Hd):T:=.tup [.str h.1,.int h.2]
noncomputable def Y9 (H:List Hd):Prop:=1≤H.length∧H.length≤3∧∀ h∈H,okN h.1∧1≤h.2∧h.2≤4
inductive Rem where
  | most (s:Sm) | rest (s:Sm) (m:Int) | pl (h:Str) (p:Int) | all (l:List Rem) | any (l:List Rem) | no (r:Rem)
mutual
noncomputable def yj:Rem→T
  | .most s=>.tup [.str "most",smT s]
  | .rest s m=>.tup [.str "rest",smT s,.int m]
  | .pl h p=>.tup [.str "at",.str h,.int p]
  | .all l=>.tup [.str "and",.tup (Lx l)]
  | .any l=>.tup [.str "or",.tup (Lx l)]
  | .no r=>.tup [.str "not",yj r]
noncomputable def Lx:List Rem→List T
  | []=>[]
  | r::l=>yj r::Lx l
end
theorem G3:∀ l:List Rem,Lx l=l.map yj
  | []=>rfl
  | r::l=>by rw [Lx,G3 l]; rfl
inductive OkR (N:List Str) (H:List Hd):Nat→Rem→Prop where
  | most {d:Nat} {s:Sm}:a5c N s→OkR N H d (.most s)
  | rest {d:Nat} {s:Sm} {m:Int}:a5c N s→2≤m→m≤12→OkR N H d (.rest s m)
  | pl {d:Nat} {h:Hd} {p:Int}:h∈H→0≤p→p<h.2→OkR N H d (.pl h.1 p)
  | all {d:Nat} {l:List Rem}:l.length≤5→(∀ r∈l,OkR N H d r)→OkR N H (d+1) (.all l)
  | any {d:Nat} {l:List Rem}:l.length≤5→(∀ r∈l,OkR N H d r)→OkR N H (d+1) (.any l)
  | no {d:Nat} {r:Rem}:OkR N H d r→OkR N H (d+1) (.no r)
theorem OkR.up {N:List Str} {H:List Hd} {d:Nat} {r:Rem} (h:OkR N H d r):OkR N H (d+1) r:=by
  induction h with
  | most h=>exact .most h
  | rest h a b=>exact .rest h a b
  | pl h a b=>exact .pl h a b
  | all h _ ih=>exact .all h ih
  | any h _ ih=>exact .any h ih
  | no _ ih=>exact .no ih
noncomputable def RmO (N:List Str) (H:List Hd) (d L:Nat) (t:T) (st:List SO):Prop:=∃ r,t=yj r∧OkR N H d r∧StO st∧st.length=L
theorem Q5 {α:Type} (h:α→T) (l:List α) {i:Int} (h0:0≤i) (h1:i<l.length):∃ a∈l,iz (.lst (l.map h)) (.int i)=some (h a):=a0c h l h0 h1
noncomputable section
variable {n:Nat} {N:List Str} {H:List Hd} {sto:List SO}
theorem Wg (hn:n<sto.length) (hs:StO sto) (okn:Oz N) (okh:Y9 H):Out (su [.obj n,.lst (N.map T.str),.lst (H.map hT)] sto) (RmO N H 0 sto.length):=by
  obtain ⟨r1,s1,p1,a1,b1,o1,l1⟩:=Bv (many:=4) hn hs (by decide) (by decide)
  unfold su
  by_cases h0:r1=0
  · subst h0
    obtain ⟨hl1,hl2,hok⟩:=okh
    obtain ⟨r2,s2,p2,a2,b2,o2,l2⟩:=Bv (n:=n) (many:=(H.length:Int)) (by omega:n<s1.length) o1 (by omega) (by omega)
    obtain ⟨h,hm,hi⟩:=Q5 hT H a2 b2
    obtain ⟨k1,k2,k3⟩:=hok h hm
    obtain ⟨r3,s3,p3,a3,b3,o3,l3⟩:=Bv (n:=n) (many:=h.2) (by (clear k3 k2 k1 hi hm o2 b2 a2 p2 hok hl2 hl1 b1 a1 p1 o1 okn hs; omega):n<s2.length) o2 (by (clear k3 k1 hi hm l2 o2 b2 a2 p2 hok hl2 hl1 b1 a1 p1 l1 o1 okn hs hn; omega)) (by (clear k2 k1 hi hm l2 o2 b2 a2 p2 hok hl2 hl1 b1 a1 p1 l1 o1 okn hs hn; omega))
    simp [iu,jc,sIf,jk,lg,jj,jo,sNx,dg,sGo,bh,jt,cg,cu,j5,gj,m7,m8,mOr,j7,mIf,mOp,mUn,cj,jg,ak,iy,aq,j8,dw,bw,gq,jw,fj,jm,ltT,leT,lq,jr,ju,kj,j6,mj,mq,j4,iw,au,kh,p1,qy,p2,hi,hT,p3]
    exact .of ⟨.pl h.1 r3,rfl,.pl hm a3 b3,o3,by (clear o3 b3 a3 p3 k3 k2 k1 hi hm o2 b2 a2 p2 hok hl2 hl1 b1 a1 p1 o1 okn hs hn; omega)⟩
  · have hb:(r1==0)=false:=beq_eq_false_iff_ne.mpr h0
    obtain ⟨t,s2,p2,s,rfl,ok,o2,l2⟩:=sum (n:=n) (by omega:n<s1.length) o1 okn
    by_cases h1:r1=1
    · subst h1
      obtain ⟨r3,s3,p3,a3,b3,o3,l3⟩:=Bv (n:=n) (many:=11) (by (clear hb h0 b1 a1 p1 o2 ok p2 o1 okh okn hs; omega):n<s2.length) o2 (by (clear hb h0 b1 a1 p1 l2 o2 ok p2 l1 o1 okh okn hs hn; omega)) (by (clear hb h0 b1 a1 p1 l2 o2 ok p2 l1 o1 okh okn hs hn; omega))
      simp [iu,jc,sIf,jk,lg,jj,jo,sNx,dg,sGo,bh,jt,cg,cu,j5,gj,m7,m8,mOr,j7,mIf,mOp,mUn,cj,jg,ak,iy,aq,j8,dw,bw,gq,jw,fj,jm,ltT,leT,lq,jr,ju,kj,j6,mj,mq,j4,iw,au,kh,p1,qy,p2,p3]
      exact .of ⟨.rest s (2+r3),rfl,.rest ok (by (clear l3 o3 b3 p3 hb h0 b1 a1 p1 l2 o2 ok p2 l1 o1 okh okn hs hn; omega)) (by (clear l3 o3 a3 p3 hb h0 b1 a1 p1 l2 o2 ok p2 l1 o1 okh okn hs hn; omega)),o3,by (clear o3 b3 a3 p3 hb h0 b1 a1 p1 o2 ok p2 o1 okh okn hs hn; omega)⟩
    · have hb1:(r1==1)=false:=beq_eq_false_iff_ne.mpr h1
      simp [iu,jc,sIf,jk,lg,jj,jo,sNx,dg,sGo,bh,jt,cg,cu,j5,gj,m7,m8,mOr,j7,mIf,mOp,mUn,cj,jg,ak,iy,aq,j8,dw,bw,gq,jw,fj,jm,ltT,leT,lq,jr,ju,kj,j6,mj,mq,j4,iw,au,kh,p1,qy,hb,hb1,p2]
      exact .of ⟨.most s,rfl,.most ok,o2,by (clear hb1 h1 o2 ok p2 hb h0 o1 b1 a1 p1 okh okn hs hn; omega)⟩
theorem a7o {v:Int} (h0:0≤v) (h1:v<2):(v=0∧iz (.lst [.str "and",.str "or"]) (.int v)=some (.str "and"))∨(v=1∧iz (.lst [.str "and",.str "or"]) (.int v)=some (.str "or")):=by
  have:v=0∨v=1:=by omega
  rcases this with rfl | rfl
  · exact .inl ⟨rfl,rfl⟩
  · exact .inr ⟨rfl,rfl⟩
noncomputable def J5 (v:Int) (l:List Rem):Rem:=if v=0 then .all l else .any l
noncomputable def Wv (v:Int):Str:=if v=0 then "and" else "or"
theorem M8 {v:Int} (h0:0≤v) (h1:v<2):iz (.lst [.str "and",.str "or"]) (.int v)=some (.str (Wv v)):=by
  rcases a7o h0 h1 with ⟨rfl,h⟩ | ⟨rfl,h⟩ <;> exact h
theorem K8 {v:Int} {l:List Rem}:yj (J5 v l)=.tup [.str (Wv v),.tup (Lx l)]:=by
  unfold J5 Wv
  split <;> simp [yj]
theorem Fy {v:Int} {d:Nat} {l:List Rem} (h:l.length≤5) (h2:∀ r∈l,OkR N H d r):OkR N H (d+1) (J5 v l):=by
  unfold J5
  split
  · exact .all h h2
  · exact .any h h2
theorem remark (hn:n<sto.length) (hs:StO sto) (okn:Oz N) (okh:Y9 H):Out (Ao [.obj n,.lst (N.map T.str),.lst (H.map hT)] sto) (RmO N H 3 sto.length):=by
  obtain ⟨w,s1,p1,a1,b1,o1,l1⟩:=Bv (many:=11) hn hs (by decide) (by decide)
  unfold Ao
  by_cases h2:w<2
  · simp [iu,jc,sIf,jk,lg,jj,jo,sNx,dg,sGo,bh,jt,cg,cu,j5,gj,m7,m8,mOr,j7,mIf,mOp,mUn,cj,jg,ak,iy,aq,j8,dw,bw,gq,jw,fj,jm,ltT,leT,lq,jr,ju,kj,j6,mj,mq,j4,iw,au,kh,p1,h2]
    exact .of ⟨.all [],by simp [yj,Lx],.all (by simp) (fun r hr=>by cases hr),o1,by omega⟩
  obtain ⟨t1,s2,p2,x1,rfl,k1,o2,l2⟩:=Wg (n:=n) (by omega:n<s1.length) o1 okn okh
  by_cases h5:w<5
  · simp [iu,jc,sIf,jk,lg,jj,jo,sNx,dg,sGo,bh,jt,cg,cu,j5,gj,m7,m8,mOr,j7,mIf,mOp,mUn,cj,jg,ak,iy,aq,j8,dw,bw,gq,jw,fj,jm,ltT,leT,lq,jr,ju,kj,j6,mj,mq,j4,iw,au,kh,p1,h2,p2,h5]
    exact .of ⟨x1,rfl,k1.up.up.up,o2,by (clear h5 o2 k1 p2 h2 o1 b1 a1 p1 okh okn hs hn; omega)⟩
  by_cases e5:w=5
  · subst e5
    simp [iu,jc,sIf,jk,lg,jj,jo,sNx,dg,sGo,bh,jt,cg,cu,j5,gj,m7,m8,mOr,j7,mIf,mOp,mUn,cj,jg,ak,iy,aq,j8,dw,bw,gq,jw,fj,jm,ltT,leT,lq,jr,ju,kj,j6,mj,mq,j4,iw,au,kh,p1,p2,qy]
    exact .of ⟨.no x1,by simp [yj],.no k1.up.up,o2,by (clear h5 h2 b1 a1 p1 o2 k1 p2 o1 okh okn hs hn; omega)⟩
  have n5:(w==5)=false:=beq_eq_false_iff_ne.mpr e5
  obtain ⟨t3,s3,p3,x2,rfl,k2,o3,l3⟩:=Wg (n:=n) (by (clear n5 e5 h5 o2 k1 p2 h2 o1 b1 a1 p1 okh okn hs; omega):n<s2.length) o2 okn okh
  have m2:0≤w%2∧w%2<2:=by (clear l3 o3 k2 p3 n5 e5 h5 l2 o2 k1 p2 h2 l1 o1 b1 a1 p1 okh okn hs hn; omega)
  have we:=M8 m2.1 m2.2
  by_cases h8:w<8
  · simp [iu,jc,sIf,jk,lg,jj,jo,sNx,dg,sGo,bh,jt,cg,cu,j5,gj,m7,m8,mOr,j7,mIf,mOp,mUn,cj,jg,ak,iy,aq,j8,dw,bw,gq,jw,fj,jm,ltT,leT,lq,jr,ju,kj,j6,mj,mq,j4,iw,au,kh,p1,h2,p2,h5,qy,n5,we,p3,h8]
    refine .of ⟨J5 (w%2) [x1,x2],by rw [K8]; simp [Lx],(Fy (d:=0) (by simp) ?_).up.up,o3,by (clear h8 we m2 o3 k2 p3 n5 e5 h5 o2 k1 p2 h2 o1 b1 a1 p1 okh okn hs hn; omega)⟩
    intro r hr
    simp only [List.mem_cons,List.not_mem_nil,or_false] at hr
    rcases hr with rfl | rfl
    · exact k1
    · exact k2
  by_cases e8:w=8
  · subst e8
    obtain ⟨v,s4,p4,a4,b4,o4,l4⟩:=Bv (n:=n) (many:=2) (by (clear h8 we m2 n5 e5 h5 h2 b1 a1 p1 o3 k2 p3 o2 k1 p2 o1 okh okn hs; omega):n<s3.length) o3 (by (clear h8 we m2 n5 e5 h5 h2 b1 a1 p1 l3 o3 k2 p3 l2 o2 k1 p2 l1 o1 okh okn hs hn; omega)) (by (clear h8 we m2 n5 e5 h5 h2 b1 a1 p1 l3 o3 k2 p3 l2 o2 k1 p2 l1 o1 okh okn hs hn; omega))
    have wv:=M8 a4 b4
    simp [iu,jc,sIf,jk,lg,jj,jo,sNx,dg,sGo,bh,jt,cg,cu,j5,gj,m7,m8,mOr,j7,mIf,mOp,mUn,cj,jg,ak,iy,aq,j8,dw,bw,gq,jw,fj,jm,ltT,leT,lq,jr,ju,kj,j6,mj,mq,j4,iw,au,kh,p1,p2,qy,M8 (v:=0) (by decide) (by decide),p3,p4,wv,Bp]
    refine .of ⟨.no (J5 v [x1,x2]),by simp [yj,K8,Lx],.no (Fy (d:=0) (by simp) ?_).up,o4,by (clear wv o4 b4 a4 p4 h8 we m2 n5 e5 h5 h2 b1 a1 p1 o3 k2 p3 o2 k1 p2 o1 okh okn hs hn; omega)⟩
    intro r hr
    simp only [List.mem_cons,List.not_mem_nil,or_false] at hr
    rcases hr with rfl | rfl
    · exact k1
    · exact k2
  have n8:(w==8)=false:=beq_eq_false_iff_ne.mpr e8
  by_cases e9:w=9
  · subst e9
    obtain ⟨v,s4,p4,a4,b4,o4,l4⟩:=Bv (n:=n) (many:=2) (by (clear n8 e8 h8 we m2 n5 e5 h5 h2 b1 a1 p1 o3 k2 p3 o2 k1 p2 o1 okh okn hs; omega):n<s3.length) o3 (by (clear n8 e8 h8 we m2 n5 e5 h5 h2 b1 a1 p1 l3 o3 k2 p3 l2 o2 k1 p2 l1 o1 okh okn hs hn; omega)) (by (clear n8 e8 h8 we m2 n5 e5 h5 h2 b1 a1 p1 l3 o3 k2 p3 l2 o2 k1 p2 l1 o1 okh okn hs hn; omega))
    obtain ⟨t5,s5,p5,x3,rfl,k3,o5,l5⟩:=Wg (n:=n) (by (clear o4 b4 a4 p4 n8 e8 h8 we m2 n5 e5 h5 h2 b1 a1 p1 o3 k2 p3 o2 k1 p2 o1 okh okn hs; omega):n<s4.length) o4 okn okh
    have wv:=M8 a4 b4
    simp [iu,jc,sIf,jk,lg,jj,jo,sNx,dg,sGo,bh,jt,cg,cu,j5,gj,m7,m8,mOr,j7,mIf,mOp,mUn,cj,jg,ak,iy,aq,j8,dw,bw,gq,jw,fj,jm,ltT,leT,lq,jr,ju,kj,j6,mj,mq,j4,iw,au,kh,p1,p2,qy,M8 (v:=1) (by decide) (by decide),p3,p4,wv,p5]
    refine .of ⟨J5 v [.no (J5 1 [x1,x2]),x3],by simp [yj,K8,Lx],Fy (d:=2) (by simp) ?_,o5,by (clear wv o5 k3 p5 o4 b4 a4 p4 n8 e8 h8 we m2 n5 e5 h5 h2 b1 a1 p1 o3 k2 p3 o2 k1 p2 o1 okh okn hs hn; omega)⟩
    intro r hr
    simp only [List.mem_cons,List.not_mem_nil,or_false] at hr
    rcases hr with rfl | rfl
    · refine .no (Fy (d:=0) (by simp) ?_)
      intro r hr
      simp only [List.mem_cons,List.not_mem_nil,or_false] at hr
      rcases hr with rfl | rfl
      · exact k1
      · exact k2
    · exact k3.up.up
  have n9:(w==9)=false:=beq_eq_false_iff_ne.mpr e9
  have e10:w=10:=by (clear n9 n8 we m2 l3 o3 k2 p3 n5 e5 h5 l2 o2 k1 p2 h2 l1 o1 a1 p1 okh okn hs hn; omega)
  subst e10
  obtain ⟨m,s4,p4,a4,b4,o4,l4⟩:=Bv (n:=n) (many:=3) (by (clear n9 e9 n8 e8 h8 we m2 n5 e5 h5 h2 b1 a1 p1 o3 k2 p3 o2 k1 p2 o1 okh okn hs; omega):n<s3.length) o3 (by (clear n9 e9 n8 e8 h8 we m2 n5 e5 h5 h2 b1 a1 p1 l3 o3 k2 p3 l2 o2 k1 p2 l1 o1 okh okn hs hn; omega)) (by (clear n9 e9 n8 e8 h8 we m2 n5 e5 h5 h2 b1 a1 p1 l3 o3 k2 p3 l2 o2 k1 p2 l1 o1 okh okn hs hn; omega))
  have ml:(1+m).natAbs<lim:=by show _<1000000; (clear l4 o4 p4 n9 e9 n8 e8 h8 we m2 n5 e5 h5 h2 b1 a1 p1 l3 o3 k2 p3 l2 o2 k1 p2 l1 o1 okh okn hs hn; omega)
  obtain ⟨us,s5,ec,l,e1,e2,o5,l5,k5⟩:=Ga (g:=gq 0) (nv:=1) (ci:=[0,1,2]) (it:=fj (mOp jr (aq (.int 1)) (dw fu (ak (cj 0) (ak (aq (.int 3)) iy))))) (e:=dw su (ak (cj 1) (ak (cj 2) (ak (cj 3) iy))))
    (s:=⟨[some (.obj n,false),some (.lst (N.map T.str),false),some (.lst (H.map hT),false),some (.int 10,false),some (yj x1,false),some (.tup [.str (Wv 0),.tup [yj x1,yj x2]],false),none],s3⟩) rfl (El (1+m).toNat) ⟨[some (.obj n,false),some (.lst (N.map T.str),false),some (.lst (H.map hT),false),some (.int 10,false),some (yj x1,false),some (.tup [.str (Wv 0),.tup [yj x1,yj x2]],false),none],s4⟩
    [some (.obj n,false),some (.lst (N.map T.str),false),some (.lst (H.map hT),false),some (.int 10,false),some (yj x1,false),some (.tup [.str (Wv 0),.tup [yj x1,yj x2]],false),none] [some (.obj n,false),some (.lst (N.map T.str),false),some (.lst (H.map hT),false)]
    (fun ts acc st=>∃ l:List Rem,acc=l.map yj∧ts.length+l.length≤3∧StO st∧st.length=sto.length∧∀ r∈l,OkR N H 0 r)
    (by simp [iu,jc,sIf,jk,lg,jj,jo,sNx,dg,sGo,bh,jt,cg,cu,j5,gj,m7,m8,mOr,j7,mIf,mOp,mUn,cj,jg,ak,iy,aq,j8,dw,bw,gq,jw,fj,jm,ltT,leT,lq,jr,ju,kj,j6,mj,mq,j4,iw,au,kh,p4,ml]) rfl rfl rfl (by unfold El; rw [List.length_map,List.length_range]; show _≤1000000; (clear ml l4 o4 a4 p4 n9 e9 n8 e8 h8 we m2 n5 e5 h5 h2 b1 a1 p1 l3 o3 k2 p3 l2 o2 k1 p2 l1 o1 okh okn hs hn; omega)) ⟨[],rfl,by unfold El; rw [List.length_map,List.length_range]; simp only [List.length_nil]; (clear ml l4 o4 a4 p4 n9 e9 n8 e8 h8 we m2 n5 e5 h5 h2 b1 a1 p1 l3 o3 k2 p3 l2 o2 k1 p2 l1 o1 okh okn hs hn; omega),o4,(by show s4.length=sto.length; (clear ml o4 b4 a4 p4 n9 e9 n8 e8 h8 we m2 n5 e5 h5 h2 b1 a1 p1 o3 k2 p3 o2 k1 p2 o1 okh okn hs hn; omega)),fun r hr=>by cases hr⟩ (by
      rintro t q acc st ⟨l,e1,e2,e3,e4,e5⟩ pre hp
      obtain ⟨a,rfl⟩:∃ a,pre=[a]:=by
        match pre,hp with
        | [a],_=>exact ⟨a,rfl⟩
      simp only [List.length_cons] at e2
      obtain ⟨t5,s6,p6,x3,rfl,k3,o6,l6⟩:=Wg (n:=n) (by (clear hp e5 e3 e2 e1 ml l4 o4 b4 a4 p4 n9 e9 n8 e8 h8 we m2 n5 h5 h2 b1 a1 p1 l3 o3 k2 p3 l2 o2 k1 p2 l1 o1 okh okn hs; omega):n<st.length) e3 okn okh
      refine ⟨[some (t,false)],yj x3,s6,rfl,rfl,?_,l++[x3],by rw [e1]; simp,by rw [List.length_append,List.length_singleton]; (clear l6 o6 k3 p6 hp e5 e4 e3 e1 ml l4 o4 b4 a4 p4 n9 e9 n8 e8 h8 we m2 n5 h5 h2 b1 a1 p1 l3 o3 k2 p3 l2 o2 k1 p2 l1 o1 okh okn hs hn; omega),o6,by (clear o6 k3 p6 hp e5 e3 e2 e1 ml l4 o4 b4 a4 p4 n9 e9 n8 e8 h8 we m2 n5 h5 h2 b1 a1 p1 l3 o3 k2 p3 l2 o2 k1 p2 l1 o1 okh okn hs hn; omega),fun r hr=>?_⟩
      · simp [iu,jc,sIf,jk,lg,jj,jo,sNx,dg,sGo,bh,jt,cg,cu,j5,gj,m7,m8,mOr,j7,mIf,mOp,mUn,cj,jg,ak,iy,aq,j8,dw,bw,gq,jw,fj,jm,ltT,leT,lq,jr,ju,kj,j6,mj,mq,j4,iw,au,kh,p6]
      · rcases List.mem_append.mp hr with z | z
        · exact e5 r z
        · rw [List.mem_singleton] at z; subst z; exact k3)
  simp only [List.length_nil,Nat.zero_add] at e2
  subst e1
  obtain ⟨v,s7,p7,a7,b7,o7,l7⟩:=Bv (n:=n) (many:=2) (by (clear ec e2 k5 o5 ml l4 o4 b4 a4 p4 n9 e9 n8 e8 h8 we m2 n5 e5 h5 h2 b1 a1 p1 l3 o3 k2 p3 l2 o2 k1 p2 l1 o1 okh okn hs; omega):n<s5.length) o5 (by (clear ec e2 k5 l5 o5 ml l4 o4 b4 a4 p4 n9 e9 n8 e8 h8 we m2 n5 e5 h5 h2 b1 a1 p1 l3 o3 k2 p3 l2 o2 k1 p2 l1 o1 okh okn hs hn; omega)) (by (clear ec e2 k5 l5 o5 ml l4 o4 b4 a4 p4 n9 e9 n8 e8 h8 we m2 n5 e5 h5 h2 b1 a1 p1 l3 o3 k2 p3 l2 o2 k1 p2 l1 o1 okh okn hs hn; omega))
  have wv:=M8 a7 b7
  have l2l:l.length+2<lim:=by show _<1000000; (clear wv l7 o7 b7 a7 p7 ec k5 l5 o5 ml l4 o4 b4 a4 p4 n9 e9 n8 e8 h8 we m2 n5 e5 h5 h2 b1 a1 p1 l3 o3 k2 p3 l2 o2 k1 p2 l1 o1 okh okn hs hn; omega)
  simp [iu,jc,sIf,jk,lg,jj,jo,sNx,dg,sGo,bh,jt,cg,cu,j5,gj,m7,m8,mOr,j7,mIf,mOp,mUn,cj,jg,ak,iy,aq,j8,dw,bw,gq,jw,fj,jm,ltT,leT,lq,jr,ju,kj,j6,mj,mq,j4,iw,au,kh,p1,p2,qy,M8 (v:=0) (by decide) (by decide),p3,ec,Aj,p7,wv,Bp,l2l,Nat.add_comm]
  refine .of ⟨J5 v (x1::x2::l),by simp [K8,Lx,G3],(Fy (d:=0) (by simp; (clear l2l wv l7 o7 b7 a7 p7 ec k5 l5 o5 ml l4 o4 b4 a4 p4 n9 e9 n8 e8 h8 we m2 n5 e5 h5 h2 b1 a1 p1 l3 o3 k2 p3 l2 o2 k1 p2 l1 o1 okh okn hs hn; omega)) ?_).up.up,o7,by (clear l2l wv o7 b7 a7 p7 ec e2 k5 o5 ml l4 o4 b4 a4 p4 n9 e9 n8 e8 h8 we m2 n5 e5 h5 h2 b1 a1 p1 l3 o3 k2 p3 l2 o2 k1 p2 l1 o1 okh okn hs hn; omega)⟩
  intro r hr
  simp only [List.mem_cons] at hr
  rcases hr with rfl | rfl | hr
  · exact k1
  · exact k2
  · exact k5 r hr
end
end K
end
noncomputable section
set_option linter.all false
set_option maxRecDepth 100000
set_option autoImplicit false
namespace C
open PySem
theorem a0z {i:Nat} {e:M T} {s s1:Sta} {t:T} (h:e s=some (t,s1)):jk i e s=some (.next,bw i t false s1):=by unfold jk; rw [h]
theorem a9r {g:G} {it:M (List T)} {b:S} {s s1 s2:Sta} {ts:List T} (h:it s=some (ts,s1)) (hf:Fo g b ts s1=some (.next,s2)):jt g it b s=some (.next,s2):=by unfold jt; rw [h]; exact hf
theorem p1 (pre:List Slot) (h:pre.length=1):∃ a,pre=[a]:=by
  match pre,h with
  | [a],_=>exact ⟨a,rfl⟩
theorem p2 (pre:List Slot) (h:pre.length=2):∃ a b,pre=[a,b]:=by
  match pre,h with
  | [a,b],_=>exact ⟨a,b,rfl⟩
end C
namespace K
open C PySem
structure Bx where
  nm:Str
  lo:Int
  hi:Int
  st:Int
noncomputable def bxT (b:Bx):T:=.tup [.str b.nm,.str "",.int b.lo,.int b.hi,.int b.st]
noncomputable def aaq (b:Bx):Prop:=okN b.nm∧b.lo≤b.st∧b.st≤b.hi∧b.hi≤b.lo+2
noncomputable def BxO (c:Int) (L:Nat) (t:T) (st:List SO):Prop:=∃ l:List Bx,t=.lst (l.map bxT)∧l.length≤2∧(∀ b∈l,aaq b)∧l.map (·.nm)=(List.range l.length).map (fun (k:Nat)=>Dv c (k:Int))∧StO st∧st.length=L
noncomputable section
variable {n:Nat} {N:List Str} {H:List Hd} {sto:List SO}
theorem aar {c m:Int} (hn:n<sto.length) (hs:StO sto) (m0:0≤m) (m2:m<3):Out (Bj [.obj n,.int c,.int m] sto) (BxO c sto.length):=by
  have ml:m.natAbs<lim:=by show _<1000000; omega
  have c30:Vn (.int 10) (.int 30)=some (.int 1000000000000000000000000000000):=by simp [Vn]
  have bb:Mq 2=true:=by decide
  unfold Bj
  simp [iu,jc,sIf,jk,lg,jj,jo,sNx,dg,sGo,bh,jt,cg,cu,j5,gj,m7,m8,mOr,j7,mIf,mOp,mUn,cj,jg,ak,iy,aq,j8,dw,bw,gq,jw,fj,jm,ltT,leT,lq,jr,ju,kj,j6,mj,mq,j4,iw,au,kh,ml]
  generalize hF:Fo _ _ _ _=q
  obtain ⟨s',rfl,P⟩:=Ds hF (fun ts s=>∃ (l:List Bx) (r:Nat) (o4 o5 o6:Slot) (st:List SO),ts=(List.range' l.length r).map (fun (k:Nat)=>T.int (k:Int))∧l.map (·.nm)=(List.range l.length).map (fun (k:Nat)=>Dv c (k:Int))∧r+l.length≤2∧s=⟨[some (.obj n,false),some (.int c,false),some (.int m,false),some (.lst (l.map bxT),true),o4,o5,o6],st⟩∧StO st∧st.length=sto.length∧∀ b∈l,aaq b)
    ⟨[],m.toNat,none,none,none,sto,by unfold El; rw [List.range_eq_range']; rfl,rfl,by simp only [List.length_nil]; omega,rfl,hs,rfl,fun b hb=>by cases hb⟩ (by
      rintro t q s ⟨l,r,o4,o5,o6,st,e0,en,e1,rfl,e2,e3,e4⟩
      obtain ⟨r,rfl⟩:∃ j,r=j+1:=by
        cases r with
        | zero=>cases e0
        | succ j=>exact ⟨j,rfl⟩
      rw [List.range'_succ,List.map_cons] at e0
      injection e0 with e01 e02
      subst e01
      obtain ⟨k,hk⟩:∃ k:Int,(l.length:Int)=k:=⟨_,rfl⟩
      rw [hk]
      have ll:l.length<lim:=by show _<1000000; (clear hk e02 e4 e3 e2 en hF bb c30 ml m2 m0 hs hn; omega)
      obtain ⟨r1,s1,q1,a1,b1,w1,l1⟩:=Bv (n:=n) (many:=4) (by (clear ll hk e02 e1 e4 e2 en hF bb c30 ml m2 m0 hs; omega):n<st.length) e2 (by decide) (by decide)
      obtain ⟨r2,s2,q2,a2,b2,w2,l2⟩:=Bv (n:=n) (many:=9) (by (clear w1 b1 a1 q1 ll hk e02 e1 e4 e2 en hF bb c30 ml m2 m0 hs; omega):n<s1.length) w1 (by decide) (by decide)
      obtain ⟨lo,s3,w3,l3,h3⟩:∃ (lo:Int) (s3:List SO),StO s3∧s3.length=sto.length∧(jc (jk 5 (mOp ju (dw fu (ak (cj 0) (ak (aq (.int 4)) iy))) (aq (.int 2))))
          (sIf (gj (mOp eqO (dw fu (ak (cj 0) (ak (aq (.int 9)) iy))) (aq (.int 8))))
          (jk 5 (mOp ju (dw fu (ak (cj 0) (ak (mOp ju (mOp Mh (aq (.int 2)) (mOp Vn (aq (.int 10)) (aq (.int 30)))) (aq (.int 9))) iy))) (mOp Vn (aq (.int 10)) (aq (.int 30)))))
          jo):S) ⟨[some (.obj n,false),some (.int c,false),some (.int m,false),some (.lst (l.map bxT),true),some (.int k,false),o5,o6],st⟩=some (.next,⟨[some (.obj n,false),some (.int c,false),some (.int m,false),some (.lst (l.map bxT),true),some (.int k,false),some (.int lo,false),o6],s3⟩):=by
        by_cases h8:r2=8
        · obtain ⟨r3,s3,q3,a3,b3,w3,l3⟩:=Bv (n:=n) (many:=1999999999999999999999999999991) (by (clear h8 w2 b2 a2 q2 w1 b1 a1 q1 ll hk e02 e1 e4 e2 en hF bb c30 ml m2 m0 hs; omega):n<s2.length) w2 (by decide) (by decide)
          subst h8
          exact ⟨r3 - 1000000000000000000000000000000,s3,w3,by (clear b2 a2 q2 w3 b3 a3 q3 w2 w1 b1 a1 q1 ll hk e02 e1 e4 e2 en hF bb c30 ml m2 m0 hs hn; omega),by simp [iu,jc,sIf,jk,lg,jj,jo,sNx,dg,sGo,bh,jt,cg,cu,j5,gj,m7,m8,mOr,j7,mIf,mOp,mUn,cj,jg,ak,iy,aq,j8,dw,bw,gq,jw,fj,jm,ltT,leT,lq,jr,ju,kj,j6,mj,mq,j4,iw,au,kh,q1,q2,qy,c30,Mh,bb,q3]⟩
        · have hb:(r2==8)=false:=beq_eq_false_iff_ne.mpr h8
          exact ⟨r1 - 2,s2,w2,by (clear hb h8 w2 b2 a2 q2 w1 b1 a1 q1 ll hk e02 e1 e4 e2 en hF bb c30 ml m2 m0 hs hn; omega),by simp [iu,jc,sIf,jk,lg,jj,jo,sNx,dg,sGo,bh,jt,cg,cu,j5,gj,m7,m8,mOr,j7,mIf,mOp,mUn,cj,jg,ak,iy,aq,j8,dw,bw,gq,jw,fj,jm,ltT,leT,lq,jr,ju,kj,j6,mj,mq,j4,iw,au,kh,q1,q2,qy,hb]⟩
      obtain ⟨r4,s4,q4,a4,b4,w4,l4⟩:=Bv (n:=n) (many:=3) (by (clear h3 w3 l2 w2 b2 a2 q2 l1 w1 b1 a1 q1 ll hk e02 e1 e4 e3 e2 en hF bb c30 ml m2 m0 hs; omega):n<s3.length) w3 (by decide) (by decide)
      obtain ⟨q5,ox⟩:=name (c:=c) (k:=k) (sto:=s4)
      generalize hx:Dv c k=x at *
      obtain ⟨r6,s6,q6,a6,b6,w6,l6⟩:=Bv (n:=n) (many:=lo+r4 - lo+1) (by (clear ox q5 hx w4 b4 a4 q4 h3 w3 l2 w2 b2 a2 q2 l1 w1 b1 a1 q1 ll hk e02 e1 e4 e3 e2 en hF bb c30 ml m2 m0 hs; omega):n<s4.length) w4 (by (clear ox q5 hx l4 w4 b4 q4 h3 l3 w3 l2 w2 b2 a2 q2 l1 w1 b1 a1 q1 ll hk e02 e1 e4 e3 e2 en hF bb c30 ml m2 m0 hs hn; omega)) (by (clear ox q5 hx l4 w4 a4 q4 h3 l3 w3 l2 w2 b2 a2 q2 l1 w1 b1 a1 q1 ll hk e02 e1 e4 e3 e2 en hF bb c30 ml m2 m0 hs hn; omega))
      refine ⟨_,⟨[some (.obj n,false),some (.int c,false),some (.int m,false),some (.lst ((l++[Bx.mk x lo (lo+r4) (lo+r6)]).map bxT),true),some (.int k,false),some (.int lo,false),some (.int (lo+r4),false)],s6⟩,rfl,?_,l++[⟨x,lo,lo+r4,lo+r6⟩],r,_,_,_,s6,by rw [List.length_append,List.length_singleton]; exact e02,by rw [List.map_append,en,List.length_append,List.length_singleton,List.range_succ,List.map_append,← hx,← hk]; rfl,by rw [List.length_append,List.length_singleton]; (clear l6 w6 b6 a6 q6 ox q5 hx l4 w4 b4 a4 q4 h3 l3 w3 l2 w2 b2 a2 q2 l1 w1 b1 a1 q1 ll hk e02 e4 e3 e2 en hF bb c30 ml m2 m0 hs hn; omega),rfl,w6,by (clear w6 b6 a6 q6 ox q5 hx w4 b4 a4 q4 h3 w3 l2 w2 b2 a2 q2 l1 w1 b1 a1 q1 ll hk e02 e1 e4 e3 e2 en hF bb c30 ml m2 m0 hs hn; omega),fun b hb=>?_⟩
      · show (jc _ (jc _ _):S) ⟨[some (.obj n,false),some (.int c,false),some (.int m,false),some (.lst (l.map bxT),true),some (.int k,false),o5,o6],st⟩=_
        rw [Vx h3]
        simp [iu,jc,sIf,jk,lg,jj,jo,sNx,dg,sGo,bh,jt,cg,cu,j5,gj,m7,m8,mOr,j7,mIf,mOp,mUn,cj,jg,ak,iy,aq,j8,dw,bw,gq,jw,fj,jm,ltT,leT,lq,jr,ju,kj,j6,mj,mq,j4,iw,au,kh,q4,q5,q6,ll,bxT]
      · rcases List.mem_append.mp hb with z | z
        · exact e4 b z
        · rw [List.mem_singleton] at z; subst z; exact ⟨ox,by show lo≤lo+r6; (clear hb l6 w6 b6 q6 ox q5 hx l4 w4 b4 a4 q4 h3 l3 w3 l2 w2 b2 a2 q2 l1 w1 b1 a1 q1 ll hk e02 e1 e4 e3 e2 en hF bb c30 ml m2 m0 hs hn; omega),by show lo+r6≤lo+r4; (clear hb l6 w6 a6 q6 ox q5 hx l4 w4 b4 a4 q4 h3 l3 w3 l2 w2 b2 a2 q2 l1 w1 b1 a1 q1 ll hk e02 e1 e4 e3 e2 en hF bb c30 ml m2 m0 hs hn; omega),by show lo+r4≤lo+2; (clear hb l6 w6 b6 a6 q6 ox q5 hx l4 w4 a4 q4 h3 l3 w3 l2 w2 b2 a2 q2 l1 w1 b1 a1 q1 ll hk e02 e1 e4 e3 e2 en hF bb c30 ml m2 m0 hs hn; omega)⟩)
  obtain ⟨l,r,o4,o5,o6,st,e0,en,e1,rfl,e2,e3,e4⟩:=P
  exact .of ⟨l,rfl,by (clear e4 e3 e2 hF en e0 bb c30 ml m2 m0 hs hn; omega),e4,en,e2,e3⟩
structure Sp where
  hand:Str
  here:Int
  guard:Rem
  sets:List (Str × Sm)
  there:Int
noncomputable def seT (p:Str × Sm):T:=.tup [.str p.1,smT p.2]
noncomputable def spT (s:Sp):T:=.tup [.str s.hand,.int s.here,yj s.guard,.tup (s.sets.map seT),.int s.there]
structure OkP (N:List Str) (H:List Hd) (s:Sp):Prop where
  hd:okN s.hand
  mem:s.hand∈H.map (·.1)
  gd:OkR N H 3 s.guard
  len:s.sets.length≤2
  set:∀ p∈s.sets,p.1∈N∧a5c N p.2
noncomputable def SpO (N:List Str) (H:List Hd) (L:Nat) (t:T) (st:List SO):Prop:=∃ s,t=spT s∧OkP N H s∧StO st∧st.length=L
theorem step (hn:n<sto.length) (hs:StO sto) (okn:Oz N) (okh:Y9 H):Out (Bo [.obj n,.lst (N.map T.str),.lst (H.map hT)] sto) (SpO N H sto.length):=by
  obtain ⟨hl1,hl2,hok⟩:=okh
  obtain ⟨r2,s2,q2,a2,b2,o2,l2⟩:=Bv (n:=n) (many:=(H.length:Int)) hn hs (by omega) (by omega)
  obtain ⟨h,hm,hi⟩:=Q5 hT H a2 b2
  obtain ⟨k1,k2,k3⟩:=hok h hm
  obtain ⟨r3,s3,q3,a3,b3,o3,l3⟩:=Bv (n:=n) (many:=h.2) (by (clear k3 k2 k1 hi hm o2 b2 a2 q2 hok hl2 hl1 okn hs; omega):n<s2.length) o2 (by (clear k3 k1 hi hm l2 o2 b2 a2 q2 hok hl2 hl1 okn hs hn; omega)) (by (clear k2 k1 hi hm l2 o2 b2 a2 q2 hok hl2 hl1 okn hs hn; omega))
  obtain ⟨r4,s4,q4,a4,b4,o4,l4⟩:=Bv (n:=n) (many:=h.2) (by (clear o3 b3 a3 q3 k3 k2 k1 hi hm o2 b2 a2 q2 hok hl2 hl1 okn hs; omega):n<s3.length) o3 (by (clear l3 o3 q3 k3 k2 k1 hi hm l2 o2 b2 a2 q2 hok hl2 hl1 okn hs hn; omega)) (by (clear l3 o3 b3 a3 q3 k2 k1 hi hm l2 o2 b2 a2 q2 hok hl2 hl1 okn hs hn; omega))
  obtain ⟨t5,s5,q5,g,rfl,kg,o5,l5⟩:=remark (n:=n) (by (clear o4 b4 a4 q4 o3 b3 a3 q3 k3 k2 k1 hi hm o2 b2 a2 q2 hok hl2 hl1 okn hs; omega):n<s4.length) o4 okn ⟨hl1,hl2,hok⟩
  have hN:(Bg N).length=N.length:=Iw
  have h2:=okn.1
  have nn:(Bg N).length<lim:=by show _<1000000; (clear l5 o5 kg q5 l4 o4 b4 a4 q4 l3 o3 b3 a3 q3 k3 k2 k1 hi hm l2 o2 b2 a2 q2 hok hl2 hl1 okn hs hn; omega)
  have so:=sorted_strs (l:=N) (by (clear nn hN l5 o5 kg q5 l4 o4 b4 a4 q4 l3 o3 b3 a3 q3 k3 k2 k1 hi hm l2 o2 b2 a2 q2 hok hl2 hl1 okn hs hn; omega))
  unfold Bo
  simp [iu,jc,sIf,jk,lg,jj,jo,sNx,dg,sGo,bh,jt,cg,cu,j5,gj,m7,m8,mOr,j7,mIf,mOp,mUn,cj,jg,ak,iy,aq,j8,dw,bw,gq,jw,fj,jm,ltT,leT,lq,jr,ju,kj,j6,mj,mq,j4,iw,au,kh,q2,hi,hT,q3,q4,q5,so,nn]
  generalize hF:Fo _ _ _ _=q
  obtain ⟨s',rfl,P⟩:=Ds hF (fun ts s=>∃ (m:List Str) (l:List (Str × Sm)) (o9 o10:Slot) (st:List SO),ts=m.map T.str∧(∀ x∈m,x∈N)∧m.length+l.length≤2∧s=⟨[some (.obj n,false),some (.lst (N.map T.str),false),some (.lst (H.map hT),false),some (.str h.1,false),some (.int h.2,false),some (.int r3,false),some (.int r4,false),some (yj g,false),some (.lst (l.map seT),true),o9,o10],st⟩∧StO st∧st.length=sto.length∧∀ p∈l,p.1∈N∧a5c N p.2)
    ⟨Bg N,[],none,none,s5,rfl,fun x hx=>Lh hx,by simp only [List.length_nil]; (clear hF so nn l5 o5 kg q5 l4 o4 b4 a4 q4 l3 o3 b3 a3 q3 k3 k2 k1 hi hm l2 o2 b2 a2 q2 hok hl2 hl1 okn hs hn; omega),rfl,o5,by (clear hF so nn h2 hN o5 kg q5 o4 b4 a4 q4 o3 b3 a3 q3 k3 k2 k1 hi hm o2 b2 a2 q2 hok hl2 hl1 okn hs hn; omega),fun p hp=>by cases hp⟩ (by
      rintro t q s ⟨m,l,o9,o10,st,e1,e2,e3,rfl,e4,e5,e6⟩
      cases m with
      | nil=>cases e1
      | cons x m =>
        cases e1
        have xN:=e2 x List.mem_cons_self
        simp only [List.length_cons] at e3
        have ll:l.length<lim:=by show _<1000000; (clear xN e2 e6 e5 e4 hF so nn h2 hN l5 o5 kg q5 l4 o4 b4 a4 q4 l3 o3 b3 a3 q3 k3 k2 k1 hi hm l2 o2 b2 a2 q2 hok hl2 hl1 okn hs hn; omega)
        obtain ⟨w,t1,q1,c1,d1,w1,m1⟩:=Bv (n:=n) (many:=5) (by (clear ll xN e3 e2 e6 e4 hF so nn h2 hN l5 o5 kg q5 l4 o4 b4 a4 q4 l3 o3 b3 a3 q3 k3 k2 k1 hi hm l2 o2 b2 a2 q2 hok hl2 hl1 okn hs; omega):n<st.length) e4 (by decide) (by decide)
        by_cases h0:w=0
        · subst h0
          obtain ⟨t2,s2,q2,y,rfl,ok,w2,m2⟩:=sum (n:=n) (by (clear d1 c1 q1 w1 ll xN e3 e2 e6 e4 hF so nn h2 hN l5 o5 kg q5 l4 o4 b4 a4 q4 l3 o3 b3 a3 q3 k3 k2 k1 hi hm l2 o2 b2 a2 q2 hok hl2 hl1 okn hs; omega):n<t1.length) w1 okn
          refine ⟨_,⟨[some (.obj n,false),some (.lst (N.map T.str),false),some (.lst (H.map hT),false),some (.str h.1,false),some (.int h.2,false),some (.int r3,false),some (.int r4,false),some (yj g,false),some (.lst ((l++[(x,y)]).map seT),true),some (.str x,false),some (.int 0,false)],s2⟩,rfl,?_,m,l++[(x,y)],_,_,s2,rfl,fun z hz=>e2 z (List.mem_cons_of_mem _ hz),by rw [List.length_append,List.length_singleton]; (clear m2 w2 ok q2 d1 c1 q1 m1 w1 ll xN e2 e6 e5 e4 hF so nn h2 hN l5 o5 kg q5 l4 o4 b4 a4 q4 l3 o3 b3 a3 q3 k3 k2 k1 hi hm l2 o2 b2 a2 hok hl2 hl1 okn hs hn; omega),rfl,w2,by (clear w2 ok q2 d1 c1 q1 w1 ll xN e3 e2 e6 e4 hF so nn h2 hN l5 o5 kg q5 l4 o4 b4 a4 q4 l3 o3 b3 a3 q3 k3 k2 k1 hi hm l2 o2 b2 a2 hok hl2 hl1 okn hs hn; omega),fun p hp=>?_⟩
          · simp [iu,jc,sIf,jk,lg,jj,jo,sNx,dg,sGo,bh,jt,cg,cu,j5,gj,m7,m8,mOr,j7,mIf,mOp,mUn,cj,jg,ak,iy,aq,j8,dw,bw,gq,jw,fj,jm,ltT,leT,lq,jr,ju,kj,j6,mj,mq,j4,iw,au,kh,q1,qy,q2,ll,seT]
          · rcases List.mem_append.mp hp with z | z
            · exact e6 p z
            · rw [List.mem_singleton] at z; subst z; exact ⟨xN,ok⟩
        · have b0:(w==0)=false:=beq_eq_false_iff_ne.mpr h0
          by_cases h1:w=1
          · subst h1
            obtain ⟨v,s2,q2,a2,b2,w2,m2⟩:=Bv (n:=n) (many:=3) (by (clear b0 h0 d1 c1 q1 w1 ll xN e3 e2 e6 e4 hF so nn h2 hN l5 o5 kg q5 l4 o4 b4 a4 q4 l3 o3 b3 a3 q3 k3 k2 k1 hi hm l2 o2 b2 a2 q2 hok hl2 hl1 okn hs; omega):n<t1.length) w1 (by decide) (by decide)
            refine ⟨_,⟨[some (.obj n,false),some (.lst (N.map T.str),false),some (.lst (H.map hT),false),some (.str h.1,false),some (.int h.2,false),some (.int r3,false),some (.int r4,false),some (yj g,false),some (.lst ((l++[(x,(v - 1,[(x,1)]))]).map seT),true),some (.str x,false),some (.int 1,false)],s2⟩,rfl,?_,m,l++[(x,(v - 1,[(x,1)]))],_,_,s2,rfl,fun z hz=>e2 z (List.mem_cons_of_mem _ hz),by rw [List.length_append,List.length_singleton]; (clear m2 w2 b2 a2 q2 b0 h0 d1 c1 q1 m1 w1 ll xN e2 e6 e5 e4 hF so nn h2 hN l5 o5 kg q5 l4 o4 b4 a4 q4 l3 o3 b3 a3 q3 k3 k2 k1 hi hm l2 o2 hok hl2 hl1 okn hs hn; omega),rfl,w2,by (clear w2 b2 a2 q2 b0 h0 d1 c1 q1 w1 ll xN e3 e2 e6 e4 hF so nn h2 hN l5 o5 kg q5 l4 o4 b4 a4 q4 l3 o3 b3 a3 q3 k3 k2 k1 hi hm l2 o2 hok hl2 hl1 okn hs hn; omega),fun p hp=>?_⟩
            · simp [iu,jc,sIf,jk,lg,jj,jo,sNx,dg,sGo,bh,jt,cg,cu,j5,gj,m7,m8,mOr,j7,mIf,mOp,mUn,cj,jg,ak,iy,aq,j8,dw,bw,gq,jw,fj,jm,ltT,leT,lq,jr,ju,kj,j6,mj,mq,j4,iw,au,kh,q1,qy,q2,ll,seT,smT,pT]
            · rcases List.mem_append.mp hp with z | z
              · exact e6 p z
              · rw [List.mem_singleton] at z; subst z
                refine ⟨xN,List.length_pos_of_mem xN,fun p hp=>?_⟩
                simp only [List.mem_singleton] at hp
                subst hp
                exact ⟨xN,by show (-4:Int)<1; decide,by show (1:Int)<4; decide⟩
          · have b1:(w==1)=false:=beq_eq_false_iff_ne.mpr h1
            refine ⟨_,⟨[some (.obj n,false),some (.lst (N.map T.str),false),some (.lst (H.map hT),false),some (.str h.1,false),some (.int h.2,false),some (.int r3,false),some (.int r4,false),some (yj g,false),some (.lst (l.map seT),true),some (.str x,false),some (.int w,false)],t1⟩,rfl,?_,m,l,_,_,t1,rfl,fun z hz=>e2 z (List.mem_cons_of_mem _ hz),by (clear b1 h1 b0 h0 m1 w1 d1 c1 q1 ll xN e2 e6 e5 e4 hF so nn h2 hN l5 o5 kg q5 l4 o4 b4 a4 q4 l3 o3 b3 a3 q3 k3 k2 k1 hi hm l2 o2 b2 a2 q2 hok hl2 hl1 okn hs hn; omega),rfl,w1,by (clear b1 h1 b0 h0 w1 d1 c1 q1 ll xN e3 e2 e6 e4 hF so nn h2 hN l5 o5 kg q5 l4 o4 b4 a4 q4 l3 o3 b3 a3 q3 k3 k2 k1 hi hm l2 o2 b2 a2 q2 hok hl2 hl1 okn hs hn; omega),e6⟩
            simp [iu,jc,sIf,jk,lg,jj,jo,sNx,dg,sGo,bh,jt,cg,cu,j5,gj,m7,m8,mOr,j7,mIf,mOp,mUn,cj,jg,ak,iy,aq,j8,dw,bw,gq,jw,fj,jm,ltT,leT,lq,jr,ju,kj,j6,mj,mq,j4,iw,au,kh,q1,qy,b0,b1])
  obtain ⟨m,l,o9,o10,st,e1,e2,e3,rfl,e4,e5,e6⟩:=P
  simp [iu,jc,sIf,jk,lg,jj,jo,sNx,dg,sGo,bh,jt,cg,cu,j5,gj,m7,m8,mOr,j7,mIf,mOp,mUn,cj,jg,ak,iy,aq,j8,dw,bw,gq,jw,fj,jm,ltT,leT,lq,jr,ju,kj,j6,mj,mq,j4,iw,au,kh,Aj]
  exact .of ⟨⟨h.1,r3,g,l,r4⟩,rfl,⟨k1,List.mem_map.mpr ⟨h,hm,rfl⟩,kg,by show l.length≤2; (clear e6 e5 e4 hF e2 e1 so nn h2 hN l5 o5 kg q5 l4 o4 b4 a4 q4 l3 o3 b3 a3 q3 k3 k2 k1 hi hm l2 o2 b2 a2 q2 hok hl2 hl1 okn hs hn; omega),e6⟩,e4,e5⟩
noncomputable def prT (bs:List Bx) (H:List Hd) (ss:List Sp):T:=.tup [.lst (bs.map bxT),.lst (H.map hT),.lst (ss.map spT),.tup []]
structure Pj (bs:List Bx) (H:List Hd) (ss:List Sp):Prop where
  ndB:(bs.map (·.nm)).Nodup
  ndH:(H.map (·.1)).Nodup
  ns:Oz (bs.map (·.nm))
  bx:∀ b∈bs,aaq b
  hs:Y9 H
  ss:∀ s∈ss,OkP (bs.map (·.nm)) H s
noncomputable def PrO (k:Nat) (t:T) (st:List SO):Prop:=∃ bs H ss,t=prT bs H ss∧Pj bs H ss∧ss.length≤k∧StO st
theorem StO.add {sto:List SO} (h:StO sto) {so:SO} (hs:aad so):StO (sto++[so]):=fun x hx=>by
  rcases List.mem_append.mp hx with z | z
  · exact h x z
  · rw [List.mem_singleton] at z; subst z; exact hs
theorem a6a {m:Int} (h0:0<m) (h1:m<4):∃ p:Int,iz (.lst [.int 4,.int 4,.int 2]) (.int (m - 1))=some (.int p)∧1≤p∧p≤4:=by
  have:m=1∨m=2∨m=3:=by omega
  rcases this with rfl | rfl | rfl
  · exact ⟨4,rfl,by decide,by decide⟩
  · exact ⟨4,rfl,by decide,by decide⟩
  · exact ⟨2,rfl,by decide,by decide⟩
theorem program {cs:List Int} {k:Nat} (hc:cs.length≤63):Out (Ba [scr cs,.int (k:Int)] []) (PrO 63):=by
  have c0e:=a0i (cs:=cs) (k:=0) (i:=0) (sto:=[]) rfl
  have c1e:=a0i (cs:=cs) (k:=1) (i:=1) (sto:=[]) rfl
  have c2e:=a0i (cs:=cs) (k:=2) (i:=2) (sto:=[]) rfl
  generalize cell cs 0=c0 at *
  generalize cell cs 1=c at *
  generalize cell cs 2=c2 at *
  obtain ⟨w,ew⟩:∃ w:Int,c0 / 5%2=w:=⟨_,rfl⟩
  have s0:StO [.lst [.int c2,.int w]]:=fun x hx=>by rw [List.mem_singleton] at hx; subst hx; exact .inl ⟨_,_,rfl⟩
  obtain ⟨r5,s5,q5,a5,b5,o5,l5⟩:=Bv (n:=0) (many:=3) (by simp) s0 (by decide) (by decide)
  have l5':s5.length=1:=l5
  have hm:(1+r5).natAbs<lim:=by show _<1000000; omega
  unfold Ba iu
  rw [show ([scr cs,T.int (k:Int)].map (fun t=>some (t,false))++List.replicate (11 - [scr cs,T.int (k:Int)].length) none:List Slot)=[some (scr cs,false),some (.int (k:Int),false),none,none,none,none,none,none,none,none,none] from rfl]
  rw [nq (s':=⟨[some (scr cs,false),some (.int (k:Int),false),some (.int w,false),none,none,none,none,none,none,none,none],[]⟩) (by simp [iu,jc,sIf,jk,lg,jj,jo,sNx,dg,sGo,bh,jt,cg,cu,j5,gj,m7,m8,mOr,j7,mIf,mOp,mUn,cj,jg,ak,iy,aq,j8,dw,bw,gq,jw,fj,jm,ltT,leT,lq,jr,ju,kj,j6,mj,mq,j4,iw,au,kh,c0e,ew])]
  rw [nq (s':=⟨[some (scr cs,false),some (.int (k:Int),false),some (.int w,false),some (.int c,false),none,none,none,none,none,none,none],[]⟩) (by simp [iu,jc,sIf,jk,lg,jj,jo,sNx,dg,sGo,bh,jt,cg,cu,j5,gj,m7,m8,mOr,j7,mIf,mOp,mUn,cj,jg,ak,iy,aq,j8,dw,bw,gq,jw,fj,jm,ltT,leT,lq,jr,ju,kj,j6,mj,mq,j4,iw,au,kh,c1e])]
  rw [nq (s':=⟨[some (scr cs,false),some (.int (k:Int),false),some (.int w,false),some (.int c,false),some (.obj 0,false),none,none,none,none,none,none],[.lst [.int c2,.int w]]⟩) (by simp [iu,jc,sIf,jk,lg,jj,jo,sNx,dg,sGo,bh,jt,cg,cu,j5,gj,m7,m8,mOr,j7,mIf,mOp,mUn,cj,jg,ak,iy,aq,j8,dw,bw,gq,jw,fj,jm,ltT,leT,lq,jr,ju,kj,j6,mj,mq,j4,iw,au,kh,c2e,Eo])]
  rw [nq (s':=⟨[some (scr cs,false),some (.int (k:Int),false),some (.int w,false),some (.int c,false),some (.obj 0,false),some (.int (1+r5),false),none,none,none,none,none],s5⟩) (by simp [iu,jc,sIf,jk,lg,jj,jo,sNx,dg,sGo,bh,jt,cg,cu,j5,gj,m7,m8,mOr,j7,mIf,mOp,mUn,cj,jg,ak,iy,aq,j8,dw,bw,gq,jw,fj,jm,ltT,leT,lq,jr,ju,kj,j6,mj,mq,j4,iw,au,kh,q5])]
  rw [nq (s':=⟨[some (scr cs,false),some (.int (k:Int),false),some (.int w,false),some (.int c,false),some (.obj 0,false),some (.int (1+r5),false),some (.lst [],true),none,none,none,none],s5⟩) rfl]
  obtain ⟨H,o7,s7,okH,ndH,o7s,l7,e7⟩:∃ (H:List Hd) (o7:Slot) (s7:List SO),Y9 H∧(H.map (·.1)).Nodup∧StO s7∧s7.length=1∧jt (gq 7) (fj (cj 5))
      (cg 6 (jg (fun l=>some (.tup l)) (ak (dw vq (ak (cj 3) (ak (mOp jr (aq (.int 5)) (cj 7)) iy))) (ak (mOp jr (aq (.int 1)) (dw fu (ak (cj 4) (ak (mOp iz (jg (fun l=>some (.lst l)) (ak (aq (.int 4)) (ak (aq (.int 4)) (ak (aq (.int 2)) iy)))) (mOp ju (cj 5) (aq (.int 1)))) iy)))) iy))))
      ⟨[some (scr cs,false),some (.int (k:Int),false),some (.int w,false),some (.int c,false),some (.obj 0,false),some (.int (1+r5),false),some (.lst [],true),none,none,none,none],s5⟩=some (.next,⟨[some (scr cs,false),some (.int (k:Int),false),some (.int w,false),some (.int c,false),some (.obj 0,false),some (.int (1+r5),false),some (.lst (H.map hT),true),o7,none,none,none],s7⟩):=by
    obtain ⟨mx,em,m1,m4⟩:=a6a (m:=1+r5) (by (clear hm l5' l5 o5 b5 q5 s0 ew c2e c1e c0e hc; omega)) (by (clear hm l5' l5 o5 a5 q5 s0 ew c2e c1e c0e hc; omega))
    have it:fj (cj 5) ⟨[some (scr cs,false),some (.int (k:Int),false),some (.int w,false),some (.int c,false),some (.obj 0,false),some (.int (1+r5),false),some (.lst [],true),none,none,none,none],s5⟩=some (El (1+r5).toNat,⟨[some (scr cs,false),some (.int (k:Int),false),some (.int w,false),some (.int c,false),some (.obj 0,false),some (.int (1+r5),false),some (.lst [],true),none,none,none,none],s5⟩):=by simp [iu,jc,sIf,jk,lg,jj,jo,sNx,dg,sGo,bh,jt,cg,cu,j5,gj,m7,m8,mOr,j7,mIf,mOp,mUn,cj,jg,ak,iy,aq,j8,dw,bw,gq,jw,fj,jm,ltT,leT,lq,jr,ju,kj,j6,mj,mq,j4,iw,au,kh,hm]
    unfold jt
    rw [it]
    dsimp only
    generalize hF:Fo _ _ _ _=q
    obtain ⟨s',rfl,P⟩:=Ds hF (fun ts s=>∃ (H:List Hd) (r:Nat) (o7:Slot) (st:List SO),ts=(List.range' H.length r).map (fun (k:Nat)=>T.int (k:Int))∧H.map (·.1)=(List.range H.length).map (fun (k:Nat)=>Dv c (((5:Nat):Int)+(k:Int)))∧r+H.length=(1+r5).toNat∧s=⟨[some (scr cs,false),some (.int (k:Int),false),some (.int w,false),some (.int c,false),some (.obj 0,false),some (.int (1+r5),false),some (.lst (H.map hT),true),o7,none,none,none],st⟩∧StO st∧st.length=1∧∀ h∈H,okN h.1∧1≤h.2∧h.2≤4)
      ⟨[],(1+r5).toNat,none,s5,by unfold El; rw [List.range_eq_range']; rfl,rfl,rfl,rfl,o5,l5',fun b hb=>by cases hb⟩ (by
        rintro t q s ⟨H,r,o7,st,e0,en,e1,rfl,e2,e3,e4⟩
        obtain ⟨r,rfl⟩:∃ j,r=j+1:=by
          cases r with
          | zero=>cases e0
          | succ j=>exact ⟨j,rfl⟩
        rw [List.range'_succ,List.map_cons] at e0
        injection e0 with e01 e02
        subst e01
        obtain ⟨kk,hk⟩:∃ k:Int,(H.length:Int)=k:=⟨_,rfl⟩
        rw [hk]
        have ll:H.length<lim:=by show _<1000000; (clear hk e02 e4 e3 e2 en hF it m4 m1 em hm l5' l5 o5 a5 q5 s0 ew c2e c1e c0e hc; omega)
        obtain ⟨qx,ox⟩:=name (c:=c) (k:=5+kk) (sto:=st)
        generalize hx:Dv c (5+kk)=x at *
        obtain ⟨rr,s1,q1,a1,b1,w1,l1⟩:=Bv (n:=0) (many:=mx) (by (clear ox qx hx ll hk e02 e1 e4 e2 en hF it m4 m1 em hm l5' l5 o5 b5 a5 q5 s0 ew c2e c1e c0e hc; omega):0<st.length) e2 (by (clear ox qx hx ll hk e02 e1 e4 e3 e2 en hF it m4 em hm l5' l5 o5 b5 a5 q5 s0 ew c2e c1e c0e hc; omega)) (by (clear ox qx hx ll hk e02 e1 e4 e3 e2 en hF it m1 em hm l5' l5 o5 b5 a5 q5 s0 ew c2e c1e c0e hc; omega))
        refine ⟨_,⟨[some (scr cs,false),some (.int (k:Int),false),some (.int w,false),some (.int c,false),some (.obj 0,false),some (.int (1+r5),false),some (.lst ((H++[(x,1+rr)]).map hT),true),some (.int kk,false),none,none,none],s1⟩,rfl,?_,H++[(x,1+rr)],r,_,s1,by rw [List.length_append,List.length_singleton]; exact e02,by rw [List.map_append,en,List.length_append,List.length_singleton,List.range_succ,List.map_append,← hx,← hk]; rfl,by rw [List.length_append,List.length_singleton]; (clear l1 w1 b1 a1 q1 ox qx hx ll hk e02 e4 e3 e2 en hF it m4 m1 em hm l5' l5 o5 b5 a5 q5 s0 ew c2e c1e c0e hc; omega),rfl,w1,by (clear w1 b1 a1 q1 ox qx hx ll hk e02 e1 e4 e2 en hF it m4 m1 em hm l5' l5 o5 b5 a5 q5 s0 ew c2e c1e c0e hc; omega),fun h hh=>?_⟩
        · simp [iu,jc,sIf,jk,lg,jj,jo,sNx,dg,sGo,bh,jt,cg,cu,j5,gj,m7,m8,mOr,j7,mIf,mOp,mUn,cj,jg,ak,iy,aq,j8,dw,bw,gq,jw,fj,jm,ltT,leT,lq,jr,ju,kj,j6,mj,mq,j4,iw,au,kh,qx,em,q1,ll,hT]
        · rcases List.mem_append.mp hh with z | z
          · exact e4 h z
          · rw [List.mem_singleton] at z; subst z; exact ⟨ox,by show 1≤1+rr; (clear hh l1 w1 b1 q1 ox qx hx ll hk e02 e1 e4 e3 e2 en hF it m4 m1 em hm l5' l5 o5 b5 a5 q5 s0 ew c2e c1e c0e hc; omega),by show 1+rr≤4; (clear hh l1 w1 a1 q1 ox qx hx ll hk e02 e1 e4 e3 e2 en hF it m1 em hm l5' l5 o5 b5 a5 q5 s0 ew c2e c1e c0e hc; omega)⟩)
    obtain ⟨H,r,o7,st,e0,en,e1,rfl,e2,e3,e4⟩:=P
    have r0:r=0:=by
      cases r with
      | zero=>rfl
      | succ j=>rw [List.range'_succ] at e0; cases e0
    exact ⟨H,o7,st,⟨by (clear e4 e3 e2 hF en e0 it m4 m1 em hm l5' l5 o5 b5 q5 s0 ew c2e c1e c0e hc; omega),by (clear r0 e4 e3 e2 hF en e0 it m4 m1 em hm l5' l5 o5 a5 q5 s0 ew c2e c1e c0e hc; omega),e4⟩,by rw [en]; exact W6 c 5 _ (by (clear r0 e4 e3 e2 hF en e0 it m4 m1 em hm l5' l5 o5 a5 q5 s0 ew c2e c1e c0e hc; omega)),e2,e3,rfl⟩
  rw [nq e7]
  obtain ⟨r8,s8,q8,a8,b8,w8,l8⟩:=Bv (n:=0) (many:=3) (by (clear e7 o7s ndH okH hm l5' l5 o5 b5 a5 q5 s0 ew c2e c1e c0e hc; omega):0<s7.length) o7s (by decide) (by decide)
  obtain ⟨t9,s9,q9,bs,rfl,bl,bok,bnm,w9,l9⟩:=aar (n:=0) (c:=c) (m:=r8) (by (clear w8 b8 a8 q8 e7 o7s ndH okH hm l5' l5 o5 b5 a5 q5 s0 ew c2e c1e c0e hc; omega):0<s8.length) w8 a8 b8
  have ndB:(bs.map (·.nm)).Nodup:=by
    rw [bnm]
    have:=W6 c 0 bs.length (by (clear l9 w9 bnm bok q9 l8 w8 b8 a8 q8 e7 l7 o7s ndH okH hm l5' l5 o5 b5 a5 q5 s0 ew c2e c1e c0e hc; omega))
    simpa using this
  rw [nq (s':=⟨[some (scr cs,false),some (.int (k:Int),false),some (.int w,false),some (.int c,false),some (.obj 0,false),some (.int (1+r5),false),some (.lst (H.map hT),true),o7,some (.lst (bs.map bxT),false),none,none],s9⟩) (by simp [iu,jc,sIf,jk,lg,jj,jo,sNx,dg,sGo,bh,jt,cg,cu,j5,gj,m7,m8,mOr,j7,mIf,mOp,mUn,cj,jg,ak,iy,aq,j8,dw,bw,gq,jw,fj,jm,ltT,leT,lq,jr,ju,kj,j6,mj,mq,j4,iw,au,kh,q8,q9])]
  clear bnm
  have bll:bs.length<lim:=by show _<1000000; (clear ndB l9 w9 bok q9 l8 w8 b8 a8 q8 e7 l7 o7s ndH okH hm l5' l5 o5 b5 a5 q5 s0 ew c2e c1e c0e hc; omega)
  have cb:=yt bxT (fun b=>T.str b.nm) bs (g:=gq 0) (nv:=1) (ci:=[]) (c:=iw) (it:=jm (cj 8)) (e:=mOp iz (cj 0) (aq (.int 0))) (s:=⟨[some (scr cs,false),some (.int (k:Int),false),some (.int w,false),some (.int c,false),some (.obj 0,false),some (.int (1+r5),false),some (.lst (H.map hT),true),o7,some (.lst (bs.map bxT),false),none,none],s9⟩) (s1:=⟨[some (scr cs,false),some (.int (k:Int),false),some (.int w,false),some (.int c,false),some (.obj 0,false),some (.int (1+r5),false),some (.lst (H.map hT),true),o7,some (.lst (bs.map bxT),false),none,none],s9⟩) [some (scr cs,false),some (.int (k:Int),false),some (.int w,false),some (.int c,false),some (.obj 0,false),some (.int (1+r5),false),some (.lst (H.map hT),true),o7,some (.lst (bs.map bxT),false),none,none] []
    (by simp [iu,jc,sIf,jk,lg,jj,jo,sNx,dg,sGo,bh,jt,cg,cu,j5,gj,m7,m8,mOr,j7,mIf,mOp,mUn,cj,jg,ak,iy,aq,j8,dw,bw,gq,jw,fj,jm,ltT,leT,lq,jr,ju,kj,j6,mj,mq,j4,iw,au,kh,bll]) rfl rfl rfl (Nat.le_of_lt bll) (by
      intro b hb pre hp
      obtain ⟨a,rfl⟩:=C.p1 pre hp
      exact ⟨[some (bxT b,false)],rfl,rfl,rfl,by simp [iu,jc,sIf,jk,lg,jj,jo,sNx,dg,sGo,bh,jt,cg,cu,j5,gj,m7,m8,mOr,j7,mIf,mOp,mUn,cj,jg,ak,iy,aq,j8,dw,bw,gq,jw,fj,jm,ltT,leT,lq,jr,ju,kj,j6,mj,mq,j4,iw,au,kh,bxT,zc]⟩)
  have en:bs.map (fun b=>T.str b.nm)=(bs.map (·.nm)).map T.str:=by rw [List.map_map]; rfl
  rw [en] at cb
  have okn:Oz (bs.map (·.nm)):=⟨by simpa using bl,fun x hx=>by obtain ⟨b,hb,rfl⟩:=List.mem_map.mp hx; exact (bok b hb).1⟩
  rw [nq (s':=⟨[some (scr cs,false),some (.int (k:Int),false),some (.int w,false),some (.int c,false),some (.obj 0,false),some (.int (1+r5),false),some (.lst (H.map hT),true),o7,some (.lst (bs.map bxT),false),some (.lst ((bs.map (·.nm)).map T.str),false),none],s9⟩) (a0z cb)]
  obtain ⟨m,hmm,cx⟩:∃ m:List Int,m.length≤63∧a2h (some 3) (some (3+(k:Int))) (scr cs)=some (.lst (m.map T.int)):=by
    refine ⟨(cs.drop (sIx cs.length 0 (some 3))).take (sIx cs.length cs.length (some (3+(k:Int))) - sIx cs.length 0 (some 3)),?_,?_⟩
    · rw [List.length_take,List.length_drop]; (clear okn en cb bll ndB l9 w9 bok bl q9 l8 w8 b8 a8 q8 e7 l7 o7s ndH okH hm l5' l5 o5 b5 a5 q5 s0 ew c2e c1e c0e; omega)
    · simp only [a2h,a82,List.length_map,← List.map_drop,← List.map_take]
  have mll:m.length<lim:=by show _<1000000; (clear cx okn en cb bll ndB l9 w9 bok bl q9 l8 w8 b8 a8 q8 e7 l7 o7s ndH okH hm l5' l5 o5 b5 a5 q5 s0 ew c2e c1e c0e hc; omega)
  generalize hN:bs.map (·.nm)=N at *
  obtain ⟨us,s10,ec,ss,e1,e2,w10,k10⟩:=Ga (g:=gq 0) (nv:=1) (ci:=[9,6,2]) (it:=jm (Ij (cj 0) (K1 (aq (.int 3))) (K1 (mOp jr (aq (.int 3)) (cj 1))))) (e:=dw Bo (ak (Eo (ak (cj 0) (ak (cj 3) iy))) (ak (cj 1) (ak (cj 2) iy))))
    (s:=⟨[some (scr cs,false),some (.int (k:Int),false),some (.int w,false),some (.int c,false),some (.obj 0,false),some (.int (1+r5),false),some (.lst (H.map hT),true),o7,some (.lst (bs.map bxT),false),some (.lst (N.map T.str),false),none],s9⟩) rfl (m.map T.int) ⟨[some (scr cs,false),some (.int (k:Int),false),some (.int w,false),some (.int c,false),some (.obj 0,false),some (.int (1+r5),false),some (.lst (H.map hT),true),o7,some (.lst (bs.map bxT),false),some (.lst (N.map T.str),false),none],s9⟩
    [some (scr cs,false),some (.int (k:Int),false),some (.int w,false),some (.int c,false),some (.obj 0,false),some (.int (1+r5),false),some (.lst (H.map hT),false),o7,some (.lst (bs.map bxT),false),some (.lst (N.map T.str),false),none] [some (.lst (N.map T.str),false),some (.lst (H.map hT),false),some (.int w,false)]
    (fun ts acc st=>∃ l:List Sp,acc=l.map spT∧ts.length+l.length≤63∧(∀ t∈ts,∃ i:Int,t=.int i)∧StO st∧∀ s∈l,OkP N H s)
    (by simp [iu,jc,sIf,jk,lg,jj,jo,sNx,dg,sGo,bh,jt,cg,cu,j5,gj,m7,m8,mOr,j7,mIf,mOp,mUn,cj,jg,ak,iy,aq,j8,dw,bw,gq,jw,fj,jm,ltT,leT,lq,jr,ju,kj,j6,mj,mq,j4,iw,au,kh,Ij,K1,cx,mll]) rfl rfl rfl (by rw [List.length_map]; exact Nat.le_of_lt mll) ⟨[],rfl,by rw [List.length_map]; exact hmm,fun t ht=>by obtain ⟨i,_,rfl⟩:=List.mem_map.mp ht; exact ⟨i,rfl⟩,w9,fun s hs=>by cases hs⟩ (by
      rintro t q acc st ⟨l,e1,e2,e0,e3,e4⟩ pre hp
      obtain ⟨a,rfl⟩:=C.p1 pre hp
      obtain ⟨i,rfl⟩:=e0 t List.mem_cons_self
      simp only [List.length_cons] at e2
      have hs':StO (st++[.lst [.int i,.int w]]):=e3.add (.inl ⟨_,_,rfl⟩)
      obtain ⟨t5,s6,p6,x,rfl,kx,o6,l6⟩:=step (n:=st.length) (by rw [List.length_append]; simp:st.length<(st++[SO.lst [.int i,.int w]]).length) hs' okn okH
      refine ⟨[some (.int i,false)],spT x,s6,rfl,rfl,?_,l++[x],by rw [e1]; simp,by rw [List.length_append,List.length_singleton]; (clear l6 o6 kx p6 hs' e0 hp e4 e3 e1 okn en cb ndB hN mll cx hmm bll l9 w9 bok bl q9 l8 w8 b8 a8 q8 e7 l7 o7s ndH okH hm l5' l5 o5 b5 a5 q5 s0 ew c2e c1e c0e hc; omega),fun t ht=>e0 t (List.mem_cons_of_mem _ ht),o6,fun r hr=>?_⟩
      · simp [iu,jc,sIf,jk,lg,jj,jo,sNx,dg,sGo,bh,jt,cg,cu,j5,gj,m7,m8,mOr,j7,mIf,mOp,mUn,cj,jg,ak,iy,aq,j8,dw,bw,gq,jw,fj,jm,ltT,leT,lq,jr,ju,kj,j6,mj,mq,j4,iw,au,kh,Eo,p6]
      · rcases List.mem_append.mp hr with z | z
        · exact e4 r z
        · rw [List.mem_singleton] at z; subst z; exact kx)
  simp only [List.length_nil,Nat.zero_add] at e2
  subst e1
  rw [nq (a0z ec)]
  simp [iu,jc,sIf,jk,lg,jj,jo,sNx,dg,sGo,bh,jt,cg,cu,j5,gj,m7,m8,mOr,j7,mIf,mOp,mUn,cj,jg,ak,iy,aq,j8,dw,bw,gq,jw,fj,jm,ltT,leT,lq,jr,ju,kj,j6,mj,mq,j4,iw,au,kh]
  subst hN
  exact .of ⟨bs,H,ss,rfl,⟨ndB,ndH,okn,bok,okH,k10.2⟩,e2,k10.1⟩
end
end K
end
noncomputable section
set_option linter.all false
set_option maxRecDepth 100000
set_option autoImplicit false
namespace K
open C PySem
theorem eqC {a b:Str} {c:Bool} (h:(PyData.canLay0 (.str a)&&PyData.canLay0 (.str b)&&((a==b)==c))=true):eqO (.str a) (.str b)=some (.bl c):=by
  simp only [Bool.and_eq_true,beq_iff_eq] at h
  rw [Yi h.1.1 h.1.2,h.2]
theorem neC {a b:Str} {c:Bool} (h:(PyData.canLay0 (.str a)&&PyData.canLay0 (.str b)&&((a==b) == !c))=true):neO (.str a) (.str b)=some (.bl c):=by
  simp only [Bool.and_eq_true,beq_iff_eq] at h
  rw [a6v h.1.1 h.1.2,h.2,Bool.not_not]
theorem inC {w a b:Str} {c:Bool} (h:(PyData.canLay0 (.str w)&&PyData.canLay0 (.str a)&&PyData.canLay0 (.str b)&&((a==w||b==w)==c))=true):inT (.str w) (.tup [.str a,.str b])=some (.bl c):=by
  simp only [Bool.and_eq_true,beq_iff_eq] at h
  obtain ⟨⟨⟨h1,h2⟩,h3⟩,h4⟩:=h -- here
  simp [inT,inL,eqD,dat,h1,h2,h3,PyData.depth,PyData.eqv,← h4]
theorem qe:eqO (.str "most") (.str "most")=some (.bl true):=eqC (by decide +kernel)
theorem qm:eqO (.str "most") (.str "rest")=some (.bl false):=eqC (by decide +kernel)
theorem wu:eqO (.str "most") (.str "at")=some (.bl false):=eqC (by decide +kernel)
theorem u9:eqO (.str "most") (.str "not")=some (.bl false):=eqC (by decide +kernel)
theorem uo:eqO (.str "most") (.str "and")=some (.bl false):=eqC (by decide +kernel)
theorem ql:eqO (.str "rest") (.str "most")=some (.bl false):=eqC (by decide +kernel)
theorem qj:eqO (.str "rest") (.str "rest")=some (.bl true):=eqC (by decide +kernel)
theorem wz:eqO (.str "rest") (.str "at")=some (.bl false):=eqC (by decide +kernel)
theorem ug:eqO (.str "rest") (.str "not")=some (.bl false):=eqC (by decide +kernel)
theorem uq:eqO (.str "rest") (.str "and")=some (.bl false):=eqC (by decide +kernel)
theorem wj:eqO (.str "at") (.str "most")=some (.bl false):=eqC (by decide +kernel)
theorem xq:eqO (.str "at") (.str "rest")=some (.bl false):=eqC (by decide +kernel)
theorem Bt:eqO (.str "at") (.str "at")=some (.bl true):=eqC (by decide +kernel)
theorem Af:eqO (.str "at") (.str "not")=some (.bl false):=eqC (by decide +kernel)
theorem Aa:eqO (.str "at") (.str "and")=some (.bl false):=eqC (by decide +kernel)
theorem uf:eqO (.str "not") (.str "most")=some (.bl false):=eqC (by decide +kernel)
theorem um:eqO (.str "not") (.str "rest")=some (.bl false):=eqC (by decide +kernel)
theorem Ae:eqO (.str "not") (.str "at")=some (.bl false):=eqC (by decide +kernel)
theorem wg:eqO (.str "not") (.str "not")=some (.bl true):=eqC (by decide +kernel)
theorem yg:eqO (.str "not") (.str "and")=some (.bl false):=eqC (by decide +kernel)
theorem ud:eqO (.str "and") (.str "most")=some (.bl false):=eqC (by decide +kernel)
theorem uc:eqO (.str "and") (.str "rest")=some (.bl false):=eqC (by decide +kernel)
theorem Ac:eqO (.str "and") (.str "at")=some (.bl false):=eqC (by decide +kernel)
theorem xr:eqO (.str "and") (.str "not")=some (.bl false):=eqC (by decide +kernel)
theorem xg:eqO (.str "and") (.str "and")=some (.bl true):=eqC (by decide +kernel)
theorem xu:eqO (.str "or") (.str "most")=some (.bl false):=eqC (by decide +kernel)
theorem yd:eqO (.str "or") (.str "rest")=some (.bl false):=eqC (by decide +kernel)
theorem Bu:eqO (.str "or") (.str "at")=some (.bl false):=eqC (by decide +kernel)
theorem Ab:eqO (.str "or") (.str "not")=some (.bl false):=eqC (by decide +kernel)
theorem Ad:eqO (.str "or") (.str "and")=some (.bl false):=eqC (by decide +kernel)
theorem Dy:inT (.str "most") (.tup [.str "and",.str "or"])=some (.bl false):=inC (by decide +kernel)
theorem Ef:inT (.str "most") (.tup [.str "most",.str "rest"])=some (.bl true):=inC (by decide +kernel)
theorem Dz:neO (.str "most") (.str "at")=some (.bl true):=neC (by decide +kernel)
theorem Eh:inT (.str "rest") (.tup [.str "and",.str "or"])=some (.bl false):=inC (by decide +kernel)
theorem Eb:inT (.str "rest") (.tup [.str "most",.str "rest"])=some (.bl true):=inC (by decide +kernel)
theorem Ej:neO (.str "rest") (.str "at")=some (.bl true):=neC (by decide +kernel)
theorem Vl:inT (.str "at") (.tup [.str "and",.str "or"])=some (.bl false):=inC (by decide +kernel)
theorem Vy:inT (.str "at") (.tup [.str "most",.str "rest"])=some (.bl false):=inC (by decide +kernel)
theorem Wa:neO (.str "at") (.str "at")=some (.bl false):=neC (by decide +kernel)
theorem Ih:inT (.str "not") (.tup [.str "and",.str "or"])=some (.bl false):=inC (by decide +kernel)
theorem J1:inT (.str "not") (.tup [.str "most",.str "rest"])=some (.bl false):=inC (by decide +kernel)
theorem Ho:neO (.str "not") (.str "at")=some (.bl true):=neC (by decide +kernel)
theorem Hl:inT (.str "and") (.tup [.str "and",.str "or"])=some (.bl true):=inC (by decide +kernel)
theorem Ie:inT (.str "and") (.tup [.str "most",.str "rest"])=some (.bl false):=inC (by decide +kernel)
theorem Iu:neO (.str "and") (.str "at")=some (.bl true):=neC (by decide +kernel)
theorem V3:inT (.str "or") (.tup [.str "and",.str "or"])=some (.bl true):=inC (by decide +kernel)
theorem W4:inT (.str "or") (.tup [.str "most",.str "rest"])=some (.bl false):=inC (by decide +kernel)
theorem Uz:neO (.str "or") (.str "at")=some (.bl true):=neC (by decide +kernel)
noncomputable def Nx:Rem→List Rem
  | .no r=>[r]
  | .all l=>l
  | .any l=>l
  | _=>[]
noncomputable def a7n:Rem→Bool
  | .no _=>true
  | .all _=>true
  | .any _=>true
  | _=>false
noncomputable def pre:Nat→Rem→List Rem
  | 0,r=>[r]
  | n+1,r=>r::(Nx r).flatMap (pre n)
noncomputable def ats:Nat→Rem→List Rem
  | 0,r=>[r]
  | n+1,r=>if a7n r then (Nx r).flatMap (ats n) else [r]
noncomputable section
variable {N:List Str} {H:List Hd} {sto:List SO}
theorem a5y {s:Sm} (hN:Oz N) (hs:a5c N s):s.2.length<lim:=by
  have:=hs.1; have:=hN.1; show _<1000000; omega
theorem OkR.kid {d:Nat} {r:Rem} (h:OkR N H (d+1) r):∀ u∈Nx r,OkR N H d u:=by
  intro u hu
  cases h with
  | most _=>cases hu
  | rest _ _ _=>cases hu
  | pl _ _ _=>cases hu
  | all _ h=>exact h u hu
  | any _ h=>exact h u hu
  | no h=>simp only [Nx,List.mem_singleton] at hu; subst hu; exact h
theorem OkR.aah {r:Rem} (h:OkR N H 0 r):Nx r=[]:=by cases h <;> rfl
theorem OkR.a9f {d:Nat} {r:Rem} (h:OkR N H d r):(Nx r).length≤5:=by cases h <;> simp [Nx] <;> assumption
theorem Ye:∀ (d:Nat) {r:Rem},OkR N H d r→pre (d+1) r=pre d r
  | 0,r,h=>by rw [show pre (0+1) r=r::(Nx r).flatMap (pre 0) from rfl,h.aah]; rfl
  | d+1,r,h=>by
    rw [pre,pre]
    congr 1
    exact Ja fun u hu=>Ye d (h.kid u hu)
theorem OkR.aco {r:Rem} (h:OkR N H 3 r):∀ u∈Nx r,OkR N H 3 u:=fun u hu=>(h.kid u hu).up
theorem abu {r:Rem} (h:OkR N H 3 r):pre 3 r=r::(Nx r).flatMap (pre 3):=by
  rw [show pre 3 r=r::(Nx r).flatMap (pre 2) from rfl]
  congr 1
  exact Ja fun u hu=>(Ye 2 (h.kid u hu)).symm
theorem Vu {α β:Type} {f:α→List β} {m:Nat}:∀ {l:List α},(∀ a∈l,(f a).length≤m)→(l.flatMap f).length≤l.length * m
  | [],_=>by simp
  | a::l,h=>by
    have h1:=h a List.mem_cons_self
    have h2:=Vu (l:=l) fun b hb=>h b (List.mem_cons_of_mem _ hb)
    rw [List.flatMap_cons,List.length_append,List.length_cons,Nat.succ_mul]
    omega
noncomputable def top:Nat→Nat
  | 0=>1
  | n+1=>1+5 * top n
theorem Uj:∀ (d:Nat) {r:Rem},OkR N H d r→(pre d r).length≤top d
  | 0,r,h=>by simp [pre,top]
  | d+1,r,h=>by
    have h1:=Vu (f:=pre d) (m:=top d) (l:=Nx r) fun u hu=>Uj d (h.kid u hu)
    have h2:=Nat.mul_le_mul_right (top d) h.a9f
    rw [pre,List.length_cons,top]
    omega
theorem members {d:Nat} {r:Rem} (h:OkR N H d r):yx [yj r] sto=some (.tup ((Nx r).map yj),sto):=by
  unfold yx
  cases h <;> unfold yj Nx <;> simp [iu,jc,sIf,jk,lg,jj,jo,sNx,dg,sGo,bh,jt,cg,cu,j5,gj,m7,m8,mOr,j7,mIf,mOp,mUn,cj,jg,ak,iy,aq,j8,dw,bw,gq,jw,fj,jm,ltT,leT,lq,jr,ju,kj,j6,mj,mq,j4,iw,au,kh,zc,Bp,qe,qm,wu,u9,uo,ql,qj,wz,ug,uq,wj,xq,Bt,Af,Aa,uf,um,Ae,wg,yg,ud,uc,Ac,xr,xg,xu,yd,Bu,Ab,Ad,Dy,Ef,Dz,Eh,Eb,Ej,Vl,Vy,Wa,Ih,J1,Ho,Hl,Ie,Iu,V3,W4,Uz,G3]
noncomputable def cnt (W:List Rem):Nat:=(W.flatMap (pre 3)).length
theorem Jc (a b:List Rem):cnt (a++b)=cnt a+cnt b:=by simp [cnt]
theorem Zx (a:List Rem):cnt a.reverse=cnt a:=by
  induction a with
  | nil=>rfl
  | cons x a ih=>rw [List.reverse_cons,Jc,ih,show x::a=[x]++a from rfl,Jc]; omega
theorem a6w {W:List Rem}:W.length≤cnt W:=by
  induction W with
  | nil=>simp
  | cons x a ih =>
    rw [show x::a=[x]++a from rfl,Jc,List.length_append]
    have:1≤cnt [x]:=by simp [cnt,pre]
    simp only [List.length_singleton]
    omega
theorem Nk {r0:Slot}:∀ (fuel:Nat) (W P:List Rem) (o:Slot),(∀ w∈W,OkR N H 3 w)→cnt W<fuel→P.length+cnt W<1000 →
    ∃ o',Dd fuel (gj (mOp gtT (Gz 2) (aq (.int 0)))) (jc (a80 2 3) (jc (cg 1 (cj 3)) (cu 2 (mUn a7k (dw yx (ak (cj 3) iy)))))) ⟨[r0,some (.lst (P.map yj),true),some (.lst (W.map yj),true),o],sto⟩
      = some (.next,⟨[r0,some (.lst ((P++W.reverse.flatMap (pre 3)).map yj),true),some (.lst [],true),o'],sto⟩)
  | 0,W,P,o,_,h,_=>by omega
  | fuel+1,W,P,o,hW,hc,hb=>by
    rcases List.eq_nil_or_concat W with rfl | ⟨W,w,rfl⟩
    · refine ⟨o,?_⟩
      rw [X7 (s1:=⟨[r0,some (.lst (P.map yj),true),some (.lst ([].map yj),true),o],sto⟩) (by simp [iu,jc,sIf,jk,lg,jj,jo,sNx,dg,sGo,bh,jt,cg,cu,j5,gj,m7,m8,mOr,j7,mIf,mOp,mUn,cj,jg,ak,iy,aq,j8,dw,bw,gq,jw,fj,jm,ltT,leT,lq,jr,ju,kj,j6,mj,mq,j4,iw,au,kh,Gz,gtT])]
      simp
    · simp only [List.concat_eq_append] at hW hc hb ⊢
      have hw:OkR N H 3 w:=hW w (by simp)
      have hk:=hw.a9f
      have cw:cnt [w]=1+cnt (Nx w):=by
        unfold cnt
        rw [show [w].flatMap (pre 3)=pre 3 w by simp,abu hw,List.length_cons]; omega
      rw [Jc,cw] at hc hb
      have lW:=a6w (W:=W)
      have l1:P.length<lim:=by show _<1000000; omega
      have l2:W.length+(Nx w).length<lim:=by show _<1000000; omega
      obtain ⟨o',e⟩:=Nk fuel (W++(Nx w).reverse) (P++[w]) (some (yj w,false))
        (fun u hu=>by
          rcases List.mem_append.mp hu with z | z
          · exact hW u (List.mem_append_left _ z)
          · exact hw.aco u (List.mem_reverse.mp z))
        (by rw [Jc,Zx]; omega) (by rw [Jc,Zx,List.length_append,List.length_singleton]; omega)
      refine ⟨o',?_⟩
      rw [Xb (s1:=⟨[r0,some (.lst (P.map yj),true),some (.lst ((W++[w]).map yj),true),o],sto⟩) (s2:=⟨[r0,some (.lst ((P++[w]).map yj),true),some (.lst ((W++(Nx w).reverse).map yj),true),some (yj w,false)],sto⟩) ?_ ?_,e]
      · simp [List.flatMap_append,abu hw]
      · simp [iu,jc,sIf,jk,lg,jj,jo,sNx,dg,sGo,bh,jt,cg,cu,j5,gj,m7,m8,mOr,j7,mIf,mOp,mUn,cj,jg,ak,iy,aq,j8,dw,bw,gq,jw,fj,jm,ltT,leT,lq,jr,ju,kj,j6,mj,mq,j4,iw,au,kh,Gz,gtT]
      · simp [iu,jc,sIf,jk,lg,jj,jo,sNx,dg,sGo,bh,jt,cg,cu,j5,gj,m7,m8,mOr,j7,mIf,mOp,mUn,cj,jg,ak,iy,aq,j8,dw,bw,gq,jw,fj,jm,ltT,leT,lq,jr,ju,kj,j6,mj,mq,j4,iw,au,kh,a80,l1,l2,members hw,a7k]
theorem Vj {r:Rem} (h:OkR N H 3 r):zy [yj r] sto=some (.lst ((pre 3 r).map yj),sto):=by
  have hl:=Uj 3 h
  have ht:top 3=156:=rfl
  have hc:cnt [r]=(pre 3 r).length:=by simp [cnt]
  obtain ⟨o',e⟩:=Nk (N:=N) (H:=H) (r0:=some (yj r,false)) (sto:=sto) 1000 [r] [] none (fun w hw=>by rw [List.mem_singleton] at hw; subst hw; exact h) (by omega) (by simp only [List.length_nil]; omega)
  simp only [List.map_nil,List.map_cons,List.nil_append,List.reverse_cons,List.reverse_nil,List.flatMap_cons,List.flatMap_nil,List.append_nil] at e
  unfold zy
  simp [iu,jc,sIf,jk,lg,jj,jo,sNx,dg,sGo,bh,jt,cg,cu,j5,gj,m7,m8,mOr,j7,mIf,mOp,mUn,cj,jg,ak,iy,aq,j8,dw,bw,gq,jw,fj,jm,ltT,leT,lq,jr,ju,kj,j6,mj,mq,j4,iw,au,kh,e]
theorem Kw {r:Rem} (h:OkR N H 3 r):(pre 3 r).length≤156:=Uj 3 h
noncomputable def bx:Rem→List Str
  | .most s=>s.2.map (·.1)
  | .rest s _=>s.2.map (·.1)
  | _=>[]
noncomputable def Wd:Rem→Bool
  | .pl _ _=>true
  | _=>false
noncomputable def hnd:Rem→Str
  | .pl h _=>h
  | _ => "b"
theorem O9 {s:Sm} (hN:Oz N) (hs:a5c N s):yu [smT s] sto=some (.lst ((s.2.map (·.1)).map T.str),sto):=by
  have hl:=a5y hN hs
  unfold yu
  simp [iu,jc,sIf,jk,lg,jj,jo,sNx,dg,sGo,bh,jt,cg,cu,j5,gj,m7,m8,mOr,j7,mIf,mOp,mUn,cj,jg,ak,iy,aq,j8,dw,bw,gq,jw,fj,jm,ltT,leT,lq,jr,ju,kj,j6,mj,mq,j4,iw,au,kh]
  generalize hF:zj _ _ _ _ _ _ _=r
  obtain rfl:=Ut hF pT (fun p=>.str p.1) s.2 ⟨[some (smT s,false)],sto⟩ [some (smT s,false)] []
    (by unfold smT; simp [iu,jc,sIf,jk,lg,jj,jo,sNx,dg,sGo,bh,jt,cg,cu,j5,gj,m7,m8,mOr,j7,mIf,mOp,mUn,cj,jg,ak,iy,aq,j8,dw,bw,gq,jw,fj,jm,ltT,leT,lq,jr,ju,kj,j6,mj,mq,j4,iw,au,kh,Bp,hl]) rfl rfl rfl (Nat.le_of_lt hl) (by
      intro p hp pre hpre
      obtain ⟨a,b,rfl⟩:∃ a b,pre=[a,b]:=by
        match pre,hpre with
        | [a,b],_=>exact ⟨a,b,rfl⟩
      exact ⟨[some (.str p.1,false),some (.int p.2,false)],rfl,by unfold pT; rw [Mt]; rfl,rfl,rfl⟩)
  simp
theorem a5k {d:Nat} {r:Rem} (hN:Oz N) (h:OkR N H d r):(bx r).length≤6:=by
  have:=hN.1
  cases h with
  | most h=>have:=h.1; simp only [bx,List.length_map]; omega
  | rest h _ _=>have:=h.1; simp only [bx,List.length_map]; omega
  | _=>simp [bx]
theorem a9u {d:Nat} {r:Rem} (h:OkR N H d r):∀ x∈bx r,x∈N:=by
  intro x hx
  cases h with
  | most h=>simp only [bx,List.mem_map] at hx; obtain ⟨p,hp,rfl⟩:=hx; exact (h.2 p hp).1
  | rest h _ _=>simp only [bx,List.mem_map] at hx; obtain ⟨p,hp,rfl⟩:=hx; exact (h.2 p hp).1
  | _=>cases hx
theorem Rp:∀ (d:Nat) {r:Rem},OkR N H d r→∀ u∈pre d r,OkR N H d u
  | 0,r,h,u,hu=>by simp only [pre,List.mem_singleton] at hu; subst hu; exact h
  | d+1,r,h,u,hu=>by
    rw [pre] at hu
    rcases List.mem_cons.mp hu with rfl | hu
    · exact h
    · obtain ⟨v,hv,hu⟩:=List.mem_flatMap.mp hu
      exact (Rp d (h.kid v hv) u hu).up
theorem Wy {r:Rem} (hN:Oz N) (h:OkR N H 3 r):rm [yj r] sto=some (.lst (((pre 3 r).flatMap bx).map T.str),sto):=by
  have hl:=Kw h
  have l1:(pre 3 r).length<lim:=by show _<1000000; omega
  unfold rm
  simp [iu,jc,sIf,jk,lg,jj,jo,sNx,dg,sGo,bh,jt,cg,cu,j5,gj,m7,m8,mOr,j7,mIf,mOp,mUn,cj,jg,ak,iy,aq,j8,dw,bw,gq,jw,fj,jm,ltT,leT,lq,jr,ju,kj,j6,mj,mq,j4,iw,au,kh,Vj h,l1]
  generalize hF:Fo _ _ _ _=q
  obtain ⟨s',rfl,P⟩:=Ds hF (fun ts st=>∃ (l:List Rem) (acc:List Str) (o:Slot),ts=l.map yj∧(∀ u∈l,OkR N H 3 u)∧st=⟨[some (yj r,false),some (.lst (acc.map T.str),true),o],sto⟩∧acc++l.flatMap bx=(pre 3 r).flatMap bx∧acc.length+6 * l.length≤1000)
    ⟨pre 3 r,[],none,rfl,Rp 3 h,rfl,rfl,by simp only [List.length_nil]; omega⟩ (by
      rintro t q st ⟨l,acc,o,e1,e2,rfl,e3,e4⟩
      cases l with
      | nil=>cases e1
      | cons u l =>
        cases e1
        have hu:=e2 u List.mem_cons_self
        have hb:=a5k hN hu
        simp only [List.length_cons] at e4
        refine ⟨_,⟨[some (yj r,false),some (.lst ((acc++bx u).map T.str),true),some (yj u,false)],sto⟩,rfl,?_,l,acc++bx u,_,rfl,fun v hv=>e2 v (List.mem_cons_of_mem _ hv),rfl,?_,?_⟩
        · have l2:acc.length+(bx u).length<lim:=by show _<1000000; (clear hu e3 e2 hF l1 hl h hN; omega)
          cases hu with
          | most h=>simp only [bx,List.length_map] at l2; unfold yj bx; simp [iu,jc,sIf,jk,lg,jj,jo,sNx,dg,sGo,bh,jt,cg,cu,j5,gj,m7,m8,mOr,j7,mIf,mOp,mUn,cj,jg,ak,iy,aq,j8,dw,bw,gq,jw,fj,jm,ltT,leT,lq,jr,ju,kj,j6,mj,mq,j4,iw,au,kh,zc,Bp,qe,qm,wu,u9,uo,ql,qj,wz,ug,uq,wj,xq,Bt,Af,Aa,uf,um,Ae,wg,yg,ud,uc,Ac,xr,xg,xu,yd,Bu,Ab,Ad,Dy,Ef,Dz,Eh,Eb,Ej,Vl,Vy,Wa,Ih,J1,Ho,Hl,Ie,Iu,V3,W4,Uz,O9 hN h,l2]
          | rest h _ _=>simp only [bx,List.length_map] at l2; unfold yj bx; simp [iu,jc,sIf,jk,lg,jj,jo,sNx,dg,sGo,bh,jt,cg,cu,j5,gj,m7,m8,mOr,j7,mIf,mOp,mUn,cj,jg,ak,iy,aq,j8,dw,bw,gq,jw,fj,jm,ltT,leT,lq,jr,ju,kj,j6,mj,mq,j4,iw,au,kh,zc,Bp,qe,qm,wu,u9,uo,ql,qj,wz,ug,uq,wj,xq,Bt,Af,Aa,uf,um,Ae,wg,yg,ud,uc,Ac,xr,xg,xu,yd,Bu,Ab,Ad,Dy,Ef,Dz,Eh,Eb,Ej,Vl,Vy,Wa,Ih,J1,Ho,Hl,Ie,Iu,V3,W4,Uz,O9 hN h,l2]
          | pl _ _ _=>unfold yj bx; simp [iu,jc,sIf,jk,lg,jj,jo,sNx,dg,sGo,bh,jt,cg,cu,j5,gj,m7,m8,mOr,j7,mIf,mOp,mUn,cj,jg,ak,iy,aq,j8,dw,bw,gq,jw,fj,jm,ltT,leT,lq,jr,ju,kj,j6,mj,mq,j4,iw,au,kh,zc,qe,qm,wu,u9,uo,ql,qj,wz,ug,uq,wj,xq,Bt,Af,Aa,uf,um,Ae,wg,yg,ud,uc,Ac,xr,xg,xu,yd,Bu,Ab,Ad,Dy,Ef,Dz,Eh,Eb,Ej,Vl,Vy,Wa,Ih,J1,Ho,Hl,Ie,Iu,V3,W4,Uz]
          | all _ _=>unfold yj bx; simp [iu,jc,sIf,jk,lg,jj,jo,sNx,dg,sGo,bh,jt,cg,cu,j5,gj,m7,m8,mOr,j7,mIf,mOp,mUn,cj,jg,ak,iy,aq,j8,dw,bw,gq,jw,fj,jm,ltT,leT,lq,jr,ju,kj,j6,mj,mq,j4,iw,au,kh,zc,qe,qm,wu,u9,uo,ql,qj,wz,ug,uq,wj,xq,Bt,Af,Aa,uf,um,Ae,wg,yg,ud,uc,Ac,xr,xg,xu,yd,Bu,Ab,Ad,Dy,Ef,Dz,Eh,Eb,Ej,Vl,Vy,Wa,Ih,J1,Ho,Hl,Ie,Iu,V3,W4,Uz]
          | any _ _=>unfold yj bx; simp [iu,jc,sIf,jk,lg,jj,jo,sNx,dg,sGo,bh,jt,cg,cu,j5,gj,m7,m8,mOr,j7,mIf,mOp,mUn,cj,jg,ak,iy,aq,j8,dw,bw,gq,jw,fj,jm,ltT,leT,lq,jr,ju,kj,j6,mj,mq,j4,iw,au,kh,zc,qe,qm,wu,u9,uo,ql,qj,wz,ug,uq,wj,xq,Bt,Af,Aa,uf,um,Ae,wg,yg,ud,uc,Ac,xr,xg,xu,yd,Bu,Ab,Ad,Dy,Ef,Dz,Eh,Eb,Ej,Vl,Vy,Wa,Ih,J1,Ho,Hl,Ie,Iu,V3,W4,Uz]
          | no _=>unfold yj bx; simp [iu,jc,sIf,jk,lg,jj,jo,sNx,dg,sGo,bh,jt,cg,cu,j5,gj,m7,m8,mOr,j7,mIf,mOp,mUn,cj,jg,ak,iy,aq,j8,dw,bw,gq,jw,fj,jm,ltT,leT,lq,jr,ju,kj,j6,mj,mq,j4,iw,au,kh,zc,qe,qm,wu,u9,uo,ql,qj,wz,ug,uq,wj,xq,Bt,Af,Aa,uf,um,Ae,wg,yg,ud,uc,Ac,xr,xg,xu,yd,Bu,Ab,Ad,Dy,Ef,Dz,Eh,Eb,Ej,Vl,Vy,Wa,Ih,J1,Ho,Hl,Ie,Iu,V3,W4,Uz]
        · rw [List.append_assoc,← List.flatMap_cons]; exact e3
        · rw [List.length_append]; (clear hu e3 e2 hF l1 hl h hN; omega))
  obtain ⟨l,acc,o,e1,e2,rfl,e3,e4⟩:=P
  cases l with
  | cons _ _=>cases e1
  | nil =>
    simp only [List.flatMap_nil,List.append_nil] at e3
    simp [iu,jc,sIf,jk,lg,jj,jo,sNx,dg,sGo,bh,jt,cg,cu,j5,gj,m7,m8,mOr,j7,mIf,mOp,mUn,cj,jg,ak,iy,aq,j8,dw,bw,gq,jw,fj,jm,ltT,leT,lq,jr,ju,kj,j6,mj,mq,j4,iw,au,kh,e3]
theorem a4j {r:Rem} (h:OkR N H 3 r):qp [yj r] sto=some (.lst (((pre 3 r).filter Wd).map yj),sto):=by
  have hl:=Kw h
  have l1:(pre 3 r).length<lim:=by show _<1000000; omega
  unfold qp
  simp [iu,jc,sIf,jk,lg,jj,jo,sNx,dg,sGo,bh,jt,cg,cu,j5,gj,m7,m8,mOr,j7,mIf,mOp,mUn,cj,jg,ak,iy,aq,j8,dw,bw,gq,jw,fj,jm,ltT,leT,lq,jr,ju,kj,j6,mj,mq,j4,iw,au,kh]
  generalize hF:zj _ _ _ _ _ _ _=q
  obtain rfl:=Ze hF yj yj Wd (pre 3 r) ⟨[some (yj r,false)],sto⟩ [some (yj r,false)] []
    (by simp [iu,jc,sIf,jk,lg,jj,jo,sNx,dg,sGo,bh,jt,cg,cu,j5,gj,m7,m8,mOr,j7,mIf,mOp,mUn,cj,jg,ak,iy,aq,j8,dw,bw,gq,jw,fj,jm,ltT,leT,lq,jr,ju,kj,j6,mj,mq,j4,iw,au,kh,Vj h,l1]) rfl rfl rfl (Nat.le_of_lt l1) (by
      intro u hu pre hpre
      obtain ⟨a,rfl⟩:∃ a,pre=[a]:=by
        match pre,hpre with
        | [a],_=>exact ⟨a,rfl⟩
      refine ⟨[some (yj u,false)],rfl,rfl,?_,fun _=>rfl⟩
      cases u <;> unfold yj Wd <;> simp [iu,jc,sIf,jk,lg,jj,jo,sNx,dg,sGo,bh,jt,cg,cu,j5,gj,m7,m8,mOr,j7,mIf,mOp,mUn,cj,jg,ak,iy,aq,j8,dw,bw,gq,jw,fj,jm,ltT,leT,lq,jr,ju,kj,j6,mj,mq,j4,iw,au,kh,zc,qe,qm,wu,u9,uo,ql,qj,wz,ug,uq,wj,xq,Bt,Af,Aa,uf,um,Ae,wg,yg,ud,uc,Ac,xr,xg,xu,yd,Bu,Ab,Ad,Dy,Ef,Dz,Eh,Eb,Ej,Vl,Vy,Wa,Ih,J1,Ho,Hl,Ie,Iu,V3,W4,Uz])
  rfl
theorem a06 {r:Rem} (h:OkR N H 3 r) {s:Sta} (env:List Slot) (hs:s=⟨env,sto⟩) (he:env=[some (yj r,false)]):zj 1 [] (gq 0) (jm (dw qp (ak (cj 0) iy))) iw (mOp iz (cj 0) (aq (.int 1))) s=some (.lst ((((pre 3 r).filter Wd).map hnd).map T.str),s):=by
  have hl:=Kw h
  have l0:=List.length_filter_le Wd (pre 3 r)
  have l1:((pre 3 r).filter Wd).length<lim:=by show _<1000000; omega
  subst hs he
  have:=yt yj (fun u=>.str (hnd u)) ((pre 3 r).filter Wd) (g:=gq 0) (c:=iw) (e:=mOp iz (cj 0) (aq (.int 1))) (nv:=1) (ci:=[]) (it:=jm (dw qp (ak (cj 0) iy))) (s:=⟨[some (yj r,false)],sto⟩) (s1:=⟨[some (yj r,false)],sto⟩) [some (yj r,false)] [] (by simp [iu,jc,sIf,jk,lg,jj,jo,sNx,dg,sGo,bh,jt,cg,cu,j5,gj,m7,m8,mOr,j7,mIf,mOp,mUn,cj,jg,ak,iy,aq,j8,dw,bw,gq,jw,fj,jm,ltT,leT,lq,jr,ju,kj,j6,mj,mq,j4,iw,au,kh,a4j h,l1]) rfl rfl rfl (Nat.le_of_lt l1) (by
      intro u hu pre hpre
      obtain ⟨a,rfl⟩:∃ a,pre=[a]:=by
        match pre,hpre with
        | [a],_=>exact ⟨a,rfl⟩
      refine ⟨[some (yj u,false)],rfl,rfl,rfl,?_⟩
      have hq:=(List.mem_filter.mp hu).2
      cases u with
      | pl h p=>unfold yj hnd; simp [iu,jc,sIf,jk,lg,jj,jo,sNx,dg,sGo,bh,jt,cg,cu,j5,gj,m7,m8,mOr,j7,mIf,mOp,mUn,cj,jg,ak,iy,aq,j8,dw,bw,gq,jw,fj,jm,ltT,leT,lq,jr,ju,kj,j6,mj,mq,j4,iw,au,kh,Bp]
      | _=>cases hq)
  rw [this,List.map_map]; rfl
theorem Vh:∀ (l M:List Str),l.Nodup→(∀ x∈l,x∈M)→l.length≤M.length
  | [],M,_,_=>by simp
  | x::l,M,hn,hm=>by
    have hx:=hm x List.mem_cons_self
    rw [List.nodup_cons] at hn
    have:=Vh l (M.erase x) hn.2 fun y hy=>(List.mem_erase_of_ne (fun (e:y=x)=>hn.1 (e ▸ hy))).mpr (hm y (List.mem_cons_of_mem _ hy))
    rw [List.length_erase_of_mem hx] at this
    have:0<M.length:=List.length_pos_of_mem hx
    simp only [List.length_cons]
    omega
theorem Ng {x:Str}:∀ {l:List Str},x∈Dg l→x∈l
  | [],h=>h
  | y::l,h=>by
    unfold Dg at h
    split at h
    · exact List.mem_cons_of_mem _ (Ng h)
    · rcases List.mem_cons.mp h with rfl | h -- here
      · exact List.mem_cons_self
      · exact List.mem_cons_of_mem _ (Ng h)
theorem Yb:∀ l:List Str,(Dg l).Nodup
  | []=>List.nodup_nil
  | y::l=>by
    unfold Dg
    split
    · exact Yb l
    · rename_i h
      exact List.nodup_cons.mpr ⟨fun z=>h (Ng z),Yb l⟩
theorem ac5 {M l:List Str} (hM:M.length≤6) (hl:l.length≤1000) (h:∀ x∈l,x∈M):Ck [.lst (l.map T.str)]=some (.lst ((Bg (Dg l)).map T.str)):=by
  have h1:=Vh (Dg l) M (Yb l) fun x hx=>h x (Ng hx)
  have l1:l.length<lim:=by show _<1000000; omega
  have l2:(Dg l).length<64:=by omega
  simp [Ck,Pg,l1,l2]
theorem a0v {r:Rem} (hN:Oz N) (h:OkR N H 3 r):((pre 3 r).flatMap bx).length≤1000∧∀ x∈(pre 3 r).flatMap bx,x∈N:=by
  have h1:=Vu (f:=bx) (m:=6) (l:=pre 3 r) fun u hu=>a5k hN (Rp 3 h u hu)
  have h2:=Kw h
  refine ⟨by omega,fun x hx=>?_⟩
  obtain ⟨u,hu,hx⟩:=List.mem_flatMap.mp hx
  exact a9u (Rp 3 h u hu) x hx
theorem Sw {r:Rem} (h:OkR N H 3 r):(((pre 3 r).filter Wd).map hnd).length≤1000∧∀ x∈((pre 3 r).filter Wd).map hnd,x∈H.map (·.1):=by
  have h2:=Kw h
  have l0:=List.length_filter_le Wd (pre 3 r)
  refine ⟨by rw [List.length_map]; omega,fun x hx=>?_⟩
  obtain ⟨u,hu,rfl⟩:=List.mem_map.mp hx
  obtain ⟨hu,hq⟩:=List.mem_filter.mp hu
  have:=Rp 3 h u hu
  cases this with
  | pl h _ _=>exact List.mem_map.mpr ⟨_,h,rfl⟩
  | _=>cases hq
noncomputable def Gp (r:Rem):List Str:=Bg (Dg ((pre 3 r).flatMap bx))
noncomputable def Gk (r:Rem):List Str:=Bg (Dg (((pre 3 r).filter Wd).map hnd))
theorem a1t {r:Rem} (hN:Oz N) (h:OkR N H 3 r):Cr [yj r] sto=some (.lst ((Gp r).map T.str),sto):=by
  obtain ⟨h1,h2⟩:=a0v hN h
  unfold Cr
  simp [iu,jc,sIf,jk,lg,jj,jo,sNx,dg,sGo,bh,jt,cg,cu,j5,gj,m7,m8,mOr,j7,mIf,mOp,mUn,cj,jg,ak,iy,aq,j8,dw,bw,gq,jw,fj,jm,ltT,leT,lq,jr,ju,kj,j6,mj,mq,j4,iw,au,kh,Wy hN h,ac5 (Nat.le_trans hN.1 (by decide)) h1 h2,Gp]
theorem a3j {r:Rem} (hH:Y9 H) (h:OkR N H 3 r):Cj [yj r] sto=some (.lst ((Gk r).map T.str),sto):=by
  obtain ⟨h1,h2⟩:=Sw h
  have:=hH.2.1
  unfold Cj
  have hs:=ac5 (M:=H.map (·.1)) (by rw [List.length_map]; omega) h1 h2
  rw [List.map_map] at hs
  simp [iu,jc,sIf,jk,lg,jj,jo,sNx,dg,sGo,bh,jt,cg,cu,j5,gj,m7,m8,mOr,j7,mIf,mOp,mUn,cj,jg,ak,iy,aq,j8,dw,bw,gq,jw,fj,jm,ltT,leT,lq,jr,ju,kj,j6,mj,mq,j4,iw,au,kh,a06 h (sto:=sto) _ rfl rfl,hs,Gk]
end
end K
end
noncomputable section
set_option linter.all false
set_option maxRecDepth 100000
set_option autoImplicit false
namespace K
open C PySem
noncomputable def ah:Rem→List Str
  | .pl h _=>[h]
  | _=>[]
theorem Vm:∀ l:List Rem,(l.filter Wd).map hnd=l.flatMap ah
  | []=>rfl
  | r::l=>by
    rw [List.filter_cons,List.flatMap_cons,← Vm l]
    cases r <;> simp [Wd,ah,hnd]
theorem Ii {x y:Str}:∀ {l:List Str},(y=x∨y∈l)→y∈Mg x l
  | [],h=>by rcases h with h | h; simp [Mg,h]; cases h
  | z::l,h=>by
    unfold Mg
    split
    · rcases h with h | h
      · simp [h]
      · exact List.mem_cons_of_mem _ h
    · rcases h with h | h
      · exact List.mem_cons_of_mem _ (Ii (.inl h))
      · rcases List.mem_cons.mp h with h | h
        · simp [h]
        · exact List.mem_cons_of_mem _ (Ii (.inr h))
theorem Hx {y:Str} {l:List Str}:y∈Bg l↔y∈l:=by
  refine ⟨Lh,fun h=>?_⟩
  have go:∀ (l acc:List Str),(y∈l∨y∈acc)→y∈l.foldl (fun acc x=>Mg x acc) acc:=by
    intro l
    induction l with
    | nil=>intro acc h; rcases h with h | h; cases h; exact h
    | cons x l ih =>
      intro acc h
      rw [List.foldl_cons]
      apply ih
      rcases h with h | h
      · rcases List.mem_cons.mp h with h | h
        · exact .inr (Ii (.inl h))
        · exact .inl h
      · exact .inr (Ii (.inr h))
  exact go l [] (.inl h)
theorem Ep {y:Str}:∀ {l:List Str},y∈Dg l↔y∈l
  | []=>Iff.rfl
  | x::l=>by
    unfold Dg
    split
    · rename_i hx
      rw [Ep,List.mem_cons]
      exact ⟨.inr,fun h=>h.elim (fun e=>e ▸ hx) id⟩
    · rw [List.mem_cons,List.mem_cons,Ep]
noncomputable def AT (o:Sp):List Str:=(pre 3 o.guard).flatMap ah
noncomputable def NM (o:Sp):List Str:=(pre 3 o.guard).flatMap bx++o.sets.flatMap fun p=>p.1::p.2.2.map (·.1)
noncomputable def a2q (s o:Sp):Bool:=s.hand==o.hand||decide (s.hand∈AT o)||s.sets.any fun p=>decide (p.1∈NM o)
noncomputable abbrev Q2:=Str × Str
noncomputable def qT (q:Q2):T:=.tup [.str q.1,.str q.2]
noncomputable def CH (s:Sp):List Q2:=("hand",s.hand)::s.sets.map fun p=>("box",p.1)
noncomputable def NB (o:Sp):List Q2:=CH o++(Gk o.guard).map (fun h=>(("hand",h):Q2))++(Gp o.guard++o.sets.flatMap fun p=>p.2.2.map (·.1)).map fun b=>(("box",b):Q2)
noncomputable def mts (s o:Sp):Bool:=(CH s).any fun q=>decide (q∈NB o)
theorem a1w:¬ (("hand" : Str) = "box"):=by decide +kernel
theorem a3a (s o:Sp):mts s o=a2q s o:=by
  have h1:∀ x:Str,(("hand",x):Q2)∈NB o↔x=o.hand∨x∈AT o:=by
    intro x
    unfold NB CH AT
    simp only [List.mem_append,List.mem_cons,List.mem_map,Prod.mk.injEq,a1w,Ne.symm a1w,false_and,and_false,exists_false,or_false,true_and,exists_eq_right]
    have e:x∈Gk o.guard↔x∈(pre 3 o.guard).flatMap ah:=by
      unfold Gk
      rw [Hx,Ep,Vm]
    rw [e]
  have h2:∀ x:Str,(("box",x):Q2)∈NB o↔x∈NM o:=by
    intro x
    unfold NB CH NM
    have e:x∈Gp o.guard↔x∈(pre 3 o.guard).flatMap bx:=by
      unfold Gp
      rw [Hx,Ep]
    simp only [List.mem_append,List.mem_cons,List.mem_map,Prod.mk.injEq,true_and,exists_eq_right,e,List.mem_flatMap]
    constructor
    · rintro (((⟨h,_⟩ | ⟨p,hp,h⟩) | ⟨_,_,h,_⟩) | h)
      · exact absurd h.symm a1w
      · exact .inr ⟨p,hp,.inl h.symm⟩
      · exact absurd h a1w
      · rcases h with h | ⟨p,hp,h⟩
        · exact .inl h
        · exact .inr ⟨p,hp,.inr h⟩
    · rintro (h | ⟨p,hp,h | h⟩)
      · exact .inr (.inl h)
      · exact .inl (.inl (.inr ⟨p,hp,h.symm⟩))
      · exact .inr (.inr ⟨p,hp,h⟩)
  rw [Bool.eq_iff_iff]
  unfold mts a2q
  simp only [List.any_eq_true,decide_eq_true_eq,Bool.or_eq_true,beq_iff_eq]
  constructor
  · rintro ⟨q,hq,hn⟩
    unfold CH at hq
    rcases List.mem_cons.mp hq with rfl | hq -- here
    · exact .inl ((h1 _).mp hn)
    · obtain ⟨p,hp,rfl⟩:=List.mem_map.mp hq
      exact .inr ⟨p,hp,(h2 _).mp hn⟩
  · rintro (h | ⟨p,hp,h⟩)
    · exact ⟨_,List.mem_cons_self,(h1 _).mpr h⟩
    · exact ⟨_,List.mem_cons_of_mem _ (List.mem_map.mpr ⟨p,hp,rfl⟩),(h2 _).mpr h⟩
theorem T4:okS "hand" := by unfold okS; decide +kernel
theorem Yr:okS "box" := by unfold okS; decide +kernel
theorem abf {a b:Q2} (h1:okS a.1) (h2:okS a.2) (h3:okS b.1) (h4:okS b.2):eqD (qT a) (qT b)=some (a==b):=by
  obtain ⟨a1,a2⟩:=a
  obtain ⟨b1,b2⟩:=b
  simp only at h1 h2 h3 h4
  have e:dat (qT (a1,a2))=some (.tuple [.str a1,.str a2]):=by simp [qT,dat,Px,J8 h1,J8 h2,show PyData.canLay0 (.str a1)=true from h1,show PyData.canLay0 (.str a2)=true from h2]
  have f:dat (qT (b1,b2))=some (.tuple [.str b1,.str b2]):=by simp [qT,dat,Px,show PyData.canLay0 (.str b1)=true from h3,show PyData.canLay0 (.str b2)=true from h4]
  unfold eqD
  rw [e,f]
  dsimp only
  rw [if_pos (by simp [PyData.depth,PyData.depthAll])]
  simp only [PyData.eqv,PyData.eqvAll,Bool.and_true]
  rfl
theorem a8y {x:Q2} (h1:okS x.1) (h2:okS x.2):∀ m:List Q2,(∀ y∈m,okS y.1∧okS y.2)→inL (qT x) (m.map qT)=some (decide (x∈m))
  | [],_=>by simp [inL]
  | y::m,h=>by
    have ih:=a8y h1 h2 m fun z hz=>h z (List.mem_cons_of_mem _ hz)
    have hy:=h y List.mem_cons_self
    rw [List.map_cons,inL,abf hy.1 hy.2 h1 h2]
    dsimp only
    rw [ih,Option.map_some]
    congr 1
    rw [Bool.eq_iff_iff]
    simp only [Bool.or_eq_true,beq_iff_eq,decide_eq_true_eq,List.mem_cons]
    exact ⟨fun z=>z.imp_left Eq.symm,fun z=>z.imp_left Eq.symm⟩
theorem acf {x:Q2} {m:List Q2} (h1:okS x.1) (h2:okS x.2) (h:∀ y∈m,okS y.1∧okS y.2):inT (qT x) (.lst (m.map qT))=some (.bl (decide (x∈m))):=by
  have d:(dat (qT x)).isSome=true:=by
    unfold okS at h1 h2
    simp [qT,dat,Px,h1,h2]
  simp [inT,d,a8y h1 h2 m h]
noncomputable section
variable {N:List Str} {H:List Hd} {sto:List SO} {s o:Sp}
theorem aat (hH:Y9 H) (ho:OkP N H o):∀ x∈AT o,okS x:=fun x hx=>by
  have:=(Sw ho.gd).2 x (by rw [Vm]; exact hx)
  obtain ⟨h,hh,rfl⟩:=List.mem_map.mp this
  exact (hH.2.2 h hh).1.1
theorem a8z (ho:OkP N H o):∀ x∈o.sets.flatMap (fun p=>p.1::p.2.2.map (·.1)),x∈N:=fun x hx=>by
  obtain ⟨p,hp,hx⟩:=List.mem_flatMap.mp hx
  obtain ⟨h1,h2⟩:=ho.set p hp
  rcases List.mem_cons.mp hx with rfl | hx -- here
  · exact h1
  · obtain ⟨q,hq,rfl⟩:=List.mem_map.mp hx
    exact (h2.2 q hq).1
theorem Vz (ho:OkP N H o):o.sets.length<lim:=by have:=ho.len; show _<1000000; omega
theorem a7x:qu [spT s] sto=some (.lst ((CH s).map qT),sto)∨¬ s.sets.length<1000:=by
  by_cases hl:s.sets.length<1000
  · left
    have sl:s.sets.length<lim:=by show _<1000000; omega
    have i0:iz (spT s) (.int 0)=some (.str s.hand):=zc
    have i3:iz (spT s) (.int 3)=some (.tup (s.sets.map seT)):=Vk
    have c:=yt seT (fun p=>qT ("box",p.1)) s.sets (g:=jw [0,1]) (nv:=2) (ci:=[]) (c:=iw) (it:=jm (mOp iz (cj 0) (aq (.int 3)))) (e:=jg (fun l=>some (.tup l)) (ak (aq (.str "box")) (ak (cj 0) iy))) (s:=⟨[some (spT s,false)],sto⟩) (s1:=⟨[some (spT s,false)],sto⟩) [some (spT s,false)] []
      (by simp [iu,jc,sIf,jk,lg,jj,jo,sNx,dg,sGo,bh,jt,cg,cu,j5,gj,m7,m8,mOr,j7,mIf,mOp,mUn,cj,jg,ak,iy,aq,j8,dw,bw,gq,jw,fj,jm,ltT,leT,lq,jr,ju,kj,j6,mj,mq,j4,iw,au,kh,i3,sl]) rfl rfl rfl (Nat.le_of_lt sl) (by
        intro p hp pre hpre
        obtain ⟨a,b,rfl⟩:=C.p2 pre hpre
        exact ⟨[some (.str p.1,false),some (smT p.2,false)],rfl,by unfold seT; rw [Mt]; rfl,rfl,rfl⟩)
    have l1:1+s.sets.length<lim:=by show _<1000000; omega
    unfold qu
    simp [iu,jc,sIf,jk,lg,jj,jo,sNx,dg,sGo,bh,jt,cg,cu,j5,gj,m7,m8,mOr,j7,mIf,mOp,mUn,cj,jg,ak,iy,aq,j8,dw,bw,gq,jw,fj,jm,ltT,leT,lq,jr,ju,kj,j6,mj,mq,j4,iw,au,kh,i0,c,l1,CH,qT]
  · exact .inr hl
theorem Jb (hs:OkP N H s):qu [spT s] sto=some (.lst ((CH s).map qT),sto):=by
  rcases a7x (s:=s) (sto:=sto) with h | h
  · exact h
  · exact absurd (by have:=hs.len; omega) h
end
noncomputable section
variable {N:List Str} {H:List Hd} {sto:List SO} {s o:Sp}
theorem ab2 (hN:Oz N) (hH:Y9 H) (ho:OkP N H o):∀ y∈NB o,okS y.1∧okS y.2:=by
  intro y hy
  unfold NB CH at hy
  have okb:∀ x,x∈N→okS x:=fun x hx=>(hN.2 x hx).1
  rcases List.mem_append.mp hy with hy | hy
  · rcases List.mem_append.mp hy with hy | hy
    · rcases List.mem_cons.mp hy with rfl | hy -- here
      · exact ⟨T4,ho.hd.1⟩
      · obtain ⟨p,hp,rfl⟩:=List.mem_map.mp hy
        exact ⟨Yr,okb _ (ho.set p hp).1⟩
    · obtain ⟨h,hh,rfl⟩:=List.mem_map.mp hy
      refine ⟨T4,aat hH ho h ?_⟩
      unfold Gk at hh
      rw [Hx,Ep,Vm] at hh
      exact hh
  · obtain ⟨b,hb,rfl⟩:=List.mem_map.mp hy
    refine ⟨Yr,okb _ ?_⟩
    rcases List.mem_append.mp hb with hb | hb -- here
    · unfold Gp at hb
      rw [Hx,Ep] at hb
      exact (a0v hN ho.gd).2 b hb
    · obtain ⟨p,hp,hb⟩:=List.mem_flatMap.mp hb
      exact a8z ho b (List.mem_flatMap.mpr ⟨p,hp,List.mem_cons_of_mem _ hb⟩)
theorem aao (hN:Oz N) (ho:OkP N H o):∀ y∈CH o,okS y.1∧okS y.2:=by
  intro y hy
  unfold CH at hy
  rcases List.mem_cons.mp hy with rfl | hy -- here
  · exact ⟨T4,ho.hd.1⟩
  · obtain ⟨p,hp,rfl⟩:=List.mem_map.mp hy
    exact ⟨Yr,(hN.2 _ (ho.set p hp).1).1⟩
theorem a2y {α:Type} {s:Sta} {i:Nat} {w:Str} {l:List Str} (hl:l.length<lim) (hi:cj i s=some (.lst (l.map T.str),s)) :
    zj 1 [] (gq 0) (jm (cj i)) iw (jg (fun l=>some (.tup l)) (ak (aq (.str w)) (ak (cj 0) iy))) s=some (.lst ((l.map fun x=>((w,x):Q2)).map qT),s):=by
  have e:=yt T.str (fun x=>qT (w,x)) l (g:=gq 0) (nv:=1) (ci:=[]) (c:=iw) (it:=jm (cj i)) (e:=jg (fun l=>some (.tup l)) (ak (aq (.str w)) (ak (cj 0) iy))) (s:=s) (s1:=s) s.env []
    (by unfold jm; rw [hi]; simp [hl]) rfl rfl rfl (Nat.le_of_lt hl) (by
      intro p hp pre hpre
      obtain ⟨a,rfl⟩:=C.p1 pre hpre
      exact ⟨[some (.str p,false)],rfl,rfl,rfl,rfl⟩)
  rw [e,List.map_map]; rfl
theorem V9 (hN:Oz N) (hH:Y9 H) (ho:OkP N H o):Bq [spT o] sto=some (.lst ((NB o).map qT),sto):=by
  have i2:iz (spT o) (.int 2)=some (yj o.guard):=J2
  have i3:iz (spT o) (.int 3)=some (.tup (o.sets.map seT)):=Vk
  have eh:=a3j (sto:=sto) hH ho.gd
  have eb:=a1t (sto:=sto) hN ho.gd
  have sl:=Vz ho
  have s2:=ho.len
  have hn:=hN.1
  have lb:(Gp o.guard).length≤1000:=by
    have h1:=Vh (Dg ((pre 3 o.guard).flatMap bx)) N (Yb _) fun x hx=>(a0v hN ho.gd).2 x (Ng hx)
    unfold Gp
    rw [Iw]; (clear s2 sl eb eh i3 i2 ho hH hN; omega)
  have lh:(Gk o.guard).length≤1000:=by
    have h1:=Vh (Dg (((pre 3 o.guard).filter Wd).map hnd)) (H.map (·.1)) (Yb _) fun x hx=>(Sw ho.gd).2 x (Ng hx)
    have:=hH.2.1
    rw [List.length_map] at h1
    unfold Gk
    rw [Iw]; (clear lb hn s2 sl eb eh i3 i2 ho hH hN; omega)
  have ch:=Jb (sto:=sto) ho
  have ll1:=Vu (f:=fun p:Str × Sm=>p.2.2.map (·.1)) (m:=2) (l:=o.sets) fun p hp=>by
    have:=(ho.set p hp).2.1
    rw [List.length_map]; (clear hp ch lh lb s2 sl eb eh i3 i2 ho hH hN; omega)
  have eN:NB o=CH o++(Gk o.guard).map (fun h=>(("hand",h):Q2))++(Gp o.guard++o.sets.flatMap fun p=>p.2.2.map (·.1)).map fun b=>(("box",b):Q2):=rfl
  have lc:(CH o).length≤3:=by unfold CH; rw [List.length_cons,List.length_map]; (clear eN ll1 ch lh lb hn sl eb eh i3 i2 ho hH hN; omega)
  generalize hHL:Gk o.guard=hl at *
  generalize hBL:Gp o.guard=bl at *
  unfold Bq iu
  rw [show ([spT o].map (fun t=>some (t,false))++List.replicate (5 - [spT o].length) none:List Slot)=[some (spT o,false),none,none,none,none] from rfl]
  rw [nq (s':=⟨[some (spT o,false),some (.lst (hl.map T.str),false),none,none,none],sto⟩) (by simp [iu,jc,sIf,jk,lg,jj,jo,sNx,dg,sGo,bh,jt,cg,cu,j5,gj,m7,m8,mOr,j7,mIf,mOp,mUn,cj,jg,ak,iy,aq,j8,dw,bw,gq,jw,fj,jm,ltT,leT,lq,jr,ju,kj,j6,mj,mq,j4,iw,au,kh,i2,eh])]
  rw [nq (s':=⟨[some (spT o,false),some (.lst (hl.map T.str),false),some (.lst (bl.map T.str),true),none,none],sto⟩) (by simp [iu,jc,sIf,jk,lg,jj,jo,sNx,dg,sGo,bh,jt,cg,cu,j5,gj,m7,m8,mOr,j7,mIf,mOp,mUn,cj,jg,ak,iy,aq,j8,dw,bw,gq,jw,fj,jm,ltT,leT,lq,jr,ju,kj,j6,mj,mq,j4,iw,au,kh,i2,eb])]
  obtain ⟨o3,o4,eF⟩:∃ o3 o4:Slot,jt (jw [3,4]) (jm (mOp iz (cj 0) (aq (.int 3)))) (cu 2 (dw yu (ak (cj 4) iy)))
      ⟨[some (spT o,false),some (.lst (hl.map T.str),false),some (.lst (bl.map T.str),true),none,none],sto⟩=some (.next,⟨[some (spT o,false),some (.lst (hl.map T.str),false),some (.lst ((bl++o.sets.flatMap fun p=>p.2.2.map (·.1)).map T.str),true),o3,o4],sto⟩):=by
    have it:jm (mOp iz (cj 0) (aq (.int 3))) ⟨[some (spT o,false),some (.lst (hl.map T.str),false),some (.lst (bl.map T.str),true),none,none],sto⟩=some (o.sets.map seT,⟨[some (spT o,false),some (.lst (hl.map T.str),false),some (.lst (bl.map T.str),true),none,none],sto⟩):=by simp [iu,jc,sIf,jk,lg,jj,jo,sNx,dg,sGo,bh,jt,cg,cu,j5,gj,m7,m8,mOr,j7,mIf,mOp,mUn,cj,jg,ak,iy,aq,j8,dw,bw,gq,jw,fj,jm,ltT,leT,lq,jr,ju,kj,j6,mj,mq,j4,iw,au,kh,i3,sl]
    unfold jt
    rw [it]
    dsimp only
    generalize hF:Fo _ _ _ _=q
    obtain ⟨s',rfl,P⟩:=Ds hF (fun ts st=>∃ (m:List (Str × Sm)) (acc:List Str) (o3 o4:Slot),ts=m.map seT∧(∀ p∈m,p∈o.sets)∧st=⟨[some (spT o,false),some (.lst (hl.map T.str),false),some (.lst (acc.map T.str),true),o3,o4],sto⟩∧acc++m.flatMap (fun p=>p.2.2.map (·.1))=bl++o.sets.flatMap fun p=>p.2.2.map (·.1))
      ⟨o.sets,bl,none,none,rfl,fun p hp=>hp,rfl,rfl⟩ (by
        rintro t q st ⟨m,acc,o3,o4,e1,e2,rfl,e3⟩
        cases m with
        | nil=>cases e1
        | cons p m =>
          cases e1
          have ok:=(ho.set p (e2 p List.mem_cons_self)).2
          have bo:=O9 (sto:=sto) hN ok
          have l2:acc.length+p.2.2.length<lim:=by
            have:=congrArg List.length e3
            simp only [List.length_append,List.flatMap_cons,List.length_map] at this
            show _<1000000
            (clear bo ok e3 e2 hF it eN eb hBL lh eh hHL lc ch hn sl i3 i2 ho hH hN; omega)
          refine ⟨_,⟨[some (spT o,false),some (.lst (hl.map T.str),false),some (.lst ((acc++p.2.2.map (·.1)).map T.str),true),some (.str p.1,false),some (smT p.2,false)],sto⟩,by unfold seT; exact Mt,?_,m,acc++p.2.2.map (·.1),_,_,rfl,fun v hv=>e2 v (List.mem_cons_of_mem _ hv),rfl,?_⟩
          · simp [iu,jc,sIf,jk,lg,jj,jo,sNx,dg,sGo,bh,jt,cg,cu,j5,gj,m7,m8,mOr,j7,mIf,mOp,mUn,cj,jg,ak,iy,aq,j8,dw,bw,gq,jw,fj,jm,ltT,leT,lq,jr,ju,kj,j6,mj,mq,j4,iw,au,kh,bo,l2]
          · rw [← e3,List.flatMap_cons,List.append_assoc])
    obtain ⟨m,acc,o3,o4,e1,e2,rfl,e3⟩:=P
    cases m with
    | cons _ _=>cases e1
    | nil =>
      simp only [List.flatMap_nil,List.append_nil] at e3
      subst e3
      exact ⟨o3,o4,rfl⟩
  rw [nq eF]
  generalize hB2:(bl++o.sets.flatMap fun p=>p.2.2.map (·.1))=b2 at *
  have l2:b2.length≤1100:=by rw [← hB2,List.length_append]; (clear eF eN hB2 eb hBL lh eh hHL lc ch hn sl i3 i2 ho hH hN; omega)
  have b2l:b2.length<lim:=by show _<1000000; (clear eF eN hB2 lb eb hBL lh eh hHL lc ll1 ch hn s2 sl i3 i2 ho hH hN; omega)
  have hll:hl.length<lim:=by show _<1000000; (clear b2l l2 eF eN hB2 lb eb hBL eh hHL lc ll1 ch hn s2 sl i3 i2 ho hH hN; omega)
  have c1:=a2y (α:=Nat) (i:=1) (w := "hand") (l:=hl) (s:=⟨[some (spT o,false),some (.lst (hl.map T.str),false),some (.lst (b2.map T.str),true),o3,o4],sto⟩) hll rfl
  have c2:=yt T.str (fun x=>qT ("box",x)) b2 (g:=gq 0) (nv:=1) (ci:=[]) (c:=iw) (it:=jm (cj 2)) (e:=jg (fun l=>some (.tup l)) (ak (aq (.str "box")) (ak (cj 0) iy))) (s:=⟨[some (spT o,false),some (.lst (hl.map T.str),false),some (.lst (b2.map T.str),true),o3,o4],sto⟩) (s1:=⟨[some (spT o,false),some (.lst (hl.map T.str),false),some (.lst (b2.map T.str),false),o3,o4],sto⟩) [some (spT o,false),some (.lst (hl.map T.str),false),some (.lst (b2.map T.str),false),o3,o4] []
    (by simp [iu,jc,sIf,jk,lg,jj,jo,sNx,dg,sGo,bh,jt,cg,cu,j5,gj,m7,m8,mOr,j7,mIf,mOp,mUn,cj,jg,ak,iy,aq,j8,dw,bw,gq,jw,fj,jm,ltT,leT,lq,jr,ju,kj,j6,mj,mq,j4,iw,au,kh,b2l]) rfl rfl rfl (Nat.le_of_lt b2l) (by
      intro p hp pre hpre
      obtain ⟨a,rfl⟩:=C.p1 pre hpre
      exact ⟨[some (.str p,false)],rfl,rfl,rfl,rfl⟩)
  have ec:b2.map (fun x=>qT (("box",x):Q2))=(b2.map fun x=>(("box",x):Q2)).map qT:=by rw [List.map_map]; rfl
  rw [ec] at c2
  rw [eN,List.map_append,List.map_append]
  generalize hC1:(hl.map fun x=>(("hand",x):Q2))=m1 at *
  generalize hC2:(b2.map fun x=>(("box",x):Q2))=m2 at *
  have k1:m1.length≤1000:=by rw [← hC1,List.length_map]; exact lh
  have k2:m2.length≤1100:=by rw [← hC2,List.length_map]; exact l2
  have x1:(CH o).length+m1.length<lim:=by show _<1000000; (clear k2 eN ec c2 hC2 c1 hC1 hll b2l l2 eF hB2 lb eb hBL lh eh hHL ll1 ch hn s2 sl i3 i2 ho hH hN; omega)
  have x2:(CH o).length+m1.length+m2.length<lim:=by show _<1000000; (clear x1 eN ec c2 hC2 c1 hC1 hll b2l l2 eF hB2 lb eb hBL lh eh hHL ll1 ch hn s2 sl i3 i2 ho hH hN; omega)
  simp [iu,jc,sIf,jk,lg,jj,jo,sNx,dg,sGo,bh,jt,cg,cu,j5,gj,m7,m8,mOr,j7,mIf,mOp,mUn,cj,jg,ak,iy,aq,j8,dw,bw,gq,jw,fj,jm,ltT,leT,lq,jr,ju,kj,j6,mj,mq,j4,iw,au,kh,ch,c1,c2,x1,x2]
theorem meets (hN:Oz N) (hH:Y9 H) (hs:OkP N H s) (ho:OkP N H o):Fp [.lst ((CH s).map qT),.lst ((NB o).map qT)] sto=some (.bl (mts s o),sto):=by
  have lc:(CH s).length<lim:=by have:=hs.len; unfold CH; rw [List.length_cons,List.length_map]; show _<1000000; omega
  have okn:=ab2 hN hH ho
  have okc:=aao hN hs
  unfold mts
  generalize NB o=nb at *
  generalize CH s=ch at *
  have c:=yt qT (fun q=>T.bl (decide (q∈nb))) ch (g:=gq 0) (nv:=1) (ci:=[1]) (c:=iw) (it:=jm (cj 0)) (e:=mOp inT (cj 0) (cj 1)) (s:=⟨[some (.lst (ch.map qT),false),some (.lst (nb.map qT),false)],sto⟩) (s1:=⟨[some (.lst (ch.map qT),false),some (.lst (nb.map qT),false)],sto⟩) [some (.lst (ch.map qT),false),some (.lst (nb.map qT),false)] [some (.lst (nb.map qT),false)]
    (by simp [iu,jc,sIf,jk,lg,jj,jo,sNx,dg,sGo,bh,jt,cg,cu,j5,gj,m7,m8,mOr,j7,mIf,mOp,mUn,cj,jg,ak,iy,aq,j8,dw,bw,gq,jw,fj,jm,ltT,leT,lq,jr,ju,kj,j6,mj,mq,j4,iw,au,kh,lc]) rfl rfl rfl (Nat.le_of_lt lc) (by
      intro q hq pre hpre
      obtain ⟨a,rfl⟩:=C.p1 pre hpre
      have e:=acf (okc q hq).1 (okc q hq).2 okn
      exact ⟨[some (qT q,false)],rfl,rfl,rfl,by simp [iu,jc,sIf,jk,lg,jj,jo,sNx,dg,sGo,bh,jt,cg,cu,j5,gj,m7,m8,mOr,j7,mIf,mOp,mUn,cj,jg,ak,iy,aq,j8,dw,bw,gq,jw,fj,jm,ltT,leT,lq,jr,ju,kj,j6,mj,mq,j4,iw,au,kh,e]⟩)
  have bm:∀ l:List Q2,Nm (l.map fun q=>T.bl (decide (q∈nb)))=some (l.map fun q=>decide (q∈nb)):=by
    intro l
    induction l with
    | nil=>rfl
    | cons a l ih=>simp [Nm,ih]
  unfold Fp
  simp [iu,jc,sIf,jk,lg,jj,jo,sNx,dg,sGo,bh,jt,cg,cu,j5,gj,m7,m8,mOr,j7,mIf,mOp,mUn,cj,jg,ak,iy,aq,j8,dw,bw,gq,jw,fj,jm,ltT,leT,lq,jr,ju,kj,j6,mj,mq,j4,iw,au,kh,c,a7f,bm]
theorem parted (hN:Oz N) (hH:Y9 H) {bs:List Bx} {ss:List Sp} (ok:∀ s∈ss,OkP N H s) {i j:Nat} (hi:i<ss.length) (hj:j<ss.length) :
    Fb [prT bs H ss,.int (i:Int),.int (j:Int)] sto=some (.bl (!a2q ss[i] ss[j] && !a2q ss[j] ss[i]),sto):=by
  have i2:iz (prT bs H ss) (.int 2)=some (.lst (ss.map spT)):=J2
  have a1:=O8 spT ss hi
  have a2:=O8 spT ss hj
  have ok1:=ok _ (List.getElem_mem hi)
  have ok2:=ok _ (List.getElem_mem hj)
  have m1:=meets (sto:=sto) hN hH ok1 ok2
  have m2:=meets (sto:=sto) hN hH ok2 ok1
  have c1:=Jb (sto:=sto) ok1
  have c2:=Jb (sto:=sto) ok2
  have n1:=V9 (sto:=sto) hN hH ok1
  have n2:=V9 (sto:=sto) hN hH ok2
  rw [a3a] at m1 m2
  generalize ss[i]=a at *
  generalize ss[j]=b at *
  unfold Fb
  cases h1:a2q a b <;> rw [h1] at m1 <;> simp [iu,jc,sIf,jk,lg,jj,jo,sNx,dg,sGo,bh,jt,cg,cu,j5,gj,m7,m8,mOr,j7,mIf,mOp,mUn,cj,jg,ak,iy,aq,j8,dw,bw,gq,jw,fj,jm,ltT,leT,lq,jr,ju,kj,j6,mj,mq,j4,iw,au,kh,i2,a1,a2,c1,c2,n1,n2,m1,m2]
end
end K
end
noncomputable section
set_option linter.all false
set_option maxRecDepth 100000
set_option autoImplicit false
namespace C
open PySem
theorem a2g {q k:Key} {t:T}:∀ kvs:List (Key × T),G9 q (Rw k t kvs)=if q=k then some t else G9 q kvs:=by
  have hmap:∀ kvs:List (Key × T),G9 q (kvs.map fun p=>if p.1=k then (p.1,t) else p)=if q=k then (if kvs.any fun p=>decide (p.1=k) then some t else none) else G9 q kvs:=by
    intro kvs
    induction kvs with
    | nil=>simp [G9]
    | cons p r ih =>
      obtain ⟨a,x⟩:=p
      rw [List.map_cons]
      by_cases ha:a=k
      · subst ha
        by_cases hq:q=a
        · subst hq; simp [G9]
        · have:¬ a=q:=fun e=>hq e.symm
          simp only [if_true,G9,if_neg this,ih,if_neg hq]
      · by_cases hq:q=k
        · subst hq
          simp only [if_neg ha,G9,ih,if_true,List.any_cons,decide_eq_false ha,Bool.false_or]
        · simp only [if_neg ha,G9,ih,if_neg hq]
  have happ:∀ kvs:List (Key × T),(kvs.any fun p=>decide (p.1=k))=false→G9 q (kvs++[(k,t)])=if q=k then some t else G9 q kvs:=by
    intro kvs
    induction kvs with
    | nil =>
      intro _
      by_cases hq:q=k
      · subst hq; simp [G9]
      · have:¬ k=q:=fun e=>hq e.symm
        simp [G9,this,hq]
    | cons p r ih =>
      obtain ⟨a,x⟩:=p
      intro h
      simp only [List.any_cons,Bool.or_eq_false_iff,decide_eq_false_iff_not] at h
      rw [List.cons_append,G9,G9,ih (by simpa using h.2)]
      by_cases hq:q=k
      · subst hq; simp [h.1]
      · simp [hq]
  intro kvs
  unfold Rw
  by_cases h:(kvs.any fun p=>decide (p.1=k))=true
  · rw [if_pos h,hmap,h]; simp
  · rw [if_neg h]; exact happ kvs (eq_false_of_ne_true h)
end C
namespace K
open C PySem
noncomputable def bk (B:List (Key × T)) (x:Str):Int:=match G9 (.inr x) B with
  | some (.int v)=>v
  | _=>0
structure Bk (N:List Str) (B:List (Key × T)):Prop where
  has:∀ x∈N,∃ v:Int,G9 (.inr x) B=some (.int v)
  nums:∀ p∈B,∃ v:Int,p.2=.int v
  nd:(B.map fun p=>p.1).Nodup
theorem Bk.at {N:List Str} {B:List (Key × T)} (h:Bk N B) {x:Str} (hx:x∈N):G9 (.inr x) B=some (.int (bk B x)):=by
  obtain ⟨v,e⟩:=h.has x hx
  rw [e]; unfold bk; rw [e]
theorem M9 {B:List (Key × T)} {x:Str} {v:T} (h:G9 (.inr x) B=some v):iz (.dic B) (.str x)=some v:=by simp [iz,K4,h]
noncomputable def val (B:List (Key × T)) (s:Sm):Int:=s.1+(s.2.map fun p=>p.2 * bk B p.1).sum
noncomputable section
variable {N:List Str} {H:List Hd} {B G:List (Key × T)} {sto:List SO}
theorem b64 {i:Int} (h0:-4<i) (h1:i<4):Mq i=true:=by simp only [Mq,decide_eq_true_eq]; omega
theorem Wh {α:Type} (f:α→Int):∀ l:List α,Xg (l.map fun a=>T.int (f a))=some (l.map f)
  | []=>rfl
  | a::l=>by simp [Xg,Wh f l]
theorem value {s:Sm} (hN:Oz N) (hs:a5c N s) (hB:Bk N B):Cy [smT s,.dic B] sto=some (.int (val B s),sto):=by
  have hl:=a5y hN hs
  unfold Cy smT
  simp [iu,jc,sIf,jk,lg,jj,jo,sNx,dg,sGo,bh,jt,cg,cu,j5,gj,m7,m8,mOr,j7,mIf,mOp,mUn,cj,jg,ak,iy,aq,j8,dw,bw,gq,jw,fj,jm,ltT,leT,lq,jr,ju,kj,j6,mj,mq,j4,iw,au,kh,zc]
  generalize hF:zj _ _ _ _ _ _ _=r
  obtain rfl:=Ut hF pT (fun p=>.int (p.2 * bk B p.1)) s.2 ⟨[some (smT s,false),some (.dic B,false)],sto⟩ [some (smT s,false),some (.dic B,false)] [some (.dic B,false)]
    (by unfold smT; simp [iu,jc,sIf,jk,lg,jj,jo,sNx,dg,sGo,bh,jt,cg,cu,j5,gj,m7,m8,mOr,j7,mIf,mOp,mUn,cj,jg,ak,iy,aq,j8,dw,bw,gq,jw,fj,jm,ltT,leT,lq,jr,ju,kj,j6,mj,mq,j4,iw,au,kh,Bp,hl]) rfl rfl rfl (Nat.le_of_lt hl) (by
      intro p hp pre hpre
      obtain ⟨a,b,rfl⟩:∃ a b,pre=[a,b]:=by
        match pre,hpre with
        | [a,b],_=>exact ⟨a,b,rfl⟩
      obtain ⟨h1,h2,h3⟩:=hs.2 p hp
      refine ⟨[some (.str p.1,false),some (.int p.2,false)],rfl,by unfold pT; rw [Mt]; rfl,rfl,?_⟩
      simp [iu,jc,sIf,jk,lg,jj,jo,sNx,dg,sGo,bh,jt,cg,cu,j5,gj,m7,m8,mOr,j7,mIf,mOp,mUn,cj,jg,ak,iy,aq,j8,dw,bw,gq,jw,fj,jm,ltT,leT,lq,jr,ju,kj,j6,mj,mq,j4,iw,au,kh,iz,K4,hB.at h1,Mh,b64 h2 h3])
  simp [iu,jc,sIf,jk,lg,jj,jo,sNx,dg,sGo,bh,jt,cg,cu,j5,gj,m7,m8,mOr,j7,mIf,mOp,mUn,cj,jg,ak,iy,aq,j8,dw,bw,gq,jw,fj,jm,ltT,leT,lq,jr,ju,kj,j6,mj,mq,j4,iw,au,kh,a6f,Wh,val]
mutual
noncomputable def tv (B G:List (Key × T)):Rem→Bool
  | .most s=>decide (val B s≤0)
  | .rest s m=>val B s%m==0
  | .pl h p=>bk G h==p
  | .all l=>a2n B G l
  | .any l=>a1x B G l
  | .no r=>!tv B G r
noncomputable def a2n (B G:List (Key × T)):List Rem→Bool
  | []=>true
  | r::l=>tv B G r&&a2n B G l
noncomputable def a1x (B G:List (Key × T)):List Rem→Bool
  | []=>false
  | r::l=>tv B G r||a1x B G l
end
theorem Kd:∀ l:List Rem,a2n B G l=!(l.any fun r=>tv B G r==false)
  | []=>rfl
  | r::l=>by rw [a2n,Kd l,List.any_cons]; cases tv B G r <;> simp
theorem K7:∀ l:List Rem,a1x B G l=l.any fun r=>tv B G r==true
  | []=>rfl
  | r::l=>by rw [a1x,K7 l,List.any_cons]; cases tv B G r <;> simp
theorem a5j {a b:Bool}:eqO (.bl a) (.bl b)=some (.bl (a==b)):=by simp [eqO,eqT,eqD,dat,PyData.depth,PyData.eqv]
theorem V2 {k:Nat} {w:Bool} {ms:T}:∀ (l:List Rem) (o:Slot),(∀ r∈l,v8 k [yj r,.dic B,.dic G] sto=some (.bl (tv B G r),sto)) →
    ∃ o',Fo (gq 4) (sIf (gj (mOp eqO (dw (v8 k) (ak (cj 4) (ak (cj 2) (ak (cj 3) iy)))) (cj 0))) (jj (aq (.bl true))) jo) (l.map yj) ⟨[some (.bl w,false),some (ms,false),some (.dic B,false),some (.dic G,false),o],sto⟩
      = some (if (l.any fun r=>tv B G r==w) then .ret (.bl true) else .next,⟨[some (.bl w,false),some (ms,false),some (.dic B,false),some (.dic G,false),o'],sto⟩)
  | [],o,_=>⟨o,by simp [Fo]⟩
  | r::l,o,h=>by
    have h1:=h r List.mem_cons_self
    obtain ⟨o',e⟩:=V2 (w:=w) (ms:=ms) l (some (yj r,false)) fun q hq=>h q (List.mem_cons_of_mem _ hq)
    cases hw:(tv B G r==w) with
    | true =>
      refine ⟨some (yj r,false),?_⟩
      rw [List.map_cons,Fo]
      simp [iu,jc,sIf,jk,lg,jj,jo,sNx,dg,sGo,bh,jt,cg,cu,j5,gj,m7,m8,mOr,j7,mIf,mOp,mUn,cj,jg,ak,iy,aq,j8,dw,bw,gq,jw,fj,jm,ltT,leT,lq,jr,ju,kj,j6,mj,mq,j4,iw,au,kh,h1,a5j,hw]
    | false =>
      refine ⟨o',?_⟩
      rw [List.map_cons,Fo]
      simp [iu,jc,sIf,jk,lg,jj,jo,sNx,dg,sGo,bh,jt,cg,cu,j5,gj,m7,m8,mOr,j7,mIf,mOp,mUn,cj,jg,ak,iy,aq,j8,dw,bw,gq,jw,fj,jm,ltT,leT,lq,jr,ju,kj,j6,mj,mq,j4,iw,au,kh,h1,a5j,hw]
      simpa using e
theorem a5s {k:Nat} {w:Bool} {l:List Rem} (hl:l.length≤5) (h:∀ r∈l,v8 k [yj r,.dic B,.dic G] sto=some (.bl (tv B G r),sto)) :
    Dl (k+1) [.bl w,.tup (l.map yj),.dic B,.dic G] sto=some (.bl (l.any fun r=>tv B G r==w),sto):=by
  have lm:l.length<lim:=by show _<1000000; omega
  obtain ⟨o',e⟩:=V2 (w:=w) (ms:=.tup (l.map yj)) l none h
  unfold Dl
  cases hw:l.any fun r=>tv B G r==w
  all_goals
    rw [hw] at e
    simp only [if_true,if_false,Bool.false_eq_true] at e
    simp [iu,jc,jt,jm,cj,lm,e,jj,aq]
theorem holds (hN:Oz N) (hB:Bk N B) (hG:Bk (H.map (·.1)) G) {d:Nat} {r:Rem} (h:OkR N H d r):∀ k,2 * d<k→v8 k [yj r,.dic B,.dic G] sto=some (.bl (tv B G r),sto):=by
  induction h with
  | most h =>
    intro k hk
    obtain ⟨k,rfl⟩:∃ j,k=j+1:=⟨k - 1,by omega⟩
    unfold v8 yj tv
    simp [iu,jc,sIf,jk,lg,jj,jo,sNx,dg,sGo,bh,jt,cg,cu,j5,gj,m7,m8,mOr,j7,mIf,mOp,mUn,cj,jg,ak,iy,aq,j8,dw,bw,gq,jw,fj,jm,ltT,leT,lq,jr,ju,kj,j6,mj,mq,j4,iw,au,kh,zc,Bp,qe,qm,wu,u9,uo,ql,qj,wz,ug,uq,wj,xq,Bt,Af,Aa,uf,um,Ae,wg,yg,ud,uc,Ac,xr,xg,xu,yd,Bu,Ab,Ad,Dy,Ef,Dz,Eh,Eb,Ej,Vl,Vy,Wa,Ih,J1,Ho,Hl,Ie,Iu,V3,W4,Uz,value hN h hB]
  | rest h a b =>
    rename_i m
    intro k hk
    obtain ⟨k,rfl⟩:∃ j,k=j+1:=⟨k - 1,by (clear b a h hG hB hN; omega)⟩
    have hm:0<m:=by omega
    unfold v8 yj tv
    simp [iu,jc,sIf,jk,lg,jj,jo,sNx,dg,sGo,bh,jt,cg,cu,j5,gj,m7,m8,mOr,j7,mIf,mOp,mUn,cj,jg,ak,iy,aq,j8,dw,bw,gq,jw,fj,jm,ltT,leT,lq,jr,ju,kj,j6,mj,mq,j4,iw,au,kh,zc,Bp,J2,qe,qm,wu,u9,uo,ql,qj,wz,ug,uq,wj,xq,Bt,Af,Aa,uf,um,Ae,wg,yg,ud,uc,Ac,xr,xg,xu,yd,Bu,Ab,Ad,Dy,Ef,Dz,Eh,Eb,Ej,Vl,Vy,Wa,Ih,J1,Ho,Hl,Ie,Iu,V3,W4,Uz,value hN h hB,hm,qy]
  | pl h _ _ =>
    intro k hk
    obtain ⟨k,rfl⟩:∃ j,k=j+1:=⟨k - 1,by omega⟩
    have hi:=hG.at (List.mem_map.mpr ⟨_,h,rfl⟩)
    unfold v8 yj tv
    simp [iu,jc,sIf,jk,lg,jj,jo,sNx,dg,sGo,bh,jt,cg,cu,j5,gj,m7,m8,mOr,j7,mIf,mOp,mUn,cj,jg,ak,iy,aq,j8,dw,bw,gq,jw,fj,jm,ltT,leT,lq,jr,ju,kj,j6,mj,mq,j4,iw,au,kh,zc,Bp,J2,qe,qm,wu,u9,uo,ql,qj,wz,ug,uq,wj,xq,Bt,Af,Aa,uf,um,Ae,wg,yg,ud,uc,Ac,xr,xg,xu,yd,Bu,Ab,Ad,Dy,Ef,Dz,Eh,Eb,Ej,Vl,Vy,Wa,Ih,J1,Ho,Hl,Ie,Iu,V3,W4,Uz,qy,M9 hi]
  | all hl _ ih =>
    intro k hk
    obtain ⟨k,rfl⟩:∃ j,k=j+2:=⟨k - 2,by omega⟩
    have e:=a5s (w:=false) hl fun r hr=>ih r hr k (by omega)
    unfold v8 yj tv
    simp [iu,jc,sIf,jk,lg,jj,jo,sNx,dg,sGo,bh,jt,cg,cu,j5,gj,m7,m8,mOr,j7,mIf,mOp,mUn,cj,jg,ak,iy,aq,j8,dw,bw,gq,jw,fj,jm,ltT,leT,lq,jr,ju,kj,j6,mj,mq,j4,iw,au,kh,zc,Bp,qe,qm,wu,u9,uo,ql,qj,wz,ug,uq,wj,xq,Bt,Af,Aa,uf,um,Ae,wg,yg,ud,uc,Ac,xr,xg,xu,yd,Bu,Ab,Ad,Dy,Ef,Dz,Eh,Eb,Ej,Vl,Vy,Wa,Ih,J1,Ho,Hl,Ie,Iu,V3,W4,Uz,G3,e,Kd]
  | any hl _ ih =>
    intro k hk
    obtain ⟨k,rfl⟩:∃ j,k=j+2:=⟨k - 2,by omega⟩
    have e:=a5s (w:=true) hl fun r hr=>ih r hr k (by omega)
    unfold v8 yj tv
    simp [iu,jc,sIf,jk,lg,jj,jo,sNx,dg,sGo,bh,jt,cg,cu,j5,gj,m7,m8,mOr,j7,mIf,mOp,mUn,cj,jg,ak,iy,aq,j8,dw,bw,gq,jw,fj,jm,ltT,leT,lq,jr,ju,kj,j6,mj,mq,j4,iw,au,kh,zc,Bp,qe,qm,wu,u9,uo,ql,qj,wz,ug,uq,wj,xq,Bt,Af,Aa,uf,um,Ae,wg,yg,ud,uc,Ac,xr,xg,xu,yd,Bu,Ab,Ad,Dy,Ef,Dz,Eh,Eb,Ej,Vl,Vy,Wa,Ih,J1,Ho,Hl,Ie,Iu,V3,W4,Uz,G3,e,K7]
  | no _ ih =>
    intro k hk
    obtain ⟨k,rfl⟩:∃ j,k=j+1:=⟨k - 1,by omega⟩
    unfold v8 yj tv
    simp [iu,jc,sIf,jk,lg,jj,jo,sNx,dg,sGo,bh,jt,cg,cu,j5,gj,m7,m8,mOr,j7,mIf,mOp,mUn,cj,jg,ak,iy,aq,j8,dw,bw,gq,jw,fj,jm,ltT,leT,lq,jr,ju,kj,j6,mj,mq,j4,iw,au,kh,zc,Bp,qe,qm,wu,u9,uo,ql,qj,wz,ug,uq,wj,xq,Bt,Af,Aa,uf,um,Ae,wg,yg,ud,uc,Ac,xr,xg,xu,yd,Bu,Ab,Ad,Dy,Ef,Dz,Eh,Eb,Ej,Vl,Vy,Wa,Ih,J1,Ho,Hl,Ie,Iu,V3,W4,Uz,ih k (by omega)]
end
end K
end
noncomputable section
set_option linter.all false
set_option maxRecDepth 100000
set_option autoImplicit false
namespace C
open PySem
theorem a2j {k:Key} {t:T} {D:List (Key × T)} (h:k∉D.map (·.1)):Rw k t D=D++[(k,t)]:=by
  unfold Rw
  rw [if_neg]
  intro z
  obtain ⟨p,hp,e⟩:=List.any_eq_true.mp z
  exact h (List.mem_map.mpr ⟨p,hp,by simpa using e⟩)
theorem a75 {l:List (Key × T)} (h:(l.map (·.1)).Nodup):l.foldl (fun d p=>Rw p.1 p.2 d) []=l:=by
  have go:∀ (l D:List (Key × T)),((D++l).map (·.1)).Nodup→l.foldl (fun d p=>Rw p.1 p.2 d) D=D++l:=by
    intro l
    induction l with
    | nil=>intro D _; simp
    | cons p l ih =>
      intro D h
      have hp:p.1∉D.map (·.1):=by
        rw [List.map_append,List.map_cons] at h
        intro z
        exact (List.nodup_append.mp h).2.2 p.1 z p.1 List.mem_cons_self rfl
      rw [List.foldl_cons,a2j hp,ih _ (by simpa using h)]
      simp
  simpa using go l [] (by simpa using h)
end C
namespace K
open C PySem
noncomputable def dn (N:List Str) (f:Str→Int):List (Key × T):=N.map fun x=>(.inr x,.int (f x))
theorem Ra {f:Str→Int} {x:Str}:∀ {N:List Str},x∈N→G9 (.inr x) (dn N f)=some (.int (f x))
  | [],h=>by cases h
  | y::N,h=>by
    unfold dn
    rw [List.map_cons,G9]
    by_cases e:y=x
    · subst e; simp
    · rw [if_neg (by simpa using e)]
      exact Ra ((List.mem_cons.mp h).resolve_left fun z=>e z.symm)
theorem a0q (N:List Str) (f:Str→Int):(dn N f).map (fun p=>p.1)=N.map Sum.inr:=by
  unfold dn; rw [List.map_map]; rfl
theorem a5b {N:List Str} (h:N.Nodup):(N.map (Sum.inr:Str→Key)).Nodup:=List.Pairwise.map _ (fun a b hab e=>hab (Sum.inr.inj e)) h
theorem a6d {N:List Str} {f:Str→Int} (h:N.Nodup):Bk N (dn N f) :=
  ⟨fun x hx=>⟨_,Ra hx⟩,fun p hp=>by obtain ⟨x,_,rfl⟩:=List.mem_map.mp hp; exact ⟨_,rfl⟩,by rw [a0q]; exact a5b h⟩
theorem a6y {N:List Str} {f:Str→Int} {x:Str} (h:x∈N):bk (dn N f) x=f x:=by unfold bk; rw [Ra h]
theorem a4z {N:List Str} {f:Str→Int} (h:N.Nodup) (hl:N.length<lim) {ks:List T} (hk:ks=N.map T.str) {vs:List T} (hv:vs=N.map fun x=>T.int (f x)):Kf (.lst ks) (.tup vs)=some (.dic (dn N f)):=by
  subst hk hv
  have z:∀ N:List Str,a6x (N.map T.str) (N.map fun x=>T.int (f x))=N.map fun x=>.tup [.str x,.int (f x)]:=by
    intro N
    induction N with
    | nil=>rfl
    | cons x N ih=>unfold a6x at ih ⊢; rw [List.map_cons,List.map_cons,List.zip_cons_cons,List.map_cons,ih]; rfl
  have p:∀ N:List Str,Bw (N.map fun x=>T.tup [.str x,.int (f x)])=some (dn N f):=by
    intro N
    induction N with
    | nil=>rfl
    | cons x N ih=>rw [List.map_cons,Bw,ih]; rfl
  have l1:(N.map T.str).length<lim:=by rw [List.length_map]; exact hl
  have l2:(N.map fun x=>T.int (f x)).length<lim:=by rw [List.length_map]; exact hl
  unfold Kf
  simp only [j4]
  rw [if_pos ⟨l1,l2⟩,z,p,Option.map_some,a75 (by rw [a0q]; exact a5b h)]
noncomputable def stT (bs:List Bx) (H:List Hd) (g f:Str→Int):T:=.tup [.tup (H.map fun h=>.int (g h.1)),.tup (bs.map fun b=>.int (f b.nm))]
noncomputable section
variable {bs:List Bx} {H:List Hd} {ss:List Sp} {sto:List SO} {g f:Str→Int} {s:Sp}
noncomputable abbrev nB (bs:List Bx):List Str:=bs.map (·.nm)
noncomputable abbrev nH (H:List Hd):List Str:=H.map (·.1)
theorem Pj.lB (ok:Pj bs H ss):bs.length<lim:=by have:=ok.ns.1; rw [List.length_map] at this; show _<1000000; omega
theorem Pj.lH (ok:Pj bs H ss):H.length<lim:=by have:=ok.hs.2.1; show _<1000000; omega
theorem Zv (ok:Pj bs H ss):Bc [prT bs H ss,stT bs H g f] sto=some (.dic (dn (nB bs) f),sto):=by
  have i0:iz (prT bs H ss) (.int 0)=some (.lst (bs.map bxT)):=zc
  have j1:iz (stT bs H g f) (.int 1)=some (.tup (bs.map fun b=>.int (f b.nm))):=Bp
  have lb:=ok.lB
  have c:=yt bxT (fun b=>T.str b.nm) bs (g:=gq 0) (nv:=1) (ci:=[]) (c:=iw) (it:=jm (mOp iz (cj 0) (aq (.int 0)))) (e:=mOp iz (cj 0) (aq (.int 0))) (s:=⟨[some (prT bs H ss,false),some (stT bs H g f,false)],sto⟩) (s1:=⟨[some (prT bs H ss,false),some (stT bs H g f,false)],sto⟩) [some (prT bs H ss,false),some (stT bs H g f,false)] []
    (by simp [iu,jc,sIf,jk,lg,jj,jo,sNx,dg,sGo,bh,jt,cg,cu,j5,gj,m7,m8,mOr,j7,mIf,mOp,mUn,cj,jg,ak,iy,aq,j8,dw,bw,gq,jw,fj,jm,ltT,leT,lq,jr,ju,kj,j6,mj,mq,j4,iw,au,kh,i0,lb]) rfl rfl rfl (Nat.le_of_lt lb) (by
      intro b hb pre hp
      obtain ⟨a,rfl⟩:=C.p1 pre hp
      exact ⟨[some (bxT b,false)],rfl,rfl,rfl,by simp [iu,jc,sIf,jk,lg,jj,jo,sNx,dg,sGo,bh,jt,cg,cu,j5,gj,m7,m8,mOr,j7,mIf,mOp,mUn,cj,jg,ak,iy,aq,j8,dw,bw,gq,jw,fj,jm,ltT,leT,lq,jr,ju,kj,j6,mj,mq,j4,iw,au,kh,bxT,zc]⟩)
  have z:=a4z (f:=f) ok.ndB (by rw [List.length_map]; exact lb) (ks:=bs.map fun b=>T.str b.nm) (by rw [List.map_map]; rfl) (vs:=bs.map fun b=>.int (f b.nm)) (by rw [List.map_map]; rfl)
  unfold Bc
  simp [iu,jc,sIf,jk,lg,jj,jo,sNx,dg,sGo,bh,jt,cg,cu,j5,gj,m7,m8,mOr,j7,mIf,mOp,mUn,cj,jg,ak,iy,aq,j8,dw,bw,gq,jw,fj,jm,ltT,leT,lq,jr,ju,kj,j6,mj,mq,j4,iw,au,kh,c,j1,z]
theorem Rg (ok:Pj bs H ss):yp [prT bs H ss,stT bs H g f] sto=some (.dic (dn (nH H) g),sto):=by
  have i1:iz (prT bs H ss) (.int 1)=some (.lst (H.map hT)):=Bp
  have j0:iz (stT bs H g f) (.int 0)=some (.tup (H.map fun h=>.int (g h.1))):=zc
  have lb:=ok.lH
  have c:=yt hT (fun b=>T.str b.1) H (g:=gq 0) (nv:=1) (ci:=[]) (c:=iw) (it:=jm (mOp iz (cj 0) (aq (.int 1)))) (e:=mOp iz (cj 0) (aq (.int 0))) (s:=⟨[some (prT bs H ss,false),some (stT bs H g f,false)],sto⟩) (s1:=⟨[some (prT bs H ss,false),some (stT bs H g f,false)],sto⟩) [some (prT bs H ss,false),some (stT bs H g f,false)] []
    (by simp [iu,jc,sIf,jk,lg,jj,jo,sNx,dg,sGo,bh,jt,cg,cu,j5,gj,m7,m8,mOr,j7,mIf,mOp,mUn,cj,jg,ak,iy,aq,j8,dw,bw,gq,jw,fj,jm,ltT,leT,lq,jr,ju,kj,j6,mj,mq,j4,iw,au,kh,i1,lb]) rfl rfl rfl (Nat.le_of_lt lb) (by
      intro b hb pre hp
      obtain ⟨a,rfl⟩:=C.p1 pre hp
      exact ⟨[some (hT b,false)],rfl,rfl,rfl,by simp [iu,jc,sIf,jk,lg,jj,jo,sNx,dg,sGo,bh,jt,cg,cu,j5,gj,m7,m8,mOr,j7,mIf,mOp,mUn,cj,jg,ak,iy,aq,j8,dw,bw,gq,jw,fj,jm,ltT,leT,lq,jr,ju,kj,j6,mj,mq,j4,iw,au,kh,hT,zc]⟩)
  have z:=a4z (f:=g) ok.ndH (by rw [List.length_map]; exact lb) (ks:=H.map fun b=>T.str b.1) (by rw [List.map_map]; rfl) (vs:=H.map fun h=>.int (g h.1)) (by rw [List.map_map]; rfl)
  unfold yp
  simp [iu,jc,sIf,jk,lg,jj,jo,sNx,dg,sGo,bh,jt,cg,cu,j5,gj,m7,m8,mOr,j7,mIf,mOp,mUn,cj,jg,ak,iy,aq,j8,dw,bw,gq,jw,fj,jm,ltT,leT,lq,jr,ju,kj,j6,mj,mq,j4,iw,au,kh,c,j0,z]
noncomputable def lkL (l:List (Str × Sm)) (x:Str):Option Sm:=l.foldl (fun acc p=>if p.1=x then some p.2 else acc) none
noncomputable def a5z (l:List (Str × Sm)):List (Key × T):=l.foldl (fun d p=>Rw (.inr p.1) (smT p.2) d) []
theorem a2b (x:Str) (l:List (Str × Sm)):G9 (.inr x) (a5z l)=(lkL l x).map smT:=by
  have go:∀ (l:List (Str × Sm)) (D:List (Key × T)) (o:Option Sm),G9 (.inr x) D=o.map smT→G9 (.inr x) (l.foldl (fun d p=>Rw (.inr p.1) (smT p.2) d) D)=(l.foldl (fun acc p=>if p.1=x then some p.2 else acc) o).map smT:=by
    intro l
    induction l with
    | nil=>intro D o h; exact h
    | cons p l ih =>
      intro D o h
      rw [List.foldl_cons,List.foldl_cons] -- here
      refine ih _ _ ?_
      rw [a2g]
      by_cases e:p.1=x
      · rw [if_pos (by rw [e]),if_pos e]; rfl
      · rw [if_neg (by simpa using fun z=>e z.symm),if_neg e]; exact h
  exact go l [] none rfl
theorem Ny {x:Str} {l:List (Str × Sm)} {y:Sm} (h:lkL l x=some y):∃ p∈l,p.1=x∧p.2=y:=by
  have go:∀ (l:List (Str × Sm)) (o:Option Sm),l.foldl (fun acc p=>if p.1=x then some p.2 else acc) o=some y→o=some y∨∃ p∈l,p.1=x∧p.2=y:=by
    intro l
    induction l with
    | nil=>intro o h; exact .inl h
    | cons p l ih =>
      intro o h
      rw [List.foldl_cons] at h
      rcases ih _ h with z | ⟨q,hq,z⟩
      · by_cases e:p.1=x
        · rw [if_pos e] at z; exact .inr ⟨p,List.mem_cons_self,e,Option.some.inj z⟩
        · rw [if_neg e] at z; exact .inl z
      · exact .inr ⟨q,List.mem_cons_of_mem _ hq,z⟩
  rcases go l none h with z | z
  · cases z
  · exact z
theorem a2f {x:Str} {l:List (Str × Sm)} (h:x∉l.map (·.1)):lkL l x=none:=by
  cases e:lkL l x with
  | none=>rfl
  | some y =>
    obtain ⟨p,hp,e1,_⟩:=Ny e
    exact absurd (List.mem_map.mpr ⟨p,hp,e1⟩) h
theorem a0f {l:List (Str × Sm)} (hl:l.length<lim):Mp [.tup (l.map seT)]=some (.dic (a5z l)):=by
  have p:∀ l:List (Str × Sm),Bw (l.map seT)=some (l.map fun p=>((.inr p.1:Key),smT p.2)):=by
    intro l
    induction l with
    | nil=>rfl
    | cons x l ih=>rw [List.map_cons,seT,Bw,ih]; rfl
  have l1:(l.map seT).length<lim:=by rw [List.length_map]; exact hl
  simp only [Mp,if_pos l1,p,Option.map_some,List.foldl_map,a5z]
noncomputable def vl (f:Str→Int) (y:Sm):Int:=y.1+(y.2.map fun p=>p.2 * f p.1).sum
theorem Pr {N:List Str} {y:Sm} (h:∀ p∈y.2,p.1∈N):val (dn N f) y=vl f y:=by
  unfold val vl
  congr 2
  apply List.map_congr_left
  intro p hp
  rw [a6y (h p hp)]
noncomputable def nv (f:Str→Int) (s:Sp) (x:Str):Int:=match lkL s.sets x with | some y=>vl f y | none=>f x
noncomputable def Ti (f:Str→Int) (s:Sp) (b:Bx):Bool:=match lkL s.sets b.nm with | some y=>decide (b.lo≤vl f y)&&decide (vl f y≤b.hi) | none=>true
noncomputable def ng (g:Str→Int) (s:Sp) (x:Str):Int:=if x=s.hand then s.there else g x
theorem a66 {a b c d e:T} {i j k l m:Nat} {s:Sta}:jw [i,j,k,l,m] (.tup [a,b,c,d,e]) s=some (bw m e false (bw l d false (bw k c false (bw j b false (bw i a false s))))):=by simp [jw]
theorem Kz (ok:Pj bs H ss) (hs:OkP (nB bs) H s):∀ (rest:List Bx) (acc:List Int) (o5 o6 o7 o8 o9 o10:Slot),(∀ b∈rest,b∈bs)→acc.length+rest.length≤2→∃ p5 p6 p7 p8 p9 p10:Slot,∃ vs:List Int,(rest.all (Ti f s)=true→vs=acc++rest.map fun b=>nv f s b.nm) ∧
    Fo (jw [5,6,7,8,9]) (jc (jk 10 (mIf (gj (mOp inT (cj 5) (cj 3))) (dw Cy (ak (mOp iz (cj 3) (cj 5)) (ak (cj 1) iy))) (mOp iz (cj 1) (cj 5))))
      (jc (sIf (m8 (gj (mOp inT (cj 5) (cj 3))) (mOr (gj (mOp ltT (cj 10) (cj 7))) (gj (mOp gtT (cj 10) (cj 8)))))
      (jj (aq .non))
      jo)
      (cg 4 (cj 10)))) (rest.map bxT) ⟨[some (prT bs H ss,false),some (.dic (dn (nB bs) f),false),some (spT s,false),some (.dic (a5z s.sets),false),some (.lst (acc.map T.int),true),o5,o6,o7,o8,o9,o10],sto⟩
      = some (if rest.all (Ti f s)=true then .next else .ret .non,⟨[some (prT bs H ss,false),some (.dic (dn (nB bs) f),false),some (spT s,false),some (.dic (a5z s.sets),false),some (.lst (vs.map T.int),true),p5,p6,p7,p8,p9,p10],sto⟩)
  | [],acc,o5,o6,o7,o8,o9,o10,_,_=>⟨o5,o6,o7,o8,o9,o10,acc,fun _=>by simp,by simp [Fo]⟩
  | b::rest,acc,o5,o6,o7,o8,o9,o10,hb,hl=>by
    have bm:=hb b List.mem_cons_self
    have bn:b.nm∈nB bs:=List.mem_map.mpr ⟨b,bm,rfl⟩
    simp only [List.length_cons] at hl
    have al:acc.length<lim:=by show _<1000000; omega
    have g1:=Ra (f:=f) bn
    have sg:=a2b b.nm s.sets
    have i1:=M9 g1
    cases hk:lkL s.sets b.nm with
    | none =>
      rw [hk] at sg
      have it:inT (.str b.nm) (.dic (a5z s.sets))=some (.bl false):=by simp [inT,K4,sg]
      have fb:Ti f s b=true:=by unfold Ti; rw [hk]
      have en:nv f s b.nm=f b.nm:=by unfold nv; rw [hk]
      obtain ⟨p5,p6,p7,p8,p9,p10,vs,hv,e⟩:=Kz ok hs rest (acc++[f b.nm]) (some (.str b.nm,false)) (some (.str "",false)) (some (.int b.lo,false)) (some (.int b.hi,false)) (some (.int b.st,false)) (some (.int (f b.nm),false)) (fun c hc=>hb c (List.mem_cons_of_mem _ hc)) (by rw [List.length_append,List.length_singleton]; (clear en fb it hk i1 sg g1 al bn bm hb hs ok; omega))
      refine ⟨p5,p6,p7,p8,p9,p10,vs,fun h=>?_,?_⟩
      · rw [List.all_cons,fb,Bool.true_and] at h
        rw [hv h,List.map_cons,en]; simp
      · rw [List.map_cons,Fo]
        dsimp only
        rw [show jw [5,6,7,8,9] (bxT b) _=_ from a66]
        rw [List.all_cons,fb,Bool.true_and,← e]
        simp [iu,jc,sIf,jk,lg,jj,jo,sNx,dg,sGo,bh,jt,cg,cu,j5,gj,m7,m8,mOr,j7,mIf,mOp,mUn,cj,jg,ak,iy,aq,j8,dw,bw,gq,jw,fj,jm,ltT,leT,lq,jr,ju,kj,j6,mj,mq,j4,iw,au,kh,it,i1,al]
    | some y =>
      rw [hk] at sg
      obtain ⟨p,hp,e1,e2⟩:=Ny hk
      have oky:=(hs.set p hp).2
      rw [e2] at oky
      have it:inT (.str b.nm) (.dic (a5z s.sets))=some (.bl true):=by simp [inT,K4,sg]
      have i3:iz (.dic (a5z s.sets)) (.str b.nm)=some (smT y):=by simp [iz,K4,sg]
      have va:=value (sto:=sto) ok.ns oky (a6d (f:=f) ok.ndB)
      rw [Pr fun p hp=>(oky.2 p hp).1] at va
      have en:nv f s b.nm=vl f y:=by unfold nv; rw [hk]
      by_cases hf:Ti f s b=true
      · have hf':=hf
        unfold Ti at hf'
        rw [hk] at hf'
        simp only [Bool.and_eq_true,decide_eq_true_eq] at hf'
        have c1:decide (vl f y<b.lo)=false:=decide_eq_false (by (clear hf en va i3 it oky e2 e1 hp hk sg i1 g1 al bn bm hl hb hs ok; omega))
        have c2:decide (b.hi<vl f y)=false:=decide_eq_false (by (clear c1 hf en va i3 it oky e2 e1 hp hk sg i1 g1 al bn bm hl hb hs ok; omega))
        have d1:¬ (vl f y<b.lo):=by (clear c2 c1 hf en va i3 it oky e2 e1 hp hk sg i1 g1 al bn bm hl hb hs ok; omega)
        have d2:¬ (b.hi<vl f y):=by (clear d1 c2 c1 hf en va i3 it oky e2 e1 hp hk sg i1 g1 al bn bm hl hb hs ok; omega)
        obtain ⟨p5,p6,p7,p8,p9,p10,vs,hv,e⟩:=Kz ok hs rest (acc++[vl f y]) (some (.str b.nm,false)) (some (.str "",false)) (some (.int b.lo,false)) (some (.int b.hi,false)) (some (.int b.st,false)) (some (.int (vl f y),false)) (fun c hc=>hb c (List.mem_cons_of_mem _ hc)) (by rw [List.length_append,List.length_singleton]; (clear d2 d1 c2 c1 hf' hf en va i3 it oky e2 e1 hp hk sg i1 g1 al bn bm hb hs ok; omega))
        refine ⟨p5,p6,p7,p8,p9,p10,vs,fun h=>?_,?_⟩
        · rw [List.all_cons,hf,Bool.true_and] at h
          rw [hv h,List.map_cons,en]; simp
        · rw [List.map_cons,Fo]
          dsimp only
          rw [show jw [5,6,7,8,9] (bxT b) _=_ from a66]
          rw [List.all_cons,hf,Bool.true_and,← e]
          simp [iu,jc,sIf,jk,lg,jj,jo,sNx,dg,sGo,bh,jt,cg,cu,j5,gj,m7,m8,mOr,j7,mIf,mOp,mUn,cj,jg,ak,iy,aq,j8,dw,bw,gq,jw,fj,jm,ltT,leT,lq,jr,ju,kj,j6,mj,mq,j4,iw,au,kh,it,i3,va,gtT,d1,d2,al]
      · have hf2:Ti f s b=false:=eq_false_of_ne_true hf
        have hf':=hf2
        unfold Ti at hf'
        rw [hk] at hf'
        have out:vl f y<b.lo∨b.hi<vl f y:=by
          by_cases h1:b.lo≤vl f y
          · right
            simp only [decide_eq_true h1,Bool.true_and,decide_eq_false_iff_not] at hf'
            (clear h1 hf2 hf en va i3 it oky e2 e1 hp hk sg i1 g1 al bn bm hl hb hs ok; omega)
          · left; (clear hf' hf2 hf en va i3 it oky e2 e1 hp hk sg i1 g1 al bn bm hl hb hs ok; omega)
        refine ⟨some (.str b.nm,false),some (.str "",false),some (.int b.lo,false),some (.int b.hi,false),some (.int b.st,false),some (.int (vl f y),false),acc,fun h=>?_,?_⟩
        · rw [List.all_cons,hf2] at h; cases h
        · rw [List.map_cons,Fo]
          dsimp only
          rw [show jw [5,6,7,8,9] (bxT b) _=_ from a66]
          rw [List.all_cons,hf2,Bool.false_and]
          by_cases d1:vl f y<b.lo
          · simp [iu,jc,sIf,jk,lg,jj,jo,sNx,dg,sGo,bh,jt,cg,cu,j5,gj,m7,m8,mOr,j7,mIf,mOp,mUn,cj,jg,ak,iy,aq,j8,dw,bw,gq,jw,fj,jm,ltT,leT,lq,jr,ju,kj,j6,mj,mq,j4,iw,au,kh,it,i3,va,gtT,d1]
          · have d2:b.hi<vl f y:=out.resolve_left d1
            simp [iu,jc,sIf,jk,lg,jj,jo,sNx,dg,sGo,bh,jt,cg,cu,j5,gj,m7,m8,mOr,j7,mIf,mOp,mUn,cj,jg,ak,iy,aq,j8,dw,bw,gq,jw,fj,jm,ltT,leT,lq,jr,ju,kj,j6,mj,mq,j4,iw,au,kh,it,i3,va,gtT,d1,d2]
theorem Hw (ok:Pj bs H ss) (hs:OkP (nB bs) H s):n6 [prT bs H ss,.dic (dn (nB bs) f),spT s] sto=some (if bs.all (Ti f s)=true then .tup (bs.map fun b=>.int (nv f s b.nm)) else .non,sto):=by
  have i0:iz (prT bs H ss) (.int 0)=some (.lst (bs.map bxT)):=zc
  have i3:iz (spT s) (.int 3)=some (.tup (s.sets.map seT)):=Vk
  have lb:=ok.lB
  have l2:=ok.ns.1
  rw [List.length_map] at l2
  have ds:=a0f (Vz hs)
  obtain ⟨p5,p6,p7,p8,p9,p10,vs,hv,e⟩:=Kz (sto:=sto) (f:=f) ok hs bs [] none none none none none none (fun b hb=>hb) (by simpa using l2)
  simp only [List.map_nil,List.nil_append] at e hv
  unfold n6
  by_cases h:bs.all (Ti f s)=true
  · rw [if_pos h] at e ⊢
    have hv':=hv h
    subst hv'
    simp [iu,jc,sIf,jk,lg,jj,jo,sNx,dg,sGo,bh,jt,cg,cu,j5,gj,m7,m8,mOr,j7,mIf,mOp,mUn,cj,jg,ak,iy,aq,j8,dw,bw,gq,jw,fj,jm,ltT,leT,lq,jr,ju,kj,j6,mj,mq,j4,iw,au,kh,i3,ds,i0,lb,e,Aj]
  · rw [if_neg h] at e ⊢
    simp [iu,jc,sIf,jk,lg,jj,jo,sNx,dg,sGo,bh,jt,cg,cu,j5,gj,m7,m8,mOr,j7,mIf,mOp,mUn,cj,jg,ak,iy,aq,j8,dw,bw,gq,jw,fj,jm,ltT,leT,lq,jr,ju,kj,j6,mj,mq,j4,iw,au,kh,i3,ds,i0,lb,e]
theorem Ip (hok:∀ h∈H,okN h.1) (hl:H.length<lim) (hs:okN s.hand):mz [.dic (dn (nH H) g),spT s] sto=some (.tup (H.map fun h=>.int (ng g s h.1)),sto):=by
  have i0:iz (spT s) (.int 0)=some (.str s.hand):=zc
  have i4:iz (spT s) (.int 4)=some (.int s.there):=Je (k:=4) rfl
  have it:Pz (cj 0) ⟨[some (.dic (dn (nH H) g),false),some (spT s,false)],sto⟩=some (H.map fun h=>.tup [.str h.1,.int (g h.1)],⟨[some (.dic (dn (nH H) g),false),some (spT s,false)],sto⟩):=by
    have e:cj 0 ⟨[some (.dic (dn (nH H) g),false),some (spT s,false)],sto⟩=some (.dic (dn (nH H) g),⟨[some (.dic (dn (nH H) g),false),some (spT s,false)],sto⟩):=rfl
    unfold Pz a9b
    rw [e]
    dsimp only
    rw [if_pos (by unfold dn; rw [List.length_map,List.length_map]; exact hl)]
    unfold Jr dn
    rw [List.map_map,List.map_map]; rfl
  have c:=yt (fun h:Hd=>T.tup [.str h.1,.int (g h.1)]) (fun h=>T.int (ng g s h.1)) H (g:=jw [0,1]) (nv:=2) (ci:=[1]) (c:=iw) (it:=Pz (cj 0)) (e:=mIf (gj (mOp eqO (cj 0) (mOp iz (cj 2) (aq (.int 0))))) (mOp iz (cj 2) (aq (.int 4))) (cj 1)) (s:=⟨[some (.dic (dn (nH H) g),false),some (spT s,false)],sto⟩) (s1:=⟨[some (.dic (dn (nH H) g),false),some (spT s,false)],sto⟩) [some (.dic (dn (nH H) g),false),some (spT s,false)] [some (spT s,false)]
    it rfl rfl rfl (Nat.le_of_lt hl) (by
      intro h hh pre hp
      obtain ⟨a,b,rfl⟩:=C.p2 pre hp
      have eq:=Yi (hok h hh).1 hs.1
      refine ⟨[some (.str h.1,false),some (.int (g h.1),false)],rfl,by rw [Mt]; rfl,rfl,?_⟩
      by_cases e:h.1=s.hand
      · have eb:(h.1==s.hand)=true:=by simpa using e
        rw [eb] at eq
        have en:ng g s h.1=s.there:=if_pos e
        rw [en]
        simp [iu,jc,sIf,jk,lg,jj,jo,sNx,dg,sGo,bh,jt,cg,cu,j5,gj,m7,m8,mOr,j7,mIf,mOp,mUn,cj,jg,ak,iy,aq,j8,dw,bw,gq,jw,fj,jm,ltT,leT,lq,jr,ju,kj,j6,mj,mq,j4,iw,au,kh,i0,eq,i4]
      · have eb:(h.1==s.hand)=false:=beq_eq_false_iff_ne.mpr e
        rw [eb] at eq
        have en:ng g s h.1=g h.1:=if_neg e
        rw [en]
        simp [iu,jc,sIf,jk,lg,jj,jo,sNx,dg,sGo,bh,jt,cg,cu,j5,gj,m7,m8,mOr,j7,mIf,mOp,mUn,cj,jg,ak,iy,aq,j8,dw,bw,gq,jw,fj,jm,ltT,leT,lq,jr,ju,kj,j6,mj,mq,j4,iw,au,kh,i0,eq])
  unfold mz
  simp [iu,jc,sIf,jk,lg,jj,jo,sNx,dg,sGo,bh,jt,cg,cu,j5,gj,m7,m8,mOr,j7,mIf,mOp,mUn,cj,jg,ak,iy,aq,j8,dw,bw,gq,jw,fj,jm,ltT,leT,lq,jr,ju,kj,j6,mj,mq,j4,iw,au,kh,c,Aj]
end
end K
end
noncomputable section
set_option linter.all false
set_option maxRecDepth 100000
set_option autoImplicit false
namespace K
open C PySem
noncomputable def en (bs:List Bx) (H:List Hd) (g f:Str→Int) (s:Sp):Bool:=(g s.hand==s.here)&&tv (dn (nB bs) f) (dn (nH H) g) s.guard&&bs.all (Ti f s)
noncomputable def eT (p:Sp × Nat):T:=.tup [.int (p.2:Int),spT p.1]
noncomputable def mvT (bs:List Bx) (H:List Hd) (g f:Str→Int) (p:Sp × Nat):T:=.tup [.int (p.2:Int),stT bs H (ng g p.1) (nv f p.1)]
theorem Ln {α β:Type} (f:α→β):∀ (l:List α) (n:Nat),(l.map f).zipIdx n=(l.zipIdx n).map fun p=>(f p.1,p.2)
  | [],n=>rfl
  | a::l,n=>by rw [List.map_cons,List.zipIdx_cons,List.zipIdx_cons,List.map_cons,Ln f l]
theorem a4b (ss:List Sp):Q0 (ss.map spT)=ss.zipIdx.map eT:=by
  unfold Q0
  rw [Ln,List.map_map]; rfl
theorem J4 {α:Type} {p:α × Nat}:∀ {l:List α} {n:Nat},p∈l.zipIdx n→n≤p.2∧l[p.2 - n]? = some p.1
  | [],n,h=>by cases h
  | a::l,n,h=>by
    rw [List.zipIdx_cons] at h
    rcases List.mem_cons.mp h with rfl | h -- here
    · exact ⟨Nat.le_refl _,by simp⟩
    · obtain ⟨h1,h2⟩:=J4 h
      refine ⟨by omega,?_⟩
      rw [show p.2 - n=(p.2 - (n+1))+1 by omega]
      simpa using h2
noncomputable section
variable {bs:List Bx} {H:List Hd} {ss:List Sp} {sto:List SO} {g f:Str→Int} {s:Sp}
theorem abv (ok:Pj bs H ss):∀ h∈H,okN h.1:=fun h hh=>(ok.hs.2.2 h hh).1
theorem moves (ok:Pj bs H ss) (hl:ss.length≤63):Fx [prT bs H ss,stT bs H g f] sto=some (.lst ((ss.zipIdx.filter fun p=>en bs H g f p.1).map (mvT bs H g f)),sto):=by
  have eb:=Zv (sto:=sto) (g:=g) (f:=f) ok
  have ep:=Rg (sto:=sto) (g:=g) (f:=f) ok
  have i2:iz (prT bs H ss) (.int 2)=some (.lst (ss.map spT)):=J2
  have sl:ss.length<lim:=by show _<1000000; omega
  unfold Fx iu
  rw [show ([prT bs H ss,stT bs H g f].map (fun t=>some (t,false))++List.replicate (8 - [prT bs H ss,stT bs H g f].length) none:List Slot)=[some (prT bs H ss,false),some (stT bs H g f,false),none,none,none,none,none,none] from rfl]
  rw [nq (s':=⟨[some (prT bs H ss,false),some (stT bs H g f,false),some (.dic (dn (nB bs) f),false),none,none,none,none,none],sto⟩) (by simp [iu,jc,sIf,jk,lg,jj,jo,sNx,dg,sGo,bh,jt,cg,cu,j5,gj,m7,m8,mOr,j7,mIf,mOp,mUn,cj,jg,ak,iy,aq,j8,dw,bw,gq,jw,fj,jm,ltT,leT,lq,jr,ju,kj,j6,mj,mq,j4,iw,au,kh,eb])]
  rw [nq (s':=⟨[some (prT bs H ss,false),some (stT bs H g f,false),some (.dic (dn (nB bs) f),false),some (.dic (dn (nH H) g),false),none,none,none,none],sto⟩) (by simp [iu,jc,sIf,jk,lg,jj,jo,sNx,dg,sGo,bh,jt,cg,cu,j5,gj,m7,m8,mOr,j7,mIf,mOp,mUn,cj,jg,ak,iy,aq,j8,dw,bw,gq,jw,fj,jm,ltT,leT,lq,jr,ju,kj,j6,mj,mq,j4,iw,au,kh,ep])]
  rw [nq (s':=⟨[some (prT bs H ss,false),some (stT bs H g f,false),some (.dic (dn (nB bs) f),false),some (.dic (dn (nH H) g),false),some (.lst [],true),none,none,none],sto⟩) rfl]
  have it:Qi (mOp iz (cj 0) (aq (.int 2))) ⟨[some (prT bs H ss,false),some (stT bs H g f,false),some (.dic (dn (nB bs) f),false),some (.dic (dn (nH H) g),false),some (.lst [],true),none,none,none],sto⟩=some (ss.zipIdx.map eT,⟨[some (prT bs H ss,false),some (stT bs H g f,false),some (.dic (dn (nB bs) f),false),some (.dic (dn (nH H) g),false),some (.lst [],true),none,none,none],sto⟩):=by
    rw [← a4b]
    simp [iu,jc,sIf,jk,lg,jj,jo,sNx,dg,sGo,bh,jt,cg,cu,j5,gj,m7,m8,mOr,j7,mIf,mOp,mUn,cj,jg,ak,iy,aq,j8,dw,bw,gq,jw,fj,jm,ltT,leT,lq,jr,ju,kj,j6,mj,mq,j4,iw,au,kh,Qi,i2,sl]
  obtain ⟨o5,o6,o7,eF⟩:∃ o5 o6 o7:Slot,jt (jw [5,6]) (Qi (mOp iz (cj 0) (aq (.int 2))))
      (sIf (m8 (gj (mOp eqO (mOp iz (cj 3) (mOp iz (cj 6) (aq (.int 0)))) (mOp iz (cj 6) (aq (.int 1))))) (gj (dw (v8 40) (ak (mOp iz (cj 6) (aq (.int 2))) (ak (cj 2) (ak (cj 3) iy))))))
      (jc (jk 7 (dw n6 (ak (cj 0) (ak (cj 2) (ak (cj 6) iy)))))
      (sIf (gj (mOp Nj (cj 7) (aq .non)))
      (cg 4 (jg (fun l=>some (.tup l)) (ak (cj 5) (ak (jg (fun l=>some (.tup l)) (ak (dw mz (ak (cj 3) (ak (cj 6) iy))) (ak (cj 7) iy))) iy))))
      jo))
      jo) ⟨[some (prT bs H ss,false),some (stT bs H g f,false),some (.dic (dn (nB bs) f),false),some (.dic (dn (nH H) g),false),some (.lst [],true),none,none,none],sto⟩
      = some (.next,⟨[some (prT bs H ss,false),some (stT bs H g f,false),some (.dic (dn (nB bs) f),false),some (.dic (dn (nH H) g),false),some (.lst ((ss.zipIdx.filter fun p=>en bs H g f p.1).map (mvT bs H g f)),true),o5,o6,o7],sto⟩):=by
    unfold jt
    rw [it]
    dsimp only
    generalize hF:Fo _ _ _ _=qq
    obtain ⟨s',rfl,P⟩:=Ds hF (fun ts st=>∃ (m:List (Sp × Nat)) (acc:List T) (o5 o6 o7:Slot),ts=m.map eT∧(∀ p∈m,p.1∈ss)∧acc.length+m.length≤63∧st=⟨[some (prT bs H ss,false),some (stT bs H g f,false),some (.dic (dn (nB bs) f),false),some (.dic (dn (nH H) g),false),some (.lst acc,true),o5,o6,o7],sto⟩∧acc++(m.filter fun p=>en bs H g f p.1).map (mvT bs H g f)=(ss.zipIdx.filter fun p=>en bs H g f p.1).map (mvT bs H g f))
      ⟨ss.zipIdx,[],none,none,none,rfl,fun p hp=>List.mem_of_getElem? (J4 hp).2,by simpa using hl,rfl,rfl⟩ (by
        rintro t r st ⟨m,acc,o5,o6,o7,e1,e2,e3,rfl,e4⟩
        cases m with
        | nil=>cases e1
        | cons p m =>
          cases e1
          have ps:=e2 p List.mem_cons_self
          have oks:=ok.ss p.1 ps
          simp only [List.length_cons] at e3
          have al:acc.length<lim:=by show _<1000000; (clear oks ps e4 e2 hF it sl i2 ep eb hl ok; omega)
          have j0:iz (spT p.1) (.int 0)=some (.str p.1.hand):=zc
          have j1:iz (spT p.1) (.int 1)=some (.int p.1.here):=Bp
          have j2:iz (spT p.1) (.int 2)=some (yj p.1.guard):=J2
          have ig:=M9 (Ra (f:=g) (oks.mem))
          have hh:=holds (sto:=sto) ok.ns (a6d (f:=f) ok.ndB) (a6d (f:=g) ok.ndH) oks.gd 40 (by decide)
          have vb:=Hw (sto:=sto) (f:=f) ok oks
          have pb:=Ip (sto:=sto) (g:=g) (abv ok) ok.lH oks.hd
          rw [List.filter_cons] at e4
          by_cases h1:g p.1.hand=p.1.here
          · have b1:(g p.1.hand==p.1.here)=true:=by simpa using h1
            cases h2:tv (dn (nB bs) f) (dn (nH H) g) p.1.guard with
            | false =>
              rw [h2] at hh
              have ef:en bs H g f p.1=false:=by unfold en; rw [b1,h2]; rfl
              rw [if_neg (by rw [ef]; exact Bool.false_ne_true)] at e4
              exact ⟨_,⟨[some (prT bs H ss,false),some (stT bs H g f,false),some (.dic (dn (nB bs) f),false),some (.dic (dn (nH H) g),false),some (.lst acc,true),some (.int (p.2:Int),false),some (spT p.1,false),o7],sto⟩,by unfold eT; exact Mt,by simp [iu,jc,sIf,jk,lg,jj,jo,sNx,dg,sGo,bh,jt,cg,cu,j5,gj,m7,m8,mOr,j7,mIf,mOp,mUn,cj,jg,ak,iy,aq,j8,dw,bw,gq,jw,fj,jm,ltT,leT,lq,jr,ju,kj,j6,mj,mq,j4,iw,au,kh,j0,ig,j1,qy,b1,j2,hh],m,acc,_,_,_,rfl,fun v hv=>e2 v (List.mem_cons_of_mem _ hv),by (clear ef h2 b1 h1 pb vb hh ig j2 j1 j0 al oks ps e4 e2 hF it sl i2 ep eb hl ok; omega),rfl,e4⟩
            | true =>
              rw [h2] at hh
              by_cases h3:bs.all (Ti f p.1)=true
              · have ef:en bs H g f p.1=true:=by unfold en; rw [b1,h2,h3]; rfl
                rw [if_pos ef] at e4
                rw [if_pos h3] at vb
                have nn:Nj (.tup (bs.map fun b=>.int (nv f p.1 b.nm))) .non=some (.bl true):=rfl
                refine ⟨_,⟨[some (prT bs H ss,false),some (stT bs H g f,false),some (.dic (dn (nB bs) f),false),some (.dic (dn (nH H) g),false),some (.lst (acc++[mvT bs H g f p]),true),some (.int (p.2:Int),false),some (spT p.1,false),some (.tup (bs.map fun b=>.int (nv f p.1 b.nm)),false)],sto⟩,by unfold eT; exact Mt,?_,m,acc++[mvT bs H g f p],_,_,_,rfl,fun v hv=>e2 v (List.mem_cons_of_mem _ hv),by rw [List.length_append,List.length_singleton]; (clear nn ef h3 h2 b1 h1 pb vb hh ig j2 j1 j0 al oks ps e4 e2 hF it sl i2 ep eb hl ok; omega),rfl,?_⟩
                · simp [iu,jc,sIf,jk,lg,jj,jo,sNx,dg,sGo,bh,jt,cg,cu,j5,gj,m7,m8,mOr,j7,mIf,mOp,mUn,cj,jg,ak,iy,aq,j8,dw,bw,gq,jw,fj,jm,ltT,leT,lq,jr,ju,kj,j6,mj,mq,j4,iw,au,kh,j0,ig,j1,qy,b1,j2,hh,vb,nn,pb,al,mvT,stT]
                · rw [← e4,List.map_cons,List.append_assoc]; rfl
              · have ef:en bs H g f p.1=false:=by unfold en; rw [b1,h2,eq_false_of_ne_true h3]; rfl
                rw [if_neg (by rw [ef]; exact Bool.false_ne_true)] at e4
                rw [if_neg h3] at vb
                have nn:Nj .non .non=some (.bl false):=rfl
                exact ⟨_,⟨[some (prT bs H ss,false),some (stT bs H g f,false),some (.dic (dn (nB bs) f),false),some (.dic (dn (nH H) g),false),some (.lst acc,true),some (.int (p.2:Int),false),some (spT p.1,false),some (.non,false)],sto⟩,by unfold eT; exact Mt,by simp [iu,jc,sIf,jk,lg,jj,jo,sNx,dg,sGo,bh,jt,cg,cu,j5,gj,m7,m8,mOr,j7,mIf,mOp,mUn,cj,jg,ak,iy,aq,j8,dw,bw,gq,jw,fj,jm,ltT,leT,lq,jr,ju,kj,j6,mj,mq,j4,iw,au,kh,j0,ig,j1,qy,b1,j2,hh,vb,nn],m,acc,_,_,_,rfl,fun v hv=>e2 v (List.mem_cons_of_mem _ hv),by (clear nn ef h3 h2 b1 h1 pb vb hh ig j2 j1 j0 al oks ps e4 e2 hF it sl i2 ep eb hl ok; omega),rfl,e4⟩
          · have b1:(g p.1.hand==p.1.here)=false:=beq_eq_false_iff_ne.mpr h1
            have ef:en bs H g f p.1=false:=by unfold en; rw [b1]; rfl
            rw [if_neg (by rw [ef]; exact Bool.false_ne_true)] at e4
            exact ⟨_,⟨[some (prT bs H ss,false),some (stT bs H g f,false),some (.dic (dn (nB bs) f),false),some (.dic (dn (nH H) g),false),some (.lst acc,true),some (.int (p.2:Int),false),some (spT p.1,false),o7],sto⟩,by unfold eT; exact Mt,by simp [iu,jc,sIf,jk,lg,jj,jo,sNx,dg,sGo,bh,jt,cg,cu,j5,gj,m7,m8,mOr,j7,mIf,mOp,mUn,cj,jg,ak,iy,aq,j8,dw,bw,gq,jw,fj,jm,ltT,leT,lq,jr,ju,kj,j6,mj,mq,j4,iw,au,kh,j0,ig,j1,qy,b1],m,acc,_,_,_,rfl,fun v hv=>e2 v (List.mem_cons_of_mem _ hv),by (clear ef b1 h1 pb vb hh ig j2 j1 j0 al oks ps e4 e2 hF it sl i2 ep eb hl ok; omega),rfl,e4⟩)
    obtain ⟨m,acc,o5,o6,o7,e1,e2,e3,rfl,e4⟩:=P
    cases m with
    | cons _ _=>cases e1
    | nil =>
      simp only [List.filter_nil,List.map_nil,List.append_nil] at e4
      subst e4
      exact ⟨o5,o6,o7,rfl⟩
  rw [nq eF]
  simp [iu,jc,sIf,jk,lg,jj,jo,sNx,dg,sGo,bh,jt,cg,cu,j5,gj,m7,m8,mOr,j7,mIf,mOp,mUn,cj,jg,ak,iy,aq,j8,dw,bw,gq,jw,fj,jm,ltT,leT,lq,jr,ju,kj,j6,mj,mq,j4,iw,au,kh]
noncomputable def cn (bs:List Bx) (H:List Hd) (ss:List Sp) (g f:Str→Int):List Nat:=(ss.zipIdx.filter fun p=>en bs H g f p.1).map (·.2)
theorem can (ok:Pj bs H ss) (hl:ss.length≤63):Mv [prT bs H ss,stT bs H g f] sto=some (.lst ((cn bs H ss g f).map fun (k:Nat)=>T.int (k:Int)),sto):=by
  have em:=moves (sto:=sto) (g:=g) (f:=f) ok hl
  have l1:(ss.zipIdx.filter fun p=>en bs H g f p.1).length<lim:=by
    have:=List.length_filter_le (fun p:Sp × Nat=>en bs H g f p.1) ss.zipIdx
    rw [List.length_zipIdx] at this
    show _<1000000; omega
  have c:=yt (mvT bs H g f) (fun p=>T.int (p.2:Int)) (ss.zipIdx.filter fun p=>en bs H g f p.1) (g:=jw [0,1]) (nv:=2) (ci:=[]) (c:=iw) (it:=jm (dw Fx (ak (cj 0) (ak (cj 1) iy)))) (e:=cj 0) (s:=⟨[some (prT bs H ss,false),some (stT bs H g f,false)],sto⟩) (s1:=⟨[some (prT bs H ss,false),some (stT bs H g f,false)],sto⟩) [some (prT bs H ss,false),some (stT bs H g f,false)] []
    (by simp [iu,jc,sIf,jk,lg,jj,jo,sNx,dg,sGo,bh,jt,cg,cu,j5,gj,m7,m8,mOr,j7,mIf,mOp,mUn,cj,jg,ak,iy,aq,j8,dw,bw,gq,jw,fj,jm,ltT,leT,lq,jr,ju,kj,j6,mj,mq,j4,iw,au,kh,em,l1]) rfl rfl rfl (Nat.le_of_lt l1) (by
      intro p hp pre hpre
      obtain ⟨a,b,rfl⟩:=C.p2 pre hpre
      exact ⟨[some (.int (p.2:Int),false),some (stT bs H (ng g p.1) (nv f p.1),false)],rfl,by unfold mvT; rw [Mt]; rfl,rfl,rfl⟩)
  unfold Mv cn
  simp [iu,jc,sIf,jk,lg,jj,jo,sNx,dg,sGo,bh,jt,cg,cu,j5,gj,m7,m8,mOr,j7,mIf,mOp,mUn,cj,jg,ak,iy,aq,j8,dw,bw,gq,jw,fj,jm,ltT,leT,lq,jr,ju,kj,j6,mj,mq,j4,iw,au,kh,c]
theorem Qd {j:Nat} (hj:j<ss.length):j∈cn bs H ss g f↔en bs H g f ss[j]=true:=by
  unfold cn
  constructor
  · intro h
    obtain ⟨p,hp,rfl⟩:=List.mem_map.mp h
    obtain ⟨h1,h2⟩:=List.mem_filter.mp hp
    have:=(J4 h1).2
    rw [Nat.sub_zero,List.getElem?_eq_getElem hj] at this
    rw [Option.some.inj this]; exact h2
  · intro h
    refine List.mem_map.mpr ⟨(ss[j],j),List.mem_filter.mpr ⟨?_,h⟩,rfl⟩
    rw [List.mem_zipIdx_iff_getElem?]
    exact List.getElem?_eq_getElem hj
theorem abm {j:Nat} (h:j∈cn bs H ss g f):j<ss.length:=by
  unfold cn at h
  obtain ⟨p,hp,rfl⟩:=List.mem_map.mp h
  have:=(J4 (List.mem_filter.mp hp).1).2
  rw [Nat.sub_zero] at this
  exact (List.getElem?_eq_some_iff.mp this).1
theorem done (ok:Pj bs H ss) {i:Nat} (hi:i<ss.length) (hf:bs.all (Ti f ss[i])=true):Gq [prT bs H ss,stT bs H g f,.int (i:Int)] sto=some (stT bs H (ng g ss[i]) (nv f ss[i]),sto):=by
  have oks:=ok.ss _ (List.getElem_mem hi)
  have i2:iz (prT bs H ss) (.int 2)=some (.lst (ss.map spT)):=J2
  have a1:=O8 spT ss hi
  have eb:=Zv (sto:=sto) (g:=g) (f:=f) ok
  have ep:=Rg (sto:=sto) (g:=g) (f:=f) ok
  have vb:=Hw (sto:=sto) (f:=f) ok oks
  have pb:=Ip (sto:=sto) (g:=g) (abv ok) ok.lH oks.hd
  rw [if_pos hf] at vb
  generalize ss[i]=a at *
  unfold Gq
  simp [iu,jc,sIf,jk,lg,jj,jo,sNx,dg,sGo,bh,jt,cg,cu,j5,gj,m7,m8,mOr,j7,mIf,mOp,mUn,cj,jg,ak,iy,aq,j8,dw,bw,gq,jw,fj,jm,ltT,leT,lq,jr,ju,kj,j6,mj,mq,j4,iw,au,kh,i2,a1,eb,vb,ep,pb]
  rfl
theorem Vs {s:Sp} (h:en bs H g f s=true):bs.all (Ti f s)=true:=by
  unfold en at h
  simp only [Bool.and_eq_true] at h -- here
  exact h.2
theorem a0t {x:Nat}:∀ m:List Nat,inL (.int (x:Int)) (m.map fun (k:Nat)=>T.int (k:Int))=some (decide (x∈m))
  | []=>by simp [inL]
  | y::m=>by
    have ih:=a0t (x:=x) m
    have e:eqD (.int (y:Int)) (.int (x:Int))=some ((y:Int)==(x:Int)):=by simp [eqD,dat,PyData.depth,PyData.eqv]
    rw [List.map_cons,inL,e]
    dsimp only
    rw [ih,Option.map_some]
    congr 1
    rw [Bool.eq_iff_iff]
    simp only [Bool.or_eq_true,beq_iff_eq,decide_eq_true_eq,List.mem_cons]
    exact ⟨fun z=>z.imp_left fun e=>by omega,fun z=>z.imp_left fun e=>by omega⟩
theorem a1f {x:Nat} (m:List Nat):inT (.int (x:Int)) (.lst (m.map fun (k:Nat)=>T.int (k:Int)))=some (.bl (decide (x∈m))):=by
  simp [inT,dat,a0t m]
end
end K
end
noncomputable section
set_option linter.all false
set_option maxRecDepth 100000
set_option autoImplicit false
namespace K
open C PySem
theorem Yd {f:Rem→List Str} (hf:∀ r,a7n r=true→f r=[]) {d:Nat} {r:Rem} (hl:a7n r=true):(pre (d+1) r).flatMap f=(Nx r).flatMap fun u=>(pre d u).flatMap f:=by
  rw [pre,List.flatMap_cons,hf r hl,List.nil_append,List.flatMap_assoc]
theorem S9 {f:Rem→List Str} {d:Nat} {r:Rem} (hl:Nx r=[]):(pre d r).flatMap f=f r:=by
  cases d <;> simp [pre,hl]
theorem Og {α:Type} {p q:α→Bool}:∀ {l:List α},(∀ a∈l,p a=q a)→l.any p=l.any q
  | [],_=>rfl
  | a::l,h=>by rw [List.any_cons,List.any_cons,h a List.mem_cons_self,Og fun b hb=>h b (List.mem_cons_of_mem _ hb)]
theorem W0 {α:Type} {p q:α→Bool}:∀ {l:List α},(∀ a∈l,p a=q a)→l.all p=l.all q
  | [],_=>rfl
  | a::l,h=>by rw [List.all_cons,List.all_cons,h a List.mem_cons_self,W0 fun b hb=>h b (List.mem_cons_of_mem _ hb)]
noncomputable section
variable {bs:List Bx} {H:List Hd} {ss:List Sp} {sto:List SO} {g f g' f':Str→Int} {s a b:Sp} {N:List Str}
theorem Sh {y:Sm} (h:∀ p∈y.2,f p.1=f' p.1):vl f y=vl f' y:=by
  unfold vl
  congr 2
  apply List.map_congr_left
  intro p hp
  rw [h p hp]
theorem a76 {d:Nat} {r:Rem} (h:OkR N H d r):(∀ x∈(pre d r).flatMap bx,f x=f' x)→(∀ x∈(pre d r).flatMap ah,g x=g' x)→tv (dn N f) (dn (nH H) g) r=tv (dn N f') (dn (nH H) g') r:=by
  induction h with
  | most h =>
    intro hb ha
    rename_i d s
    rw [S9 rfl] at hb
    unfold tv
    rw [Pr fun p hp=>(h.2 p hp).1,Pr fun p hp=>(h.2 p hp).1,Sh fun p hp=>hb p.1 (List.mem_map.mpr ⟨p,hp,rfl⟩)]
  | rest h h0 h1 =>
    intro hb ha
    rename_i d s m
    rw [S9 rfl] at hb
    unfold tv
    rw [Pr fun p hp=>(h.2 p hp).1,Pr fun p hp=>(h.2 p hp).1,Sh fun p hp=>hb p.1 (List.mem_map.mpr ⟨p,hp,rfl⟩)]
  | pl h h0 h1 =>
    intro hb ha
    rename_i d hh p
    rw [S9 rfl] at ha
    unfold tv
    have hm:hh.1∈nH H:=List.mem_map.mpr ⟨_,h,rfl⟩
    rw [a6y hm,a6y hm,ha hh.1 (by simp [ah])]
  | all h0 h1 ih =>
    intro hb ha
    rename_i d l
    rw [Yd (fun r hr=>by cases r <;> first | rfl | cases hr) rfl] at hb ha
    unfold tv
    rw [Kd,Kd]
    have:∀ u∈l,tv (dn N f) (dn (nH H) g) u=tv (dn N f') (dn (nH H) g') u:=fun u hu=>ih u hu (fun x hx=>hb x (List.mem_flatMap.mpr ⟨u,hu,hx⟩)) fun x hx=>ha x (List.mem_flatMap.mpr ⟨u,hu,hx⟩)
    rw [Og fun u hu=>by rw [this u hu]]
  | any h0 h1 ih =>
    intro hb ha
    rename_i d l
    rw [Yd (fun r hr=>by cases r <;> first | rfl | cases hr) rfl] at hb ha
    unfold tv
    rw [K7,K7]
    have:∀ u∈l,tv (dn N f) (dn (nH H) g) u=tv (dn N f') (dn (nH H) g') u:=fun u hu=>ih u hu (fun x hx=>hb x (List.mem_flatMap.mpr ⟨u,hu,hx⟩)) fun x hx=>ha x (List.mem_flatMap.mpr ⟨u,hu,hx⟩)
    rw [Og fun u hu=>by rw [this u hu]]
  | no h0 ih =>
    intro hb ha
    rename_i d r
    rw [Yd (fun r hr=>by cases r <;> first | rfl | cases hr) rfl] at hb ha
    unfold tv
    rw [ih (fun x hx=>hb x (List.mem_flatMap.mpr ⟨r,List.mem_singleton_self _,hx⟩)) fun x hx=>ha x (List.mem_flatMap.mpr ⟨r,List.mem_singleton_self _,hx⟩)]
structure Apart (s o:Sp):Prop where
  hand:s.hand≠o.hand
  ats:s.hand∉AT o
  sets:∀ p∈s.sets,p.1∉NM o
theorem W2 (h:a2q s a=false):Apart s a:=by
  unfold a2q at h
  simp only [Bool.or_eq_false_iff,beq_eq_false_iff_ne,decide_eq_false_iff_not] at h
  obtain ⟨⟨h1,h2⟩,h3⟩:=h
  refine ⟨h1,h2,fun p hp hm=>?_⟩
  have:=List.any_eq_false.mp h3 p hp
  simp [hm] at this
theorem a8d {x:Str} (h:x∉s.sets.map (·.1)):nv f s x=f x:=by unfold nv; rw [a2f h]
theorem Apart.box (h:Apart s b) {x:Str} (hx:x∈NM b):nv f s x=f x:=a8d fun z=>by
  obtain ⟨p,hp,rfl⟩:=List.mem_map.mp z
  exact h.sets p hp hx
theorem Apart.hnd (h:Apart s b) {x:Str} (hx:x∈AT b):ng g s x=g x:=if_neg fun e=>h.ats (by rw [← e]; exact hx)
theorem a5i {p:Str × Sm} (hp:p∈b.sets):p.1∈NM b∧∀ q∈p.2.2,q.1∈NM b :=
  ⟨List.mem_append_right _ (List.mem_flatMap.mpr ⟨p,hp,List.mem_cons_self⟩),fun q hq=>List.mem_append_right _ (List.mem_flatMap.mpr ⟨p,hp,List.mem_cons_of_mem _ (List.mem_map.mpr ⟨q,hq,rfl⟩)⟩)⟩
theorem Apart.vl (h:Apart s b) {x:Str} {y:Sm} (hy:lkL b.sets x=some y):K.vl (nv f s) y=K.vl f y:=by
  obtain ⟨p,hp,_,rfl⟩:=Ny hy
  exact Sh fun q hq=>h.box ((a5i hp).2 q hq)
theorem Apart.en (ok:Pj bs H ss) (hb:OkP (nB bs) H b) (h:Apart s b):K.en bs H (ng g s) (nv f s) b=K.en bs H g f b:=by
  unfold K.en
  congr 1
  · congr 1
    · rw [show ng g s b.hand=g b.hand from if_neg (Ne.symm h.hand)]
    · exact a76 hb.gd (fun x hx=>h.box (List.mem_append_left _ hx)) fun x hx=>h.hnd hx
  · refine W0 fun c hc=>?_
    unfold Ti
    cases hk:lkL b.sets c.nm with
    | none=>rfl
    | some y=>simp only [h.vl hk]
theorem a7g (h1:Apart a b) (h2:Apart b a):nv (nv f a) b=nv (nv f b) a:=by
  funext x
  cases hb:lkL b.sets x with
  | some y =>
    obtain ⟨p,hp,rfl,_⟩:=Ny hb
    have e1:nv (nv f a) b p.1=K.vl f y:=by rw [nv,hb]; exact h1.vl hb
    have e2:nv (nv f b) a p.1=nv f b p.1:=h1.box (a5i hp).1
    rw [e1,e2,nv,hb]
  | none =>
    have e1:nv (nv f a) b x=nv f a x:=by rw [nv,hb]
    rw [e1]
    cases ha:lkL a.sets x with
    | some y=>rw [nv,nv,ha]; exact (h2.vl ha).symm
    | none=>rw [nv,nv,ha]; dsimp only; rw [nv,hb]
theorem a69 (h1:Apart a b):ng (ng g a) b=ng (ng g b) a:=by
  funext x
  unfold ng
  by_cases h:x=b.hand
  · by_cases h':x=a.hand
    · exact absurd (h'.symm.trans h) h1.hand
    · rw [if_pos h,if_neg h',if_pos h]
  · rw [if_neg h]
    by_cases h':x=a.hand
    · rw [if_pos h',if_pos h']
    · rw [if_neg h',if_neg h',if_neg h]
theorem ab5:Pl 2 (stT bs H g f):=Zf (n:=1) fun t ht=>by
  simp only [List.mem_cons,List.not_mem_nil,or_false] at ht
  rcases ht with rfl | rfl
  · exact Zf (n:=0) fun t ht=>by obtain ⟨h,_,rfl⟩:=List.mem_map.mp ht; exact a5u 0 _
  · exact Zf (n:=0) fun t ht=>by obtain ⟨h,_,rfl⟩:=List.mem_map.mp ht; exact a5u 0 _
theorem Z5 {x:Nat} (m:List Nat):Pk (.int (x:Int)) (.lst (m.map fun (k:Nat)=>T.int (k:Int)))=some (.bl (!decide (x∈m))):=by
  unfold Pk; rw [a1f]
theorem Yv (ok:Pj bs H ss) (hl:ss.length≤63) {i:Nat} (hi:i∈cn bs H ss g f) :
    Aw [prT bs H ss,stT bs H g f,.lst ((cn bs H ss g f).map fun (k:Nat)=>T.int (k:Int)),.int (i:Int)] sto=some (.bl true,sto):=by
  have hin:=abm hi
  have eni:=(Qd hin).mp hi
  have okI:=ok.ss _ (List.getElem_mem hin)
  have d1:=done (sto:=sto) (g:=g) (f:=f) ok hin (Vs eni)
  have c1:=can (sto:=sto) (g:=ng g ss[i]) (f:=nv f ss[i]) ok hl
  have i2:iz (prT bs H ss) (.int 2)=some (.lst (ss.map spT)):=J2
  have sl:ss.length<lim:=by show _<1000000; omega
  have nb:∀ b:Bool,neO (.bl b) (.bl b)=some (.bl false):=fun b=>by simp [neO,eqT,eqD,dat,PyData.depth,PyData.eqv]
  generalize hC:cn bs H ss g f=C0 at *
  generalize hC1:cn bs H ss (ng g ss[i]) (nv f ss[i])=C1 at *
  unfold Aw iu
  rw [show ([prT bs H ss,stT bs H g f,.lst (C0.map fun (k:Nat)=>T.int (k:Int)),.int (i:Int)].map (fun t=>some (t,false))++List.replicate (8 - [prT bs H ss,stT bs H g f,.lst (C0.map fun (k:Nat)=>T.int (k:Int)),.int (i:Int)].length) none:List Slot)=[some (prT bs H ss,false),some (stT bs H g f,false),some (.lst (C0.map fun (k:Nat)=>T.int (k:Int)),false),some (.int (i:Int),false),none,none,none,none] from rfl]
  rw [nq (s':=⟨[some (prT bs H ss,false),some (stT bs H g f,false),some (.lst (C0.map fun (k:Nat)=>T.int (k:Int)),false),some (.int (i:Int),false),some (stT bs H (ng g ss[i]) (nv f ss[i]),false),none,none,none],sto⟩) (by simp [iu,jc,sIf,jk,lg,jj,jo,sNx,dg,sGo,bh,jt,cg,cu,j5,gj,m7,m8,mOr,j7,mIf,mOp,mUn,cj,jg,ak,iy,aq,j8,dw,bw,gq,jw,fj,jm,ltT,leT,lq,jr,ju,kj,j6,mj,mq,j4,iw,au,kh,d1])]
  rw [nq (s':=⟨[some (prT bs H ss,false),some (stT bs H g f,false),some (.lst (C0.map fun (k:Nat)=>T.int (k:Int)),false),some (.int (i:Int),false),some (stT bs H (ng g ss[i]) (nv f ss[i]),false),some (.lst (C1.map fun (k:Nat)=>T.int (k:Int)),false),none,none],sto⟩) (a0z (t:=.lst (C1.map fun (k:Nat)=>T.int (k:Int))) (s1:=⟨[some (prT bs H ss,false),some (stT bs H g f,false),some (.lst (C0.map fun (k:Nat)=>T.int (k:Int)),false),some (.int (i:Int),false),some (stT bs H (ng g ss[i]) (nv f ss[i]),false),none,none,none],sto⟩) (by simp [iu,jc,sIf,jk,lg,jj,jo,sNx,dg,sGo,bh,jt,cg,cu,j5,gj,m7,m8,mOr,j7,mIf,mOp,mUn,cj,jg,ak,iy,aq,j8,dw,bw,gq,jw,fj,jm,ltT,leT,lq,jr,ju,kj,j6,mj,mq,j4,iw,au,kh,c1]))]
  have it:fj (jg lq (ak (mOp iz (cj 0) (aq (.int 2))) iy)) ⟨[some (prT bs H ss,false),some (stT bs H g f,false),some (.lst (C0.map fun (k:Nat)=>T.int (k:Int)),false),some (.int (i:Int),false),some (stT bs H (ng g ss[i]) (nv f ss[i]),false),some (.lst (C1.map fun (k:Nat)=>T.int (k:Int)),false),none,none],sto⟩=some (El ss.length,⟨[some (prT bs H ss,false),some (stT bs H g f,false),some (.lst (C0.map fun (k:Nat)=>T.int (k:Int)),false),some (.int (i:Int),false),some (stT bs H (ng g ss[i]) (nv f ss[i]),false),some (.lst (C1.map fun (k:Nat)=>T.int (k:Int)),false),none,none],sto⟩):=by simp [iu,jc,sIf,jk,lg,jj,jo,sNx,dg,sGo,bh,jt,cg,cu,j5,gj,m7,m8,mOr,j7,mIf,mOp,mUn,cj,jg,ak,iy,aq,j8,dw,bw,gq,jw,fj,jm,ltT,leT,lq,jr,ju,kj,j6,mj,mq,j4,iw,au,kh,i2,sl]
  generalize hL:jt (gq 6) _ _=loop
  obtain ⟨o6,o7,el⟩:∃ o6 o7:Slot,loop ⟨[some (prT bs H ss,false),some (stT bs H g f,false),some (.lst (C0.map fun (k:Nat)=>T.int (k:Int)),false),some (.int (i:Int),false),some (stT bs H (ng g ss[i]) (nv f ss[i]),false),some (.lst (C1.map fun (k:Nat)=>T.int (k:Int)),false),none,none],sto⟩=some (.next,⟨[some (prT bs H ss,false),some (stT bs H g f,false),some (.lst (C0.map fun (k:Nat)=>T.int (k:Int)),false),some (.int (i:Int),false),some (stT bs H (ng g ss[i]) (nv f ss[i]),false),some (.lst (C1.map fun (k:Nat)=>T.int (k:Int)),false),o6,o7],sto⟩):=by
    rw [← hL]
    unfold jt
    rw [it]
    dsimp only
    generalize hF:Fo _ _ _ _=q
    obtain ⟨s',rfl,P⟩:=Ds hF (fun ts s=>∃ o6 o7:Slot,(∀ t∈ts,∃ k:Nat,k<ss.length∧t=.int (k:Int))∧s=⟨[some (prT bs H ss,false),some (stT bs H g f,false),some (.lst (C0.map fun (k:Nat)=>T.int (k:Int)),false),some (.int (i:Int),false),some (stT bs H (ng g ss[i]) (nv f ss[i]),false),some (.lst (C1.map fun (k:Nat)=>T.int (k:Int)),false),o6,o7],sto⟩)
      ⟨none,none,fun t ht=>by unfold El at ht; obtain ⟨k,hk,rfl⟩:=List.mem_map.mp ht; exact ⟨k,List.mem_range.mp hk,rfl⟩,rfl⟩ (by
        rintro t q s ⟨o6,o7,e1,rfl⟩
        obtain ⟨j,hj,rfl⟩:=e1 t List.mem_cons_self
        have okJ:=ok.ss _ (List.getElem_mem hj)
        have pp:=parted (sto:=sto) (bs:=bs) ok.ns ok.hs ok.ss hin hj
        have in0:=a1f (x:=j) C0
        have in1:=a1f (x:=j) C1
        cases hv:(!a2q ss[i] ss[j] && !a2q ss[j] ss[i]) with
        | false =>
          rw [hv] at pp
          exact ⟨_,⟨[some (prT bs H ss,false),some (stT bs H g f,false),some (.lst (C0.map fun (k:Nat)=>T.int (k:Int)),false),some (.int (i:Int),false),some (stT bs H (ng g ss[i]) (nv f ss[i]),false),some (.lst (C1.map fun (k:Nat)=>T.int (k:Int)),false),some (.int (j:Int),false),o7],sto⟩,rfl,by simp [iu,jc,sIf,jk,lg,jj,jo,sNx,dg,sGo,bh,jt,cg,cu,j5,gj,m7,m8,mOr,j7,mIf,mOp,mUn,cj,jg,ak,iy,aq,j8,dw,bw,gq,jw,fj,jm,ltT,leT,lq,jr,ju,kj,j6,mj,mq,j4,iw,au,kh,pp],_,_,fun t ht=>e1 t (List.mem_cons_of_mem _ ht),rfl⟩
        | true =>
          rw [hv] at pp
          simp only [Bool.and_eq_true,Bool.not_eq_true'] at hv
          have A1:=W2 hv.1
          have A2:=W2 hv.2
          have same:decide (j∈C1)=decide (j∈C0):=by
            rw [← hC,← hC1,Bool.eq_iff_iff,decide_eq_true_eq,decide_eq_true_eq,Qd hj,Qd hj,A1.en ok okJ]
          rw [same] at in1
          by_cases h0:j∈C0
          · rw [decide_eq_true h0] at in0 in1
            have enj:en bs H g f ss[j]=true:=by rw [← hC] at h0; exact (Qd hj).mp h0
            have d2:=done (sto:=sto) (g:=g) (f:=f) ok hj (Vs enj)
            have c2:=can (sto:=sto) (g:=ng g ss[j]) (f:=nv f ss[j]) ok hl
            have eni2:en bs H (ng g ss[j]) (nv f ss[j]) ss[i]=true:=by rw [A2.en ok okI]; exact eni
            have enj2:en bs H (ng g ss[i]) (nv f ss[i]) ss[j]=true:=by rw [A1.en ok okJ]; exact enj
            have ni:=Z5 (x:=i) (cn bs H ss (ng g ss[j]) (nv f ss[j]))
            rw [decide_eq_true ((Qd hin).mpr eni2)] at ni
            have d3:=done (sto:=sto) (g:=ng g ss[j]) (f:=nv f ss[j]) ok hin (Vs eni2)
            have d4:=done (sto:=sto) (g:=ng g ss[i]) (f:=nv f ss[i]) ok hj (Vs enj2)
            rw [a69 A1,a7g A1 A2] at d4
            have ne:=a4u (ab5 (bs:=bs) (H:=H) (g:=ng (ng g ss[j]) ss[i]) (f:=nv (nv f ss[j]) ss[i])) (by decide)
            generalize cn bs H ss (ng g ss[j]) (nv f ss[j])=C2 at *
            exact ⟨_,⟨[some (prT bs H ss,false),some (stT bs H g f,false),some (.lst (C0.map fun (k:Nat)=>T.int (k:Int)),false),some (.int (i:Int),false),some (stT bs H (ng g ss[i]) (nv f ss[i]),false),some (.lst (C1.map fun (k:Nat)=>T.int (k:Int)),false),some (.int (j:Int),false),some (stT bs H (ng g ss[j]) (nv f ss[j]),false)],sto⟩,rfl,by simp [iu,jc,sIf,jk,lg,jj,jo,sNx,dg,sGo,bh,jt,cg,cu,j5,gj,m7,m8,mOr,j7,mIf,mOp,mUn,cj,jg,ak,iy,aq,j8,dw,bw,gq,jw,fj,jm,ltT,leT,lq,jr,ju,kj,j6,mj,mq,j4,iw,au,kh,pp,in0,in1,nb,d2,c2,ni,d3,d4,ne],_,_,fun t ht=>e1 t (List.mem_cons_of_mem _ ht),rfl⟩
          · rw [decide_eq_false h0] at in0 in1
            exact ⟨_,⟨[some (prT bs H ss,false),some (stT bs H g f,false),some (.lst (C0.map fun (k:Nat)=>T.int (k:Int)),false),some (.int (i:Int),false),some (stT bs H (ng g ss[i]) (nv f ss[i]),false),some (.lst (C1.map fun (k:Nat)=>T.int (k:Int)),false),some (.int (j:Int),false),o7],sto⟩,rfl,by simp [iu,jc,sIf,jk,lg,jj,jo,sNx,dg,sGo,bh,jt,cg,cu,j5,gj,m7,m8,mOr,j7,mIf,mOp,mUn,cj,jg,ak,iy,aq,j8,dw,bw,gq,jw,fj,jm,ltT,leT,lq,jr,ju,kj,j6,mj,mq,j4,iw,au,kh,pp,in0,in1,nb],_,_,fun t ht=>e1 t (List.mem_cons_of_mem _ ht),rfl⟩)
    obtain ⟨o6,o7,_,rfl⟩:=P
    exact ⟨o6,o7,rfl⟩
  rw [nq el]
  rfl
theorem a1v {α:Type} (nm:α→Str) (v:α→Int):∀ l:List α,(l.map nm).Nodup→∃ f:Str→Int,∀ a∈l,f (nm a)=v a
  | [],_=>⟨fun _=>0,fun a h=>by cases h⟩
  | a::l,h=>by
    rw [List.map_cons,List.nodup_cons] at h
    obtain ⟨f,hf⟩:=a1v nm v l h.2
    refine ⟨fun x=>if x=nm a then v a else f x,fun c hc=>?_⟩
    rcases List.mem_cons.mp hc with rfl | hc -- here
    · simp
    · have:nm c≠nm a:=fun e=>h.1 (e ▸ List.mem_map.mpr ⟨c,hc,rfl⟩)
      simp only [if_neg this]; exact hf c hc
theorem Uo {α:Type} (nm:α→Str):∀ (l:List α) (vs:List Int),(l.map nm).Nodup→vs.length=l.length→∃ f:Str→Int,vs=l.map fun a=>f (nm a)
  | [],[],_,_=>⟨fun _=>0,rfl⟩
  | [],_::_,_,h=>by cases h
  | _::_,[],_,h=>by cases h -- here
  | a::l,v::vs,h,hl=>by
    rw [List.map_cons,List.nodup_cons] at h
    obtain ⟨f,hf⟩:=Uo nm l vs h.2 (by simpa using hl)
    refine ⟨fun x=>if x=nm a then v else f x,?_⟩
    rw [List.map_cons,hf]
    congr 1
    · simp
    · apply List.map_congr_left
      intro c hc
      have:nm c≠nm a:=fun e=>h.1 (e ▸ List.mem_map.mpr ⟨c,hc,rfl⟩)
      simp only [if_neg this]
theorem first (ok:Pj bs H ss):∃ f,Ay [prT bs H ss] sto=some (stT bs H (fun _=>0) f,sto)∧∀ b∈bs,f b.nm=b.st:=by
  obtain ⟨f,hf⟩:=a1v (fun b:Bx=>b.nm) (fun b=>b.st) bs ok.ndB
  refine ⟨f,?_,hf⟩
  have i0:iz (prT bs H ss) (.int 0)=some (.lst (bs.map bxT)):=zc
  have i1:iz (prT bs H ss) (.int 1)=some (.lst (H.map hT)):=Bp
  have lb:=ok.lB
  have lh:=ok.lH
  have c1:=yt hT (fun _=>T.int 0) H (g:=gq 0) (nv:=1) (ci:=[]) (c:=iw) (it:=jm (mOp iz (cj 0) (aq (.int 1)))) (e:=aq (.int 0)) (s:=⟨[some (prT bs H ss,false)],sto⟩) (s1:=⟨[some (prT bs H ss,false)],sto⟩) [some (prT bs H ss,false)] []
    (by simp [iu,jc,sIf,jk,lg,jj,jo,sNx,dg,sGo,bh,jt,cg,cu,j5,gj,m7,m8,mOr,j7,mIf,mOp,mUn,cj,jg,ak,iy,aq,j8,dw,bw,gq,jw,fj,jm,ltT,leT,lq,jr,ju,kj,j6,mj,mq,j4,iw,au,kh,i1,lh]) rfl rfl rfl (Nat.le_of_lt lh) (by
      intro b hb pre hp
      obtain ⟨a,rfl⟩:=C.p1 pre hp
      exact ⟨[some (hT b,false)],rfl,rfl,rfl,rfl⟩)
  have c2:=yt bxT (fun b=>T.int b.st) bs (g:=gq 0) (nv:=1) (ci:=[]) (c:=iw) (it:=jm (mOp iz (cj 0) (aq (.int 0)))) (e:=mOp iz (cj 0) (aq (.int 4))) (s:=⟨[some (prT bs H ss,false)],sto⟩) (s1:=⟨[some (prT bs H ss,false)],sto⟩) [some (prT bs H ss,false)] []
    (by simp [iu,jc,sIf,jk,lg,jj,jo,sNx,dg,sGo,bh,jt,cg,cu,j5,gj,m7,m8,mOr,j7,mIf,mOp,mUn,cj,jg,ak,iy,aq,j8,dw,bw,gq,jw,fj,jm,ltT,leT,lq,jr,ju,kj,j6,mj,mq,j4,iw,au,kh,i0,lb]) rfl rfl rfl (Nat.le_of_lt lb) (by
      intro b hb pre hp
      obtain ⟨a,rfl⟩:=C.p1 pre hp
      have i4:iz (bxT b) (.int 4)=some (.int b.st):=Je (k:=4) rfl
      exact ⟨[some (bxT b,false)],rfl,rfl,rfl,by simp [iu,jc,sIf,jk,lg,jj,jo,sNx,dg,sGo,bh,jt,cg,cu,j5,gj,m7,m8,mOr,j7,mIf,mOp,mUn,cj,jg,ak,iy,aq,j8,dw,bw,gq,jw,fj,jm,ltT,leT,lq,jr,ju,kj,j6,mj,mq,j4,iw,au,kh,i4]⟩)
  have e:bs.map (fun b=>T.int b.st)=bs.map fun b=>T.int (f b.nm):=List.map_congr_left fun b hb=>by rw [hf b hb]
  rw [e] at c2
  unfold Ay
  simp [iu,jc,sIf,jk,lg,jj,jo,sNx,dg,sGo,bh,jt,cg,cu,j5,gj,m7,m8,mOr,j7,mIf,mOp,mUn,cj,jg,ak,iy,aq,j8,dw,bw,gq,jw,fj,jm,ltT,leT,lq,jr,ju,kj,j6,mj,mq,j4,iw,au,kh,c1,c2,Aj,stT]
end
end K
end
noncomputable section
set_option linter.all false
set_option maxRecDepth 100000
set_option autoImplicit false
namespace K
open C PySem
noncomputable section
variable {bs:List Bx} {H:List Hd} {ss:List Sp} {sto:List SO} {cs:List Int} {n:Nat} {L:List ((Str→Int) × (Str→Int))} {o3 o5 o6:Slot}
noncomputable abbrev Gf (bs:List Bx) (H:List Hd) (L:List ((Str→Int) × (Str→Int))):T:=.lst (L.map fun p=>stT bs H p.1 p.2)
theorem Ub (ok:Pj bs H ss) (hn:n<sto.length) (hs:StO sto):∃ (g:Str→Int) (st:List SO),StO st∧st.length=sto.length∧zj 1 [4] (gq 0) (jm (mOp iz (cj 1) (aq (.int 1)))) iw (dw fu (ak (cj 1) (ak (mOp iz (cj 0) (aq (.int 1))) iy))) ⟨[some (scr cs,false),some (prT bs H ss,false),some (Gf bs H L,true),o3,some (.obj n,false),o5,o6,none,none,none],sto⟩
    = some (.lst (H.map fun h=>T.int (g h.1)),⟨[some (scr cs,false),some (prT bs H ss,false),some (Gf bs H L,true),o3,some (.obj n,false),o5,o6,none,none,none],st⟩):=by
  have i1:iz (prT bs H ss) (.int 1)=some (.lst (H.map hT)):=Bp
  have lh:=ok.lH
  obtain ⟨us,st,e,l,e1,e2,e3,e4⟩:=Ga (g:=gq 0) (nv:=1) (ci:=[4]) (it:=jm (mOp iz (cj 1) (aq (.int 1)))) (e:=dw fu (ak (cj 1) (ak (mOp iz (cj 0) (aq (.int 1))) iy))) (s:=⟨[some (scr cs,false),some (prT bs H ss,false),some (Gf bs H L,true),o3,some (.obj n,false),o5,o6,none,none,none],sto⟩) rfl (H.map hT) ⟨[some (scr cs,false),some (prT bs H ss,false),some (Gf bs H L,true),o3,some (.obj n,false),o5,o6,none,none,none],sto⟩ [some (scr cs,false),some (prT bs H ss,false),some (Gf bs H L,true),o3,some (.obj n,false),o5,o6,none,none,none] [some (.obj n,false)]
    (fun ts acc st=>∃ l:List Int,acc=l.map T.int∧(∃ m:List Hd,ts=m.map hT∧(∀ h∈m,h∈H)∧l.length+m.length=H.length)∧StO st∧st.length=sto.length)
    (by simp [iu,jc,sIf,jk,lg,jj,jo,sNx,dg,sGo,bh,jt,cg,cu,j5,gj,m7,m8,mOr,j7,mIf,mOp,mUn,cj,jg,ak,iy,aq,j8,dw,bw,gq,jw,fj,jm,ltT,leT,lq,jr,ju,kj,j6,mj,mq,j4,iw,au,kh,i1,lh]) rfl rfl rfl (by rw [List.length_map]; exact Nat.le_of_lt lh) ⟨[],rfl,⟨H,rfl,fun h hh=>hh,by simp⟩,hs,rfl⟩ (by
      rintro t q acc st ⟨l,e1,⟨m,e2,e3,e4⟩,e5,e6⟩ pre hp
      obtain ⟨a,rfl⟩:=C.p1 pre hp
      cases m with
      | nil=>cases e2
      | cons h m =>
        cases e2
        obtain ⟨k1,k2,k3⟩:=ok.hs.2.2 h (e3 h List.mem_cons_self)
        obtain ⟨v,st',q1,_,_,q2,q3⟩:=Bv (n:=n) (many:=h.2) (by (clear k3 k2 k1 e4 e3 hp e5 e1 lh i1 hs ok; omega):n<st.length) e5 (by (clear k3 k1 e4 e3 hp e6 e5 e1 lh i1 hs hn ok; omega)) (by (clear k2 k1 e4 e3 hp e6 e5 e1 lh i1 hs hn ok; omega))
        have j1:iz (hT h) (.int 1)=some (.int h.2):=Bp
        refine ⟨[some (hT h,false)],.int v,st',rfl,rfl,by simp [iu,jc,sIf,jk,lg,jj,jo,sNx,dg,sGo,bh,jt,cg,cu,j5,gj,m7,m8,mOr,j7,mIf,mOp,mUn,cj,jg,ak,iy,aq,j8,dw,bw,gq,jw,fj,jm,ltT,leT,lq,jr,ju,kj,j6,mj,mq,j4,iw,au,kh,j1,q1],l++[v],by rw [e1]; simp,⟨m,rfl,fun x hx=>e3 x (List.mem_cons_of_mem _ hx),?_⟩,q2,by (clear j1 q2 q1 k3 k2 k1 e4 e3 hp e5 e1 lh i1 hs hn ok; omega)⟩
        simp only [List.length_cons] at e4
        rw [List.length_append,List.length_singleton]; (clear j1 q3 q2 q1 k3 k2 k1 e3 hp e6 e5 e1 lh i1 hs hn ok; omega))
  obtain ⟨m,e5,_,e6⟩:=e2
  cases m with
  | cons _ _=>cases e5
  | nil =>
    obtain ⟨g,hg⟩:=Uo (fun h:Hd=>h.1) H l ok.ndH (by simpa using e6)
    refine ⟨g,st,e3,e4,?_⟩
    rw [e,e1,hg,List.map_map]; rfl
theorem Td (ok:Pj bs H ss) (hn:n<sto.length) (hs:StO sto):∃ (f:Str→Int) (st:List SO),StO st∧st.length=sto.length∧zj 1 [4] (gq 0) (jm (mOp iz (cj 1) (aq (.int 0)))) iw (mOp jr (mOp iz (cj 0) (aq (.int 2))) (dw fu (ak (cj 1) (ak (mOp jr (mOp ju (mOp iz (cj 0) (aq (.int 3))) (mOp iz (cj 0) (aq (.int 2)))) (aq (.int 1))) iy)))) ⟨[some (scr cs,false),some (prT bs H ss,false),some (Gf bs H L,true),o3,some (.obj n,false),o5,o6,none,none,none],sto⟩
    = some (.lst (bs.map fun b=>T.int (f b.nm)),⟨[some (scr cs,false),some (prT bs H ss,false),some (Gf bs H L,true),o3,some (.obj n,false),o5,o6,none,none,none],st⟩):=by
  have i0:iz (prT bs H ss) (.int 0)=some (.lst (bs.map bxT)):=zc
  have lb:=ok.lB
  obtain ⟨us,st,e,l,e1,e2,e3,e4⟩:=Ga (g:=gq 0) (nv:=1) (ci:=[4]) (it:=jm (mOp iz (cj 1) (aq (.int 0)))) (e:=mOp jr (mOp iz (cj 0) (aq (.int 2))) (dw fu (ak (cj 1) (ak (mOp jr (mOp ju (mOp iz (cj 0) (aq (.int 3))) (mOp iz (cj 0) (aq (.int 2)))) (aq (.int 1))) iy)))) (s:=⟨[some (scr cs,false),some (prT bs H ss,false),some (Gf bs H L,true),o3,some (.obj n,false),o5,o6,none,none,none],sto⟩) rfl (bs.map bxT) ⟨[some (scr cs,false),some (prT bs H ss,false),some (Gf bs H L,true),o3,some (.obj n,false),o5,o6,none,none,none],sto⟩ [some (scr cs,false),some (prT bs H ss,false),some (Gf bs H L,true),o3,some (.obj n,false),o5,o6,none,none,none] [some (.obj n,false)]
    (fun ts acc st=>∃ l:List Int,acc=l.map T.int∧(∃ m:List Bx,ts=m.map bxT∧(∀ h∈m,h∈bs)∧l.length+m.length=bs.length)∧StO st∧st.length=sto.length)
    (by simp [iu,jc,sIf,jk,lg,jj,jo,sNx,dg,sGo,bh,jt,cg,cu,j5,gj,m7,m8,mOr,j7,mIf,mOp,mUn,cj,jg,ak,iy,aq,j8,dw,bw,gq,jw,fj,jm,ltT,leT,lq,jr,ju,kj,j6,mj,mq,j4,iw,au,kh,i0,lb]) rfl rfl rfl (by rw [List.length_map]; exact Nat.le_of_lt lb) ⟨[],rfl,⟨bs,rfl,fun h hh=>hh,by simp⟩,hs,rfl⟩ (by
      rintro t q acc st ⟨l,e1,⟨m,e2,e3,e4⟩,e5,e6⟩ pre hp
      obtain ⟨a,rfl⟩:=C.p1 pre hp
      cases m with
      | nil=>cases e2
      | cons b m =>
        cases e2
        obtain ⟨k1,k2,k3,k4⟩:=ok.bx b (e3 b List.mem_cons_self)
        obtain ⟨v,st',q1,_,_,q2,q3⟩:=Bv (n:=n) (many:=b.hi - b.lo+1) (by (clear k4 k3 k2 k1 e4 e3 hp e5 e1 lb i0 hs ok; omega):n<st.length) e5 (by (clear k4 k1 e4 e3 hp e6 e5 e1 lb i0 hs hn ok; omega)) (by (clear k3 k2 k1 e4 e3 hp e6 e5 e1 lb i0 hs hn ok; omega))
        have j2:iz (bxT b) (.int 2)=some (.int b.lo):=J2
        have j3:iz (bxT b) (.int 3)=some (.int b.hi):=Vk
        refine ⟨[some (bxT b,false)],.int (b.lo+v),st',rfl,rfl,by simp [iu,jc,sIf,jk,lg,jj,jo,sNx,dg,sGo,bh,jt,cg,cu,j5,gj,m7,m8,mOr,j7,mIf,mOp,mUn,cj,jg,ak,iy,aq,j8,dw,bw,gq,jw,fj,jm,ltT,leT,lq,jr,ju,kj,j6,mj,mq,j4,iw,au,kh,j2,j3,q1],l++[b.lo+v],by rw [e1]; simp,⟨m,rfl,fun x hx=>e3 x (List.mem_cons_of_mem _ hx),?_⟩,q2,by (clear j3 j2 q2 q1 k4 k3 k2 k1 e4 e3 hp e5 e1 lb i0 hs hn ok; omega)⟩
        simp only [List.length_cons] at e4
        rw [List.length_append,List.length_singleton]; (clear j3 j2 q3 q2 q1 k4 k3 k2 k1 e3 hp e6 e5 e1 lb i0 hs hn ok; omega))
  obtain ⟨m,e5,_,e6⟩:=e2
  cases m with
  | cons _ _=>cases e5
  | nil =>
    obtain ⟨f,hf⟩:=Uo (fun b:Bx=>b.nm) bs l ok.ndB (by simpa using e6)
    refine ⟨f,st,e3,e4,?_⟩
    rw [e,e1,hf,List.map_map]; rfl
theorem a4g {cs:List Int} (hc:cs.length≤63):∃ st,Xr [scr cs] []=some (.bl true,st):=by
  obtain ⟨t,st,ep,bs,H,ss,rfl,ok,hl,hst⟩:=program (cs:=cs) (k:=9) hc
  rw [show ((9:Nat):Int)=9 from rfl] at ep
  obtain ⟨f0,e0,_⟩:=first (sto:=st) ok
  obtain ⟨m,hm,cx⟩:∃ m:List Int,m.length≤63∧a2h (some 12) (some 19) (scr cs)=some (.lst (m.map T.int)):=by
    refine ⟨(cs.drop (sIx cs.length 0 (some 12))).take (sIx cs.length cs.length (some 19) - sIx cs.length 0 (some 12)),?_,?_⟩
    · rw [List.length_take,List.length_drop]; omega
    · simp only [a2h,a82,List.length_map,← List.map_drop,← List.map_take]
  have ml:m.length<lim:=by show _<1000000; omega
  unfold Xr iu
  rw [show ([scr cs].map (fun t=>some (t,false))++List.replicate (10 - [scr cs].length) none:List Slot)=[some (scr cs,false),none,none,none,none,none,none,none,none,none] from rfl]
  rw [nq (s':=⟨[some (scr cs,false),some (prT bs H ss,false),none,none,none,none,none,none,none,none],st⟩) (by simp [iu,jc,sIf,jk,lg,jj,jo,sNx,dg,sGo,bh,jt,cg,cu,j5,gj,m7,m8,mOr,j7,mIf,mOp,mUn,cj,jg,ak,iy,aq,j8,dw,bw,gq,jw,fj,jm,ltT,leT,lq,jr,ju,kj,j6,mj,mq,j4,iw,au,kh,ep])]
  rw [nq (s':=⟨[some (scr cs,false),some (prT bs H ss,false),some (Gf bs H [(fun _=>0,f0)],true),none,none,none,none,none,none,none],st⟩) (by simp [iu,jc,sIf,jk,lg,jj,jo,sNx,dg,sGo,bh,jt,cg,cu,j5,gj,m7,m8,mOr,j7,mIf,mOp,mUn,cj,jg,ak,iy,aq,j8,dw,bw,gq,jw,fj,jm,ltT,leT,lq,jr,ju,kj,j6,mj,mq,j4,iw,au,kh,e0])]
  generalize hA:jt (gq 3) _ _=loop1
  obtain ⟨L,o3,o4,o5,o6,st1,hL,e1⟩:∃ (L:List ((Str→Int) × (Str→Int))) (o3 o4 o5 o6:Slot) (st1:List SO),L.length≤64∧loop1 ⟨[some (scr cs,false),some (prT bs H ss,false),some (Gf bs H [(fun _=>0,f0)],true),none,none,none,none,none,none,none],st⟩=some (.next,⟨[some (scr cs,false),some (prT bs H ss,false),some (Gf bs H L,true),o3,o4,o5,o6,none,none,none],st1⟩):=by
    rw [← hA]
    have it:jm (Ij (cj 0) (K1 (aq (.int 12))) (K1 (aq (.int 19)))) ⟨[some (scr cs,false),some (prT bs H ss,false),some (Gf bs H [(fun _=>0,f0)],true),none,none,none,none,none,none,none],st⟩=some (m.map T.int,⟨[some (scr cs,false),some (prT bs H ss,false),some (Gf bs H [(fun _=>0,f0)],true),none,none,none,none,none,none,none],st⟩):=by simp [iu,jc,sIf,jk,lg,jj,jo,sNx,dg,sGo,bh,jt,cg,cu,j5,gj,m7,m8,mOr,j7,mIf,mOp,mUn,cj,jg,ak,iy,aq,j8,dw,bw,gq,jw,fj,jm,ltT,leT,lq,jr,ju,kj,j6,mj,mq,j4,iw,au,kh,Ij,K1,cx,ml]
    unfold jt
    rw [it]
    dsimp only
    generalize hF:Fo _ _ _ _=q
    obtain ⟨s',rfl,P⟩:=Ds hF (fun ts s=>∃ (L:List ((Str→Int) × (Str→Int))) (o3 o4 o5 o6:Slot) (st1:List SO),(∀ t∈ts,∃ i:Int,t=.int i)∧L.length+ts.length≤64∧s=⟨[some (scr cs,false),some (prT bs H ss,false),some (Gf bs H L,true),o3,o4,o5,o6,none,none,none],st1⟩∧StO st1)
      ⟨[(fun _=>0,f0)],none,none,none,none,st,fun t ht=>by obtain ⟨i,_,rfl⟩:=List.mem_map.mp ht; exact ⟨i,rfl⟩,by rw [List.length_map]; simp only [List.length_singleton]; (clear hF it hA ml cx e0 hst hl ok ep hc; omega),rfl,hst⟩ (by
        rintro t q s ⟨L,o3,o4,o5,o6,st1,f1,f2,rfl,f3⟩
        obtain ⟨i,rfl⟩:=f1 t List.mem_cons_self
        simp only [List.length_cons] at f2
        have Ll:L.length<lim:=by show _<1000000; (clear f1 f3 hF it hA ml cx hm e0 hst hl ok ep hc; omega)
        have hs':StO (st1++[.lst [.int i,.int 0]]):=f3.add (.inl ⟨_,_,rfl⟩)
        have hn:st1.length<(st1++[SO.lst [.int i,.int 0]]).length:=by rw [List.length_append]; simp
        obtain ⟨g,st2,w2,l2,c2⟩:=Ub (cs:=cs) (n:=st1.length) (L:=L) (o3:=some (.int i,false)) (o5:=o5) (o6:=o6) ok hn hs'
        obtain ⟨f,st3,w3,l3,c3⟩:=Td (cs:=cs) (n:=st1.length) (L:=L) (o3:=some (.int i,false)) (o5:=some (.tup (H.map fun h=>T.int (g h.1)),false)) (o6:=o6) (sto:=st2) ok (by (clear c2 w2 hs' Ll f2 f1 f3 hF it hA ml cx hm e0 hst hl ok ep hc; omega)) w2
        refine ⟨_,⟨[some (scr cs,false),some (prT bs H ss,false),some (Gf bs H (L++[(g,f)]),true),some (.int i,false),some (.obj st1.length,false),some (.tup (H.map fun h=>T.int (g h.1)),false),some (.tup (bs.map fun b=>T.int (f b.nm)),false),none,none,none],st3⟩,rfl,?_,L++[(g,f)],_,_,_,_,st3,fun t ht=>f1 t (List.mem_cons_of_mem _ ht),by rw [List.length_append,List.length_singleton]; (clear c3 l3 w3 c2 l2 w2 hn hs' Ll f1 f3 hF it hA ml cx hm e0 hst hl ok ep hc; omega),rfl,w3⟩
        show (jc _ (jc _ (jc _ _)):S) ⟨[some (scr cs,false),some (prT bs H ss,false),some (Gf bs H L,true),some (.int i,false),o4,o5,o6,none,none,none],st1⟩=_
        rw [nq (s':=⟨[some (scr cs,false),some (prT bs H ss,false),some (Gf bs H L,true),some (.int i,false),some (.obj st1.length,false),o5,o6,none,none,none],st1++[.lst [.int i,.int 0]]⟩) (by simp [iu,jc,sIf,jk,lg,jj,jo,sNx,dg,sGo,bh,jt,cg,cu,j5,gj,m7,m8,mOr,j7,mIf,mOp,mUn,cj,jg,ak,iy,aq,j8,dw,bw,gq,jw,fj,jm,ltT,leT,lq,jr,ju,kj,j6,mj,mq,j4,iw,au,kh,Eo])]
        rw [nq (s':=⟨[some (scr cs,false),some (prT bs H ss,false),some (Gf bs H L,true),some (.int i,false),some (.obj st1.length,false),some (.tup (H.map fun h=>T.int (g h.1)),false),o6,none,none,none],st2⟩) (by simp [iu,jc,sIf,jk,lg,jj,jo,sNx,dg,sGo,bh,jt,cg,cu,j5,gj,m7,m8,mOr,j7,mIf,mOp,mUn,cj,jg,ak,iy,aq,j8,dw,bw,gq,jw,fj,jm,ltT,leT,lq,jr,ju,kj,j6,mj,mq,j4,iw,au,kh,c2,Aj])]
        rw [nq (s':=⟨[some (scr cs,false),some (prT bs H ss,false),some (Gf bs H L,true),some (.int i,false),some (.obj st1.length,false),some (.tup (H.map fun h=>T.int (g h.1)),false),some (.tup (bs.map fun b=>T.int (f b.nm)),false),none,none,none],st3⟩) (by simp [iu,jc,sIf,jk,lg,jj,jo,sNx,dg,sGo,bh,jt,cg,cu,j5,gj,m7,m8,mOr,j7,mIf,mOp,mUn,cj,jg,ak,iy,aq,j8,dw,bw,gq,jw,fj,jm,ltT,leT,lq,jr,ju,kj,j6,mj,mq,j4,iw,au,kh,c3,Aj])]
        simp [iu,jc,sIf,jk,lg,jj,jo,sNx,dg,sGo,bh,jt,cg,cu,j5,gj,m7,m8,mOr,j7,mIf,mOp,mUn,cj,jg,ak,iy,aq,j8,dw,bw,gq,jw,fj,jm,ltT,leT,lq,jr,ju,kj,j6,mj,mq,j4,iw,au,kh,Ll,stT])
    obtain ⟨L,o3,o4,o5,o6,st1,f1,f2,rfl,f3⟩:=P
    exact ⟨L,o3,o4,o5,o6,st1,by simpa using f2,rfl⟩
  rw [nq e1]
  have Ll:L.length<lim:=by show _<1000000; (clear e1 hA ml cx hm e0 hst hl ok ep hc; omega)
  generalize hB:jt (gq 7) _ _=loop2
  obtain ⟨o7,o8,o9,e2⟩:∃ o7 o8 o9:Slot,loop2 ⟨[some (scr cs,false),some (prT bs H ss,false),some (Gf bs H L,true),o3,o4,o5,o6,none,none,none],st1⟩=some (.next,⟨[some (scr cs,false),some (prT bs H ss,false),some (Gf bs H L,false),o3,o4,o5,o6,o7,o8,o9],st1⟩):=by
    rw [← hB]
    have it:jm (cj 2) ⟨[some (scr cs,false),some (prT bs H ss,false),some (Gf bs H L,true),o3,o4,o5,o6,none,none,none],st1⟩=some (L.map (fun p=>stT bs H p.1 p.2),⟨[some (scr cs,false),some (prT bs H ss,false),some (Gf bs H L,false),o3,o4,o5,o6,none,none,none],st1⟩):=by simp [iu,jc,sIf,jk,lg,jj,jo,sNx,dg,sGo,bh,jt,cg,cu,j5,gj,m7,m8,mOr,j7,mIf,mOp,mUn,cj,jg,ak,iy,aq,j8,dw,bw,gq,jw,fj,jm,ltT,leT,lq,jr,ju,kj,j6,mj,mq,j4,iw,au,kh,Ll]
    unfold jt
    rw [it]
    dsimp only
    generalize hF:Fo _ _ _ _=q
    obtain ⟨s',rfl,P⟩:=Ds hF (fun ts s=>∃ (m:List ((Str→Int) × (Str→Int))) (o7 o8 o9:Slot),ts=m.map (fun p=>stT bs H p.1 p.2)∧s=⟨[some (scr cs,false),some (prT bs H ss,false),some (Gf bs H L,false),o3,o4,o5,o6,o7,o8,o9],st1⟩)
      ⟨L,none,none,none,rfl,rfl⟩ (by
        rintro t q s ⟨m,o7,o8,o9,f1,rfl⟩
        cases m with
        | nil=>cases f1
        | cons p m =>
          cases f1
          have cc:=can (sto:=st1) (g:=p.1) (f:=p.2) ok hl
          have cl:(cn bs H ss p.1 p.2).length<lim:=by
            have:=List.length_filter_le (fun q:Sp × Nat=>en bs H p.1 p.2 q.1) ss.zipIdx
            rw [List.length_zipIdx] at this
            unfold cn
            rw [List.length_map]
            show _<1000000; (clear cc hF it hB Ll e1 hL hA ml cx hm e0 hst ok ep hc; omega)
          have me:∀ i∈cn bs H ss p.1 p.2,Aw [prT bs H ss,stT bs H p.1 p.2,.lst ((cn bs H ss p.1 p.2).map fun (k:Nat)=>T.int (k:Int)),.int (i:Int)] st1=some (.bl true,st1):=fun i hi=>Yv ok hl hi
          generalize cn bs H ss p.1 p.2=C0 at *
          obtain ⟨o9',e9⟩:∃ o9':Slot,Fo (gq 9) (sIf (m7 (gj (dw Aw (ak (cj 1) (ak (cj 7) (ak (cj 8) (ak (cj 9) iy))))))) (jj (aq (.bl false))) jo) (C0.map fun (k:Nat)=>T.int (k:Int)) ⟨[some (scr cs,false),some (prT bs H ss,false),some (Gf bs H L,false),o3,o4,o5,o6,some (stT bs H p.1 p.2,false),some (.lst (C0.map fun (k:Nat)=>T.int (k:Int)),false),o9],st1⟩=some (.next,⟨[some (scr cs,false),some (prT bs H ss,false),some (Gf bs H L,false),o3,o4,o5,o6,some (stT bs H p.1 p.2,false),some (.lst (C0.map fun (k:Nat)=>T.int (k:Int)),false),o9'],st1⟩):=by
            generalize hG:Fo _ _ _ _=q
            obtain ⟨s',rfl,P⟩:=Ds hG (fun ts s=>∃ (m:List Nat) (o9:Slot),ts=m.map (fun (k:Nat)=>T.int (k:Int))∧(∀ i∈m,i∈C0)∧s=⟨[some (scr cs,false),some (prT bs H ss,false),some (Gf bs H L,false),o3,o4,o5,o6,some (stT bs H p.1 p.2,false),some (.lst (C0.map fun (k:Nat)=>T.int (k:Int)),false),o9],st1⟩)
              ⟨C0,o9,rfl,fun i hi=>hi,rfl⟩ (by
                rintro t q s ⟨m,o9,f1,f2,rfl⟩
                cases m with
                | nil=>cases f1
                | cons i m =>
                  cases f1
                  have mi:=me i (f2 i List.mem_cons_self)
                  exact ⟨_,⟨[some (scr cs,false),some (prT bs H ss,false),some (Gf bs H L,false),o3,o4,o5,o6,some (stT bs H p.1 p.2,false),some (.lst (C0.map fun (k:Nat)=>T.int (k:Int)),false),some (.int (i:Int),false)],st1⟩,rfl,by simp [iu,jc,sIf,jk,lg,jj,jo,sNx,dg,sGo,bh,jt,cg,cu,j5,gj,m7,m8,mOr,j7,mIf,mOp,mUn,cj,jg,ak,iy,aq,j8,dw,bw,gq,jw,fj,jm,ltT,leT,lq,jr,ju,kj,j6,mj,mq,j4,iw,au,kh,mi],m,_,rfl,fun j hj=>f2 j (List.mem_cons_of_mem _ hj),rfl⟩)
            obtain ⟨m,o9,f1,f2,rfl⟩:=P
            exact ⟨o9,rfl⟩
          refine ⟨_,⟨[some (scr cs,false),some (prT bs H ss,false),some (Gf bs H L,false),o3,o4,o5,o6,some (stT bs H p.1 p.2,false),some (.lst (C0.map fun (k:Nat)=>T.int (k:Int)),false),o9'],st1⟩,rfl,?_,m,_,_,_,rfl,rfl⟩
          show (jc _ _:S) ⟨[some (scr cs,false),some (prT bs H ss,false),some (Gf bs H L,false),o3,o4,o5,o6,some (stT bs H p.1 p.2,false),o8,o9],st1⟩=_
          rw [nq (s':=⟨[some (scr cs,false),some (prT bs H ss,false),some (Gf bs H L,false),o3,o4,o5,o6,some (stT bs H p.1 p.2,false),some (.lst (C0.map fun (k:Nat)=>T.int (k:Int)),false),o9],st1⟩) (by simp [iu,jc,sIf,jk,lg,jj,jo,sNx,dg,sGo,bh,jt,cg,cu,j5,gj,m7,m8,mOr,j7,mIf,mOp,mUn,cj,jg,ak,iy,aq,j8,dw,bw,gq,jw,fj,jm,ltT,leT,lq,jr,ju,kj,j6,mj,mq,j4,iw,au,kh,cc])]
          exact a9r (by simp [iu,jc,sIf,jk,lg,jj,jo,sNx,dg,sGo,bh,jt,cg,cu,j5,gj,m7,m8,mOr,j7,mIf,mOp,mUn,cj,jg,ak,iy,aq,j8,dw,bw,gq,jw,fj,jm,ltT,leT,lq,jr,ju,kj,j6,mj,mq,j4,iw,au,kh,cl]) e9)
    obtain ⟨m,o7,o8,o9,f1,rfl⟩:=P
    exact ⟨o7,o8,o9,rfl⟩
  rw [nq e2]
  exact ⟨st1,rfl⟩
end
end K
end
noncomputable section
set_option linter.all false
set_option maxRecDepth 100000
set_option maxHeartbeats 1000000
namespace D
open PySem L2 C
noncomputable def top (i:Nat):Stmt:=PySem.Challenge.pw_calm_k31_whole_either_order.main.body.getD i (.Pass ⟨0,0,0,0⟩)
noncomputable section
variable {P:Program} {w:World} {K:PySem.W.Frag} {mg:Str→Option Value} {base:Heap} {f:Addr} {fd:FuncData}
noncomputable abbrev Hf:Stmt:=top 1
theorem Vc:m6 ["one","book"] ["one","book"] (gk Hf):=⟨rfl,rfl,rfl,by decide +kernel,rfl,by decide +kernel,by decide +kernel⟩
theorem a3i (F:Fun K "value" "value" Hf f fd) (b_sum:mg "sum" = none):Dh P w K mg base CX0 1 f fd ["one","book"] (spF K (["one","book"]:List Str).length _root_.K.Cy):=by
  refine pq (N:=["one","book"]) F Vc (by decide)  fun cdv A outer s H E B hr=>?_
  have hu:=Bb hr
  have hq:=hr.units
  have nd:(["one","book"]:List Str).Nodup:=Vc.nd
  refine jf ?_
  · refine jz ?_
    · refine oh ?_ ?_ ?_
      · exact vm
      · exact m9 hu (ao 0 (pv 0)) dj (fun _ _=>rfl)
      · refine vg ?_
        · refine Ca (Y8 (by rfl)) ?_ ?_ PyProof.Rows.boot_sum ?_
          · exact by rfl
          · exact b_sum
          · refine aj ?_ ?_
            · refine uh ?_
              · refine Ah (N:=["box","times","book"]) ?_ ?_ ?_ ?_ ?_ ?_ ?_ ?_
                · exact ⟨rfl,fun j k h=>match j,h with | 0,h=>(by cases h; exact ⟨_,rfl,rfl,⟨.inl rfl,.inr (.inl rfl),.inl rfl⟩⟩) | _+1,h=>(by cases h)⟩
                · exact ⟨rfl,rfl,by decide +kernel,by decide +kernel⟩
                · exact rfl
                · exact zf (m9 hu (ao 0 (pv 0)) dj (fun _ _=>rfl))
                · exact yw
                · exact fun C s₀ H₀ ex pn=>pgE fun B=>(Gm (is:=[0,1]) (Gu rfl (qt (jl (show (["box","times","book"]:List Str).Nodup by decide +kernel) rfl (Or.inl rfl)) (qt (jl (show (["box","times","book"]:List Str).Nodup by decide +kernel) rfl (Or.inl rfl)) En))))
                · exact fun C s₀ H₀ ex pn=>vf
                · exact fun C s₀ H₀ ex pn=>peE fun B=>(oh Fv (ao 1 (pv 1)) (m9 hu (ao 2 (pv 2)) (ao 0 (pv 0)) (fun _ _=>rfl)))
            · exact dz
theorem a2e (F:Fun K "value" "value" Hf f fd) (hmg:mg "value" = some (.ref f)) (b_sum:mg "sum" = none):j9 P w K mg base "value" 1 ["one","book"] _root_.K.Cy :=
  ⟨f,fd,a3i F b_sum,F.binds (ps:=["one","book"]) fun _ _ _ _ _ _ us hl=>bd2 (fun _ _=>rfl) us hl,F.kp,hmg⟩
noncomputable abbrev Cm:Stmt:=top 2
theorem M4:m6 ["one"] ["one"] (gk Cm):=⟨rfl,rfl,rfl,by decide +kernel,rfl,by decide +kernel,by decide +kernel⟩
theorem Tj (F:Fun K "boxes_of" "boxes_of" Cm f fd):Dh P w K mg base CX0 1 f fd ["one"] (spF K (["one"]:List Str).length _root_.K.yu):=by
  refine pq (N:=["one"]) F M4 (by decide)  fun cdv A outer s H E B hr=>?_
  have hu:=Bb hr
  have hq:=hr.units
  have nd:(["one"]:List Str).Nodup:=M4.nd
  exact jf (jz (uh (Ah (N:=["box","times"]) ⟨rfl,fun j k h=>match j,h with | _+0,h=>(by cases h)⟩ ⟨rfl,rfl,by decide +kernel,by decide +kernel⟩ rfl (zf (m9 hu (ao 0 (pv 0)) dj (fun _ _=>rfl))) yw (fun C s₀ H₀ ex pn=>pgE fun B=>(Gm (is:=[0,1]) (Gu rfl (qt (jl (show (["box","times"]:List Str).Nodup by decide +kernel) rfl (Or.inl rfl)) (qt (jl (show (["box","times"]:List Str).Nodup by decide +kernel) rfl (Or.inl rfl)) En))))) (fun C s₀ H₀ ex pn=>vf) (fun C s₀ H₀ ex pn=>peE fun B=>(ao 0 (pv 0))))))
theorem Ud (F:Fun K "boxes_of" "boxes_of" Cm f fd) (hmg:mg "boxes_of" = some (.ref f)):j9 P w K mg base "boxes_of" 1 ["one"] _root_.K.yu :=
  ⟨f,fd,Tj F,F.binds (ps:=["one"]) fun _ _ _ _ _ _ us hl=>bd1 (fun _=>rfl) us hl,F.kp,hmg⟩
noncomputable abbrev Ft:Stmt:=top 4
theorem W9:m6 ["remark","book","places","kind"] ["remark","book","places"] (gk Ft):=⟨rfl,rfl,rfl,by decide +kernel,rfl,by decide +kernel,by decide +kernel⟩
theorem a3f (F:Fun K "holds" "holds" Ft f fd) {nn:Nat} (d_any_is:j9 P w K mg base "any_is" (1+nn) ["wanted","members","book","places"] (_root_.K.Dl nn)) (d_holds:j9 P w K mg base "holds" (1+nn) ["remark","book","places"] (_root_.K.v8 nn)) (d_value:j9 P w K mg base "value" 1 ["one","book"] (_root_.K.Cy)):Dh P w K mg base CX0 (1+nn+1) f fd ["remark","book","places"] (spF K (["remark","book","places"]:List Str).length (_root_.K.v8 (nn+1))):=by
  have d_any_is:=d_any_is.mono (show (1+nn)≤(1+nn) by first | decide | omega)
  have d_holds:=d_holds.mono (show (1+nn)≤(1+nn) by first | decide | omega)
  have d_value:=d_value.mono (show 1≤(1+nn) by first | decide | omega)
  refine pq (N:=["remark","book","places","kind"]) F W9 (by decide)  fun cdv A outer s H E B hr=>?_
  have hu:=Bb hr
  have hq:=hr.units
  have nd:(["remark","book","places","kind"]:List Str).Nodup:=W9.nd
  refine gn ?_ ?_
  · exact nu 3 (jy nd rfl (Or.inl rfl) (m9 hu (ao 0 (pv 0)) dj (fun _ _=>rfl))) (fun _ _ _ h=>h)
  · refine gn ?_ ?_
    · exact Ag (qb (zx hq) (ao 3 (pv 3)) sy (qw _))   (jf (jz (Nr a89 (gb d_value hr (by rfl) (aj (m9 hu (ao 0 (pv 0)) dj (fun _ _=>rfl)) (aj (ao 1 (pv 1)) dz)) (bf (bf jd))) dj (qw _))))   tu
    · refine gn ?_ ?_
      · exact Ag (qb (zx hq) (ao 3 (pv 3)) sy (qw _))   (jf (jz (Nr (zx hq) (oh Cd (gb d_value hr (by rfl) (aj (m9 hu (ao 0 (pv 0)) dj (fun _ _=>rfl)) (aj (ao 1 (pv 1)) dz)) (bf (bf jd))) (m9 hu (ao 0 (pv 0)) dj (fun _ _=>rfl))) dj (qw _))))   tu
      · refine gn ?_ ?_
        · exact Ag (qb (zx hq) (ao 3 (pv 3)) sy (qw _))   (jf (jz (Nr (zx hq) (m9 hu (ao 2 (pv 2)) (m9 hu (ao 0 (pv 0)) dj (fun _ _=>rfl)) (fun _ _=>rfl)) (m9 hu (ao 0 (pv 0)) dj (fun _ _=>rfl)) (qw _))))   tu
        · refine gn ?_ ?_
          · exact Ag (qb (zx hq) (ao 3 (pv 3)) sy (qw _))   (jf (jz (Ym (gb d_holds hr (by rfl) (aj (m9 hu (ao 0 (pv 0)) dj (fun _ _=>rfl)) (aj (ao 1 (pv 1)) (aj (ao 2 (pv 2)) dz))) (bf (bf (bf jd)))))))   tu
          · exact gn (Ag (qb (zx hq) (ao 3 (pv 3)) sy (qw _))   (jf (jz (Ym (gb d_any_is hr (by rfl) (aj Mu (aj (m9 hu (ao 0 (pv 0)) dj (fun _ _=>rfl)) (aj (ao 1 (pv 1)) (aj (ao 2 (pv 2)) dz)))) (bf (bf (bf (bf jd))))))))   tu)   (jf (jz (gb d_any_is hr (by rfl) (aj Mu (aj (m9 hu (ao 0 (pv 0)) dj (fun _ _=>rfl)) (aj (ao 1 (pv 1)) (aj (ao 2 (pv 2)) dz)))) (bf (bf (bf (bf jd)))))))
theorem a3u (F:Fun K "holds" "holds" Ft f fd) (hmg:mg "holds" = some (.ref f)) {nn:Nat} (d_any_is:j9 P w K mg base "any_is" (1+nn) ["wanted","members","book","places"] (_root_.K.Dl nn)) (d_holds:j9 P w K mg base "holds" (1+nn) ["remark","book","places"] (_root_.K.v8 nn)) (d_value:j9 P w K mg base "value" 1 ["one","book"] (_root_.K.Cy)):j9 P w K mg base "holds" (1+nn+1) ["remark","book","places"] (_root_.K.v8 (nn+1)) :=
  ⟨f,fd,a3f F d_any_is d_holds d_value,F.binds (ps:=["remark","book","places"]) fun _ _ _ _ _ _ us hl=>bd3 (fun _ _ _=>rfl) us hl,F.kp,hmg⟩
noncomputable abbrev Dw:Stmt:=top 5
theorem Qp:m6 ["wanted","members","book","places","member"] ["wanted","members","book","places"] (gk Dw):=⟨rfl,rfl,rfl,by decide +kernel,rfl,by decide +kernel,by decide +kernel⟩
theorem Z9 (F:Fun K "any_is" "any_is" Dw f fd) {nn:Nat} (d_holds:j9 P w K mg base "holds" (1+nn) ["remark","book","places"] (_root_.K.v8 nn)):Dh P w K mg base CX0 (1+nn+1) f fd ["wanted","members","book","places"] (spF K (["wanted","members","book","places"]:List Str).length (_root_.K.Dl (nn+1))):=by
  have d_holds:=d_holds.mono (show (1+nn)≤(1+nn) by first | decide | omega)
  refine pq (N:=["wanted","members","book","places","member"]) F Qp (by decide)  fun cdv A outer s H E B hr=>?_
  have hu:=Bb hr
  have hq:=hr.units
  have nd:(["wanted","members","book","places","member"]:List Str).Nodup:=Qp.nd
  exact gn (Er PassesOwn.never rfl (zf (ao 1 (pv 1))) (ux 4 (jl nd rfl (Or.inl rfl)))   (jf (Ag (qb (zx hq) (gb d_holds hr (by rfl) (aj (ao 4 (pv 4)) (aj (ao 2 (pv 2)) (aj (ao 3 (pv 3)) dz))) (bf (bf (bf jd)))) (ao 0 (pv 0)) (qw _))   (jf (jz Mu))   tu)) yw)   (jf (jz Mu))
theorem Zo (F:Fun K "any_is" "any_is" Dw f fd) (hmg:mg "any_is" = some (.ref f)) {nn:Nat} (d_holds:j9 P w K mg base "holds" (1+nn) ["remark","book","places"] (_root_.K.v8 nn)):j9 P w K mg base "any_is" (1+nn+1) ["wanted","members","book","places"] (_root_.K.Dl (nn+1)) :=
  ⟨f,fd,Z9 F d_holds,F.binds (ps:=["wanted","members","book","places"]) fun _ _ _ _ _ _ us hl=>bd4 (fun _ _ _ _=>rfl) us hl,F.kp,hmg⟩
theorem Q9 {f_holds:Addr} {fd_holds:FuncData} {f_any_is:Addr} {fd_any_is:FuncData} (F_holds:Fun K "holds" "holds" Ft f_holds fd_holds) (h_holds:mg "holds" = some (.ref f_holds)) (F_any_is:Fun K "any_is" "any_is" Dw f_any_is fd_any_is) (h_any_is:mg "any_is" = some (.ref f_any_is)) (d_value:j9 P w K mg base "value" 1 ["one","book"] _root_.K.Cy):∀ nn:Nat,j9 P w K mg base "holds" (1+nn) ["remark","book","places"] (_root_.K.v8 nn)∧j9 P w K mg base "any_is" (1+nn) ["wanted","members","book","places"] (_root_.K.Dl nn)
  | 0=>⟨j9.zero F_holds h_holds (F_holds.binds (ps:=["remark","book","places"]) fun _ _ _ _ _ _ us hl=>bd3 (fun _ _ _=>rfl) us hl),j9.zero F_any_is h_any_is (F_any_is.binds (ps:=["wanted","members","book","places"]) fun _ _ _ _ _ _ us hl=>bd4 (fun _ _ _ _=>rfl) us hl)⟩
  | nn+1=>by
    have ih:=Q9 F_holds h_holds F_any_is h_any_is d_value nn
    obtain ⟨d_holds,d_any_is⟩:=ih
    exact ⟨a3u F_holds h_holds d_any_is d_holds d_value,Zo F_any_is h_any_is d_holds⟩
noncomputable abbrev Ak:Stmt:=top 6
theorem Ib:m6 ["remark"] ["remark"] (gk Ak):=⟨rfl,rfl,rfl,by decide +kernel,rfl,by decide +kernel,by decide +kernel⟩
theorem Oi (F:Fun K "members_of" "members_of" Ak f fd):Dh P w K mg base CX0 1 f fd ["remark"] (spF K (["remark"]:List Str).length _root_.K.yx):=by
  refine pq (N:=["remark"]) F Ib (by decide)  fun cdv A outer s H E B hr=>?_
  have hu:=Bb hr
  have hq:=hr.units
  have nd:(["remark"]:List Str).Nodup:=Ib.nd
  exact gn (Ag (qb (zx hq) (m9 hu (ao 0 (pv 0)) dj (fun _ _=>rfl)) sy (qw _))   (jf (jz (qd (aj (m9 hu (ao 0 (pv 0)) dj (fun _ _=>rfl)) dz) (jq (dh je) (by decide)))))   tu)   (jf (jz (Ob (qb (Hy hq) (m9 hu (ao 0 (pv 0)) dj (fun _ _=>rfl)) (qd (aj sy (aj sy dz)) (jq (dh (dh je)) (by decide))) rfl) (m9 hu (ao 0 (pv 0)) dj (fun _ _=>rfl)) (qd dz (jq je (by decide))))))
theorem Om (F:Fun K "members_of" "members_of" Ak f fd) (hmg:mg "members_of" = some (.ref f)):j9 P w K mg base "members_of" 1 ["remark"] _root_.K.yx :=
  ⟨f,fd,Oi F,F.binds (ps:=["remark"]) fun _ _ _ _ _ _ us hl=>bd1 (fun _=>rfl) us hl,F.kp,hmg⟩
noncomputable abbrev Cp:Stmt:=top 7
theorem M7:m6 ["remark","parts","waiting","part"] ["remark"] (gk Cp):=⟨rfl,rfl,rfl,by decide +kernel,rfl,by decide +kernel,by decide +kernel⟩
theorem Ue (F:Fun K "parts_of" "parts_of" Cp f fd) (d_members_of:j9 P w K mg base "members_of" 1 ["remark"] (_root_.K.yx)) (b_len:mg "len" = none):Dh P w K mg base CX0 2 f fd ["remark"] (spF K (["remark"]:List Str).length _root_.K.zy):=by
  have d_members_of:=d_members_of.mono (show 1≤1 by first | decide | omega)
  refine pq (N:=["remark","parts","waiting","part"]) F M7 (by decide)  fun cdv A outer s H E B hr=>?_
  have hu:=Bb hr
  have hq:=hr.units
  have nd:(["remark","parts","waiting","part"]:List Str).Nodup:=M7.nd
  refine gn ?_ ?_
  · exact G6 1 (jy nd rfl (Or.inl rfl) (Gw dz (jq je (by decide)))) (fun _ _ _ h=>h)
  · refine gn ?_ ?_
    · exact G6 2 (jy nd rfl (Or.inl rfl) (Gw (aj (ao 0 (pv 0)) dz) (jq (dh je) (by decide)))) (fun _ _ _ h=>h)
    · refine gn ?_ ?_
      · exact a4m 1000 PassesOwn.never (qb a5w (a03 2 b_len rfl (pv 2)) dj (qw _))   (gn (a9g 2 3 (Lg (a8j PySem.F.plainAttrs_list PySem.F.slot_list_pop PySem.F.type_list_pop a8r (pv 2)) (jl nd rfl (Or.inl rfl))))   (gn (Bs 1 (Cv (Jf PySem.F.plainAttrs_list PySem.F.slot_list_append PySem.F.type_list_append Aq (pv 1) (vp (ao 3 (pv 3)) Bd))))   (jf (Lw 2 (Cv (Jf PySem.F.plainAttrs_list PySem.F.slot_list_extend PySem.F.type_list_extend J9 (pv 2) (vp (a6u (gb d_members_of hr (by rfl) (aj (ao 3 (pv 3)) dz) (bf jd))) Bd)))))))
      · exact jf (jz (ao 1 (pv 1)))
theorem U9 (F:Fun K "parts_of" "parts_of" Cp f fd) (hmg:mg "parts_of" = some (.ref f)) (d_members_of:j9 P w K mg base "members_of" 1 ["remark"] (_root_.K.yx)) (b_len:mg "len" = none):j9 P w K mg base "parts_of" 2 ["remark"] _root_.K.zy :=
  ⟨f,fd,Ue F d_members_of b_len,F.binds (ps:=["remark"]) fun _ _ _ _ _ _ us hl=>bd1 (fun _=>rfl) us hl,F.kp,hmg⟩
noncomputable abbrev qz:Stmt:=top 8
theorem Ec:m6 ["remark","boxes","part"] ["remark"] (gk qz):=⟨rfl,rfl,rfl,by decide +kernel,rfl,by decide +kernel,by decide +kernel⟩
theorem Iv (F:Fun K "boxes_from_left" "boxes_from_left" qz f fd) (d_boxes_of:j9 P w K mg base "boxes_of" 1 ["one"] (_root_.K.yu)) (d_parts_of:j9 P w K mg base "parts_of" 2 ["remark"] (_root_.K.zy)):Dh P w K mg base CX0 3 f fd ["remark"] (spF K (["remark"]:List Str).length _root_.K.rm):=by
  have d_boxes_of:=d_boxes_of.mono (show 1≤2 by first | decide | omega)
  have d_parts_of:=d_parts_of.mono (show 2≤2 by first | decide | omega)
  refine pq (N:=["remark","boxes","part"]) F Ec (by decide)  fun cdv A outer s H E B hr=>?_
  have hu:=Bb hr
  have hq:=hr.units
  have nd:(["remark","boxes","part"]:List Str).Nodup:=Ec.nd
  refine gn ?_ ?_
  · exact G6 1 (jy nd rfl (Or.inl rfl) (Gw dz (jq je (by decide)))) (fun _ _ _ h=>h)
  · exact gn (Er PassesOwn.never rfl (zf (gb d_parts_of hr (by rfl) (aj (ao 0 (pv 0)) dz) (bf jd))) (ux 2 (jl nd rfl (Or.inl rfl)))   (jf (Ag (qb (Hy hq) (m9 hu (ao 2 (pv 2)) dj (fun _ _=>rfl)) (qd (aj sy (aj sy dz)) (jq (dh (dh je)) (by decide))) rfl)   (jf (Lw 1 (Cv (Jf PySem.F.plainAttrs_list PySem.F.slot_list_extend PySem.F.type_list_extend J9 (pv 1) (vp (gb d_boxes_of hr (by rfl) (aj (m9 hu (ao 2 (pv 2)) dj (fun _ _=>rfl)) dz) (bf jd)) Bd)))))   tu)) yw)   (jf (jz (ao 1 (pv 1))))
theorem J3 (F:Fun K "boxes_from_left" "boxes_from_left" qz f fd) (hmg:mg "boxes_from_left" = some (.ref f)) (d_boxes_of:j9 P w K mg base "boxes_of" 1 ["one"] (_root_.K.yu)) (d_parts_of:j9 P w K mg base "parts_of" 2 ["remark"] (_root_.K.zy)):j9 P w K mg base "boxes_from_left" 3 ["remark"] _root_.K.rm :=
  ⟨f,fd,Iv F d_boxes_of d_parts_of,F.binds (ps:=["remark"]) fun _ _ _ _ _ _ us hl=>bd1 (fun _=>rfl) us hl,F.kp,hmg⟩
noncomputable abbrev uz:Stmt:=top 9
theorem Fg:m6 ["remark"] ["remark"] (gk uz):=⟨rfl,rfl,rfl,by decide +kernel,rfl,by decide +kernel,by decide +kernel⟩
theorem Jt (F:Fun K "ats_from_left" "ats_from_left" uz f fd) (d_parts_of:j9 P w K mg base "parts_of" 2 ["remark"] (_root_.K.zy)):Dh P w K mg base CX0 3 f fd ["remark"] (spF K (["remark"]:List Str).length _root_.K.qp):=by
  have d_parts_of:=d_parts_of.mono (show 2≤2 by first | decide | omega)
  refine pq (N:=["remark"]) F Fg (by decide)  fun cdv A outer s H E B hr=>?_
  have hu:=Bb hr
  have hq:=hr.units
  have nd:(["remark"]:List Str).Nodup:=Fg.nd
  exact jf (jz (uh (Ah (N:=["part"]) ⟨rfl,fun j k h=>match j,h with | _+0,h=>(by cases h)⟩ ⟨rfl,rfl,by decide +kernel,by decide +kernel⟩ rfl (zf (gb d_parts_of hr (by rfl) (aj (ao 0 (pv 0)) dz) (bf jd))) yw (fun C s₀ H₀ ex pn=>pgE fun B=>(ux 0 (jl (show (["part"]:List Str).Nodup by decide +kernel) rfl (Or.inl rfl)))) (fun C s₀ H₀ ex pn=>(a2s fun B=>(qb (zx hq) (m9 hu (ao 0 (pv 0)) dj (fun _ _=>rfl)) sy (qw _)))) (fun C s₀ H₀ ex pn=>peE fun B=>(ao 0 (pv 0))))))
theorem Ju (F:Fun K "ats_from_left" "ats_from_left" uz f fd) (hmg:mg "ats_from_left" = some (.ref f)) (d_parts_of:j9 P w K mg base "parts_of" 2 ["remark"] (_root_.K.zy)):j9 P w K mg base "ats_from_left" 3 ["remark"] _root_.K.qp :=
  ⟨f,fd,Jt F d_parts_of,F.binds (ps:=["remark"]) fun _ _ _ _ _ _ us hl=>bd1 (fun _=>rfl) us hl,F.kp,hmg⟩
noncomputable abbrev Cq:Stmt:=top 10
theorem Ko:m6 ["remark"] ["remark"] (gk Cq):=⟨rfl,rfl,rfl,by decide +kernel,rfl,by decide +kernel,by decide +kernel⟩
theorem Sy (F:Fun K "boxes_in" "boxes_in" Cq f fd) (d_boxes_from_left:j9 P w K mg base "boxes_from_left" 3 ["remark"] (_root_.K.rm)) (b_set:mg "set" = none) (b_sorted:mg "sorted" = none):Dh P w K mg base CX0 4 f fd ["remark"] (aac K (["remark"]:List Str).length _root_.K.Cr):=by
  have d_boxes_from_left:=d_boxes_from_left.mono (show 3≤3 by first | decide | omega)
  refine a3o (N:=["remark"]) F Ko (by decide) (Zn _) fun cdv A outer s H E B hr=>?_
  have hu:=Bb hr
  have hq:=hr.units
  have nd:(["remark"]:List Str).Nodup:=Ko.nd
  exact a4l (Jp rfl (by rfl) b_sorted (by rfl) b_set (gb d_boxes_from_left hr (by rfl) (aj (ao 0 (pv 0)) dz) (bf jd)))
theorem U0 (F:Fun K "boxes_in" "boxes_in" Cq f fd) (hmg:mg "boxes_in" = some (.ref f)) (d_boxes_from_left:j9 P w K mg base "boxes_from_left" 3 ["remark"] (_root_.K.rm)) (b_set:mg "set" = none) (b_sorted:mg "sorted" = none):Ld P w K mg base "boxes_in" 4 ["remark"] _root_.K.Cr :=
  ⟨f,fd,Sy F d_boxes_from_left b_set b_sorted,F.binds (ps:=["remark"]) fun _ _ _ _ _ _ us hl=>bd1 (fun _=>rfl) us hl,F.kp,hmg⟩
noncomputable abbrev Cw:Stmt:=top 11
theorem Ly:m6 ["remark"] ["remark"] (gk Cw):=⟨rfl,rfl,rfl,by decide +kernel,rfl,by decide +kernel,by decide +kernel⟩
theorem Tn (F:Fun K "hands_in" "hands_in" Cw f fd) (d_ats_from_left:j9 P w K mg base "ats_from_left" 3 ["remark"] (_root_.K.qp)) (b_set:mg "set" = none) (b_sorted:mg "sorted" = none):Dh P w K mg base CX0 4 f fd ["remark"] (spF K (["remark"]:List Str).length _root_.K.Cj):=by
  have d_ats_from_left:=d_ats_from_left.mono (show 3≤3 by first | decide | omega)
  refine pq (N:=["remark"]) F Ly (by decide)  fun cdv A outer s H E B hr=>?_
  have hu:=Bb hr
  have hq:=hr.units
  have nd:(["remark"]:List Str).Nodup:=Ly.nd
  exact jf (jz (Qo rfl (by rfl) b_sorted (by rfl) b_set (uh (Ah (N:=["at"]) ⟨rfl,fun j k h=>match j,h with | _+0,h=>(by cases h)⟩ ⟨rfl,rfl,by decide +kernel,by decide +kernel⟩ rfl (zf (gb d_ats_from_left hr (by rfl) (aj (ao 0 (pv 0)) dz) (bf jd))) yw (fun C s₀ H₀ ex pn=>pgE fun B=>(ux 0 (jl (show (["at"]:List Str).Nodup by decide +kernel) rfl (Or.inl rfl)))) (fun C s₀ H₀ ex pn=>vf) (fun C s₀ H₀ ex pn=>peE fun B=>(m9 hu (ao 0 (pv 0)) dj (fun _ _=>rfl)))))))
theorem Tw (F:Fun K "hands_in" "hands_in" Cw f fd) (hmg:mg "hands_in" = some (.ref f)) (d_ats_from_left:j9 P w K mg base "ats_from_left" 3 ["remark"] (_root_.K.qp)) (b_set:mg "set" = none) (b_sorted:mg "sorted" = none):j9 P w K mg base "hands_in" 4 ["remark"] _root_.K.Cj :=
  ⟨f,fd,Tn F d_ats_from_left b_set b_sorted,F.binds (ps:=["remark"]) fun _ _ _ _ _ _ us hl=>bd1 (fun _=>rfl) us hl,F.kp,hmg⟩
noncomputable abbrev Gy:Stmt:=top 14
theorem W8:m6 ["names","others"] ["names","others"] (gk Gy):=⟨rfl,rfl,rfl,by decide +kernel,rfl,by decide +kernel,by decide +kernel⟩
theorem a4e (F:Fun K "meets" "meets" Gy f fd) (b_any:mg "any" = none):Dh P w K mg base CX0 1 f fd ["names","others"] (spF K (["names","others"]:List Str).length _root_.K.Fp):=by
  refine pq (N:=["names","others"]) F W8 (by decide)  fun cdv A outer s H E B hr=>?_
  have hu:=Bb hr
  have hq:=hr.units
  have nd:(["names","others"]:List Str).Nodup:=W8.nd
  exact jf (jz (vg (Ca (a0p (by rfl)) (by rfl) b_any PyProof.Rows.boot_any (aj (uh (Ah (N:=["name","others"]) ⟨rfl,fun j k h=>match j,h with | 0,h=>(by cases h; exact ⟨_,rfl,rfl,⟨.inl rfl,.inr (.inl rfl),.inl rfl⟩⟩) | _+1,h=>(by cases h)⟩ ⟨rfl,rfl,by decide +kernel,by decide +kernel⟩ rfl (zf (ao 0 (pv 0))) yw (fun C s₀ H₀ ex pn=>pgE fun B=>(ux 0 (jl (show (["name","others"]:List Str).Nodup by decide +kernel) rfl (Or.inl rfl)))) (fun C s₀ H₀ ex pn=>vf) (fun C s₀ H₀ ex pn=>peE fun B=>(Nr (Hy hq) (ao 0 (pv 0)) (ao 1 (pv 1)) rfl)))) dz))))
theorem a2v (F:Fun K "meets" "meets" Gy f fd) (hmg:mg "meets" = some (.ref f)) (b_any:mg "any" = none):j9 P w K mg base "meets" 1 ["names","others"] _root_.K.Fp :=
  ⟨f,fd,a4e F b_any,F.binds (ps:=["names","others"]) fun _ _ _ _ _ _ us hl=>bd2 (fun _ _=>rfl) us hl,F.kp,hmg⟩
noncomputable abbrev Ai:Stmt:=top 15
theorem Hs:m6 ["step"] ["step"] (gk Ai):=⟨rfl,rfl,rfl,by decide +kernel,rfl,by decide +kernel,by decide +kernel⟩
theorem Oa (F:Fun K "changed_by" "changed_by" Ai f fd):Dh P w K mg base CX0 1 f fd ["step"] (spF K (["step"]:List Str).length _root_.K.qu):=by
  refine pq (N:=["step"]) F Hs (by decide)  fun cdv A outer s H E B hr=>?_
  have hu:=Bb hr
  have hq:=hr.units
  have nd:(["step"]:List Str).Nodup:=Hs.nd
  refine jf ?_
  · refine jz ?_
    · refine oh ?_ ?_ ?_
      · exact vm
      · exact Io (aj (qd (aj sy (aj (m9 hu (ao 0 (pv 0)) dj (fun _ _=>rfl)) dz)) (jq (dh (dh je)) (by decide))) dz) (jq (dh je) (by decide))
      · exact uh (Ah (N:=["box","one"]) ⟨rfl,fun j k h=>match j,h with | _+0,h=>(by cases h)⟩ ⟨rfl,rfl,by decide +kernel,by decide +kernel⟩ rfl (zf (m9 hu (ao 0 (pv 0)) dj (fun _ _=>rfl))) yw (fun C s₀ H₀ ex pn=>pgE fun B=>(Gm (is:=[0,1]) (Gu rfl (qt (jl (show (["box","one"]:List Str).Nodup by decide +kernel) rfl (Or.inl rfl)) (qt (jl (show (["box","one"]:List Str).Nodup by decide +kernel) rfl (Or.inl rfl)) En))))) (fun C s₀ H₀ ex pn=>vf) (fun C s₀ H₀ ex pn=>peE fun B=>(qd (aj sy (aj (ao 0 (pv 0)) dz)) (jq (dh (dh je)) (by decide)))))
theorem Pa (F:Fun K "changed_by" "changed_by" Ai f fd) (hmg:mg "changed_by" = some (.ref f)):j9 P w K mg base "changed_by" 1 ["step"] _root_.K.qu :=
  ⟨f,fd,Oa F,F.binds (ps:=["step"]) fun _ _ _ _ _ _ us hl=>bd1 (fun _=>rfl) us hl,F.kp,hmg⟩
noncomputable abbrev Ci:Stmt:=top 16
theorem Lk:m6 ["step","hands","boxes","box","one"] ["step"] (gk Ci):=⟨rfl,rfl,rfl,by decide +kernel,rfl,by decide +kernel,by decide +kernel⟩
theorem T3 (F:Fun K "named_by" "named_by" Ci f fd) (d_boxes_in:Ld P w K mg base "boxes_in" 4 ["remark"] (_root_.K.Cr)) (d_boxes_of:j9 P w K mg base "boxes_of" 1 ["one"] (_root_.K.yu)) (d_changed_by:j9 P w K mg base "changed_by" 1 ["step"] (_root_.K.qu)) (d_hands_in:j9 P w K mg base "hands_in" 4 ["remark"] (_root_.K.Cj)):Dh P w K mg base CX0 5 f fd ["step"] (spF K (["step"]:List Str).length _root_.K.Bq):=by
  have d_boxes_in:=d_boxes_in.mono (show 4≤4 by first | decide | omega)
  have d_boxes_of:=d_boxes_of.mono (show 1≤4 by first | decide | omega)
  have d_changed_by:=d_changed_by.mono (show 1≤4 by first | decide | omega)
  have d_hands_in:=d_hands_in.mono (show 4≤4 by first | decide | omega)
  refine pq (N:=["step","hands","boxes","box","one"]) F Lk (by decide)  fun cdv A outer s H E B hr=>?_
  have hu:=Bb hr
  have hq:=hr.units
  have nd:(["step","hands","boxes","box","one"]:List Str).Nodup:=Lk.nd
  refine gn ?_ ?_
  · exact nu 1 (jy nd rfl (Or.inl rfl) (gb d_hands_in hr (by rfl) (aj (m9 hu (ao 0 (pv 0)) dj (fun _ _=>rfl)) dz) (bf jd))) (fun _ _ _ h=>h)
  · refine gn ?_ ?_
    · exact G6 2 (jy nd rfl (Or.inl rfl) (a4s d_boxes_in hr (by rfl) (aj (m9 hu (ao 0 (pv 0)) dj (fun _ _=>rfl)) dz) (bf jd))) (fun _ _ _ h=>h)
    · refine gn ?_ ?_
      · exact Er PassesOwn.never rfl (zf (m9 hu (ao 0 (pv 0)) dj (fun _ _=>rfl))) (Gm (is:=[3,4]) (Gu rfl (qt (jl nd rfl (Or.inl rfl)) (qt (jl nd rfl (Or.inl rfl)) En))))   (jf (Lw 2 (Cv (Jf PySem.F.plainAttrs_list PySem.F.slot_list_extend PySem.F.type_list_extend J9 (pv 2) (vp (gb d_boxes_of hr (by rfl) (aj (ao 4 (pv 4)) dz) (bf jd)) Bd))))) yw
      · refine jf ?_
        · refine jz ?_
          · refine oh ?_ ?_ ?_
            · exact vm
            · exact oh vm (gb d_changed_by hr (by rfl) (aj (ao 0 (pv 0)) dz) (bf jd)) (uh (Ah (N:=["hand"]) ⟨rfl,fun j k h=>match j,h with | _+0,h=>(by cases h)⟩ ⟨rfl,rfl,by decide +kernel,by decide +kernel⟩ rfl (zf (ao 1 (pv 1))) yw (fun C s₀ H₀ ex pn=>pgE fun B=>(ux 0 (jl (show (["hand"]:List Str).Nodup by decide +kernel) rfl (Or.inl rfl)))) (fun C s₀ H₀ ex pn=>vf) (fun C s₀ H₀ ex pn=>peE fun B=>(qd (aj sy (aj (ao 0 (pv 0)) dz)) (jq (dh (dh je)) (by decide))))))
            · exact uh (Ah (N:=["box"]) ⟨rfl,fun j k h=>match j,h with | _+0,h=>(by cases h)⟩ ⟨rfl,rfl,by decide +kernel,by decide +kernel⟩ rfl (zf (ao 2 (pv 2))) yw (fun C s₀ H₀ ex pn=>pgE fun B=>(ux 0 (jl (show (["box"]:List Str).Nodup by decide +kernel) rfl (Or.inl rfl)))) (fun C s₀ H₀ ex pn=>vf) (fun C s₀ H₀ ex pn=>peE fun B=>(qd (aj sy (aj (ao 0 (pv 0)) dz)) (jq (dh (dh je)) (by decide)))))
theorem Tv (F:Fun K "named_by" "named_by" Ci f fd) (hmg:mg "named_by" = some (.ref f)) (d_boxes_in:Ld P w K mg base "boxes_in" 4 ["remark"] (_root_.K.Cr)) (d_boxes_of:j9 P w K mg base "boxes_of" 1 ["one"] (_root_.K.yu)) (d_changed_by:j9 P w K mg base "changed_by" 1 ["step"] (_root_.K.qu)) (d_hands_in:j9 P w K mg base "hands_in" 4 ["remark"] (_root_.K.Cj)):j9 P w K mg base "named_by" 5 ["step"] _root_.K.Bq :=
  ⟨f,fd,T3 F d_boxes_in d_boxes_of d_changed_by d_hands_in,F.binds (ps:=["step"]) fun _ _ _ _ _ _ us hl=>bd1 (fun _=>rfl) us hl,F.kp,hmg⟩
noncomputable abbrev Fe:Stmt:=top 13
theorem Qy:m6 ["program","one","other","first","second"] ["program","one","other"] (gk Fe):=⟨rfl,rfl,rfl,by decide +kernel,rfl,by decide +kernel,by decide +kernel⟩
theorem Yo (F:Fun K "parted" "parted" Fe f fd) (d_changed_by:j9 P w K mg base "changed_by" 1 ["step"] (_root_.K.qu)) (d_meets:j9 P w K mg base "meets" 1 ["names","others"] (_root_.K.Fp)) (d_named_by:j9 P w K mg base "named_by" 5 ["step"] (_root_.K.Bq)):Dh P w K mg base CX0 6 f fd ["program","one","other"] (spF K (["program","one","other"]:List Str).length _root_.K.Fb):=by
  have d_changed_by:=d_changed_by.mono (show 1≤5 by first | decide | omega)
  have d_meets:=d_meets.mono (show 1≤5 by first | decide | omega)
  have d_named_by:=d_named_by.mono (show 5≤5 by first | decide | omega)
  refine pq (N:=["program","one","other","first","second"]) F Qy (by decide)  fun cdv A outer s H E B hr=>?_
  have hu:=Bb hr
  have hq:=hr.units
  have nd:(["program","one","other","first","second"]:List Str).Nodup:=Qy.nd
  refine gn ?_ ?_
  · exact nu 3 (jy nd rfl (Or.inl rfl) (m9 hu (m9 hu (ao 0 (pv 0)) dj (fun _ _=>rfl)) (ao 1 (pv 1)) (fun _ _=>rfl))) (fun _ _ _ h=>h)
  · refine gn ?_ ?_
    · exact nu 4 (jy nd rfl (Or.inl rfl) (m9 hu (m9 hu (ao 0 (pv 0)) dj (fun _ _=>rfl)) (ao 2 (pv 2)) (fun _ _=>rfl))) (fun _ _ _ h=>h)
    · exact jf (jz (Ym (aav (gb d_meets hr (by rfl) (aj (gb d_changed_by hr (by rfl) (aj (ao 3 (pv 3)) dz) (bf jd)) (aj (gb d_named_by hr (by rfl) (aj (ao 4 (pv 4)) dz) (bf jd)) dz)) (bf (bf jd))) (a9v (gb d_meets hr (by rfl) (aj (gb d_changed_by hr (by rfl) (aj (ao 4 (pv 4)) dz) (bf jd)) (aj (gb d_named_by hr (by rfl) (aj (ao 3 (pv 3)) dz) (bf jd)) dz)) (bf (bf jd)))))))
theorem a0g (F:Fun K "parted" "parted" Fe f fd) (hmg:mg "parted" = some (.ref f)) (d_changed_by:j9 P w K mg base "changed_by" 1 ["step"] (_root_.K.qu)) (d_meets:j9 P w K mg base "meets" 1 ["names","others"] (_root_.K.Fp)) (d_named_by:j9 P w K mg base "named_by" 5 ["step"] (_root_.K.Bq)):j9 P w K mg base "parted" 6 ["program","one","other"] _root_.K.Fb :=
  ⟨f,fd,Yo F d_changed_by d_meets d_named_by,F.binds (ps:=["program","one","other"]) fun _ _ _ _ _ _ us hl=>bd3 (fun _ _ _=>rfl) us hl,F.kp,hmg⟩
noncomputable abbrev zu:Stmt:=top 18
theorem Gv:m6 ["program"] ["program"] (gk zu):=⟨rfl,rfl,rfl,by decide +kernel,rfl,by decide +kernel,by decide +kernel⟩
theorem Mw (F:Fun K "first_stand" "first_stand" zu f fd) (b_tuple:mg "tuple" = none):Dh P w K mg base CX0 1 f fd ["program"] (spF K (["program"]:List Str).length _root_.K.Ay):=by
  refine pq (N:=["program"]) F Gv (by decide)  fun cdv A outer s H E B hr=>?_
  have hu:=Bb hr
  have hq:=hr.units
  have nd:(["program"]:List Str).Nodup:=Gv.nd
  refine jf ?_
  · refine jz ?_
    · refine qd ?_ ?_
      · refine aj ?_ ?_
        · exact vg (Av zq (by rfl) b_tuple PyProof.Rows.boot_tuple (aj (uh (Ah (N:=["hand"]) ⟨rfl,fun j k h=>match j,h with | _+0,h=>(by cases h)⟩ ⟨rfl,rfl,by decide +kernel,by decide +kernel⟩ rfl (zf (m9 hu (ao 0 (pv 0)) dj (fun _ _=>rfl))) yw (fun C s₀ H₀ ex pn=>pgE fun B=>(ux 0 (jl (show (["hand"]:List Str).Nodup by decide +kernel) rfl (Or.inl rfl)))) (fun C s₀ H₀ ex pn=>vf) (fun C s₀ H₀ ex pn=>peE fun B=>dj))) dz))
        · exact aj (vg (Av zq (by rfl) b_tuple PyProof.Rows.boot_tuple (aj (uh (Ah (N:=["box"]) ⟨rfl,fun j k h=>match j,h with | _+0,h=>(by cases h)⟩ ⟨rfl,rfl,by decide +kernel,by decide +kernel⟩ rfl (zf (m9 hu (ao 0 (pv 0)) dj (fun _ _=>rfl))) yw (fun C s₀ H₀ ex pn=>pgE fun B=>(ux 0 (jl (show (["box"]:List Str).Nodup by decide +kernel) rfl (Or.inl rfl)))) (fun C s₀ H₀ ex pn=>vf) (fun C s₀ H₀ ex pn=>peE fun B=>(m9 hu (ao 0 (pv 0)) dj (fun _ _=>rfl))))) dz))) dz
      · exact jq (dh (dh je)) (by decide)
theorem Mi (F:Fun K "first_stand" "first_stand" zu f fd) (hmg:mg "first_stand" = some (.ref f)) (b_tuple:mg "tuple" = none):j9 P w K mg base "first_stand" 1 ["program"] _root_.K.Ay :=
  ⟨f,fd,Mw F b_tuple,F.binds (ps:=["program"]) fun _ _ _ _ _ _ us hl=>bd1 (fun _=>rfl) us hl,F.kp,hmg⟩
noncomputable abbrev Dq:Stmt:=top 21
theorem Nf:m6 ["program","stand"] ["program","stand"] (gk Dq):=⟨rfl,rfl,rfl,by decide +kernel,rfl,by decide +kernel,by decide +kernel⟩
theorem Xd (F:Fun K "book_of" "book_of" Dq f fd) (b_dict:mg "dict" = none) (b_zip:mg "zip" = none):Dh P w K mg base CX0 1 f fd ["program","stand"] (spF K (["program","stand"]:List Str).length _root_.K.Bc):=by
  refine pq (N:=["program","stand"]) F Nf (by decide)  fun cdv A outer s H E B hr=>?_
  have hu:=Bb hr
  have hq:=hr.units
  have nd:(["program","stand"]:List Str).Nodup:=Nf.nd
  exact jf (jz (N6 rfl (by rfl) b_dict (by rfl) b_zip (uh (Ah (N:=["box"]) ⟨rfl,fun j k h=>match j,h with | _+0,h=>(by cases h)⟩ ⟨rfl,rfl,by decide +kernel,by decide +kernel⟩ rfl (zf (m9 hu (ao 0 (pv 0)) dj (fun _ _=>rfl))) yw (fun C s₀ H₀ ex pn=>pgE fun B=>(ux 0 (jl (show (["box"]:List Str).Nodup by decide +kernel) rfl (Or.inl rfl)))) (fun C s₀ H₀ ex pn=>vf) (fun C s₀ H₀ ex pn=>peE fun B=>(m9 hu (ao 0 (pv 0)) dj (fun _ _=>rfl))))) (m9 hu (ao 1 (pv 1)) dj (fun _ _=>rfl))))
theorem Xu (F:Fun K "book_of" "book_of" Dq f fd) (hmg:mg "book_of" = some (.ref f)) (b_dict:mg "dict" = none) (b_zip:mg "zip" = none):j9 P w K mg base "book_of" 1 ["program","stand"] _root_.K.Bc :=
  ⟨f,fd,Xd F b_dict b_zip,F.binds (ps:=["program","stand"]) fun _ _ _ _ _ _ us hl=>bd2 (fun _ _=>rfl) us hl,F.kp,hmg⟩
noncomputable abbrev Bm:Stmt:=top 22
theorem Jq:m6 ["program","stand"] ["program","stand"] (gk Bm):=⟨rfl,rfl,rfl,by decide +kernel,rfl,by decide +kernel,by decide +kernel⟩
theorem Q8 (F:Fun K "places_of" "places_of" Bm f fd) (b_dict:mg "dict" = none) (b_zip:mg "zip" = none):Dh P w K mg base CX0 1 f fd ["program","stand"] (spF K (["program","stand"]:List Str).length _root_.K.yp):=by
  refine pq (N:=["program","stand"]) F Jq (by decide)  fun cdv A outer s H E B hr=>?_
  have hu:=Bb hr
  have hq:=hr.units
  have nd:(["program","stand"]:List Str).Nodup:=Jq.nd
  exact jf (jz (N6 rfl (by rfl) b_dict (by rfl) b_zip (uh (Ah (N:=["hand"]) ⟨rfl,fun j k h=>match j,h with | _+0,h=>(by cases h)⟩ ⟨rfl,rfl,by decide +kernel,by decide +kernel⟩ rfl (zf (m9 hu (ao 0 (pv 0)) dj (fun _ _=>rfl))) yw (fun C s₀ H₀ ex pn=>pgE fun B=>(ux 0 (jl (show (["hand"]:List Str).Nodup by decide +kernel) rfl (Or.inl rfl)))) (fun C s₀ H₀ ex pn=>vf) (fun C s₀ H₀ ex pn=>peE fun B=>(m9 hu (ao 0 (pv 0)) dj (fun _ _=>rfl))))) (m9 hu (ao 1 (pv 1)) dj (fun _ _=>rfl))))
theorem Qs (F:Fun K "places_of" "places_of" Bm f fd) (hmg:mg "places_of" = some (.ref f)) (b_dict:mg "dict" = none) (b_zip:mg "zip" = none):j9 P w K mg base "places_of" 1 ["program","stand"] _root_.K.yp :=
  ⟨f,fd,Q8 F b_dict b_zip,F.binds (ps:=["program","stand"]) fun _ _ _ _ _ _ us hl=>bd2 (fun _ _=>rfl) us hl,F.kp,hmg⟩
noncomputable abbrev v7:Stmt:=top 24
theorem Fi:m6 ["program","book","step","sets","values","box","owner","low","high","start","new"] ["program","book","step"] (gk v7):=⟨rfl,rfl,rfl,by decide +kernel,rfl,by decide +kernel,by decide +kernel⟩
theorem Jv (F:Fun K "values_behind" "values_behind" v7 f fd) (d_value:j9 P w K mg base "value" 1 ["one","book"] (_root_.K.Cy)) (b_dict:mg "dict" = none) (b_tuple:mg "tuple" = none):Dh P w K mg base CX0 2 f fd ["program","book","step"] (spF K (["program","book","step"]:List Str).length _root_.K.n6):=by
  have d_value:=d_value.mono (show 1≤1 by first | decide | omega)
  refine pq (N:=["program","book","step","sets","values","box","owner","low","high","start","new"]) F Fi (by decide)  fun cdv A outer s H E B hr=>?_
  have hu:=Bb hr
  have hq:=hr.units
  have nd:(["program","book","step","sets","values","box","owner","low","high","start","new"]:List Str).Nodup:=Fi.nd
  refine gn ?_ ?_
  · exact nu 3 (jy nd rfl (Or.inl rfl) (vg (Av (Xa (by rfl)) (by rfl) b_dict PyProof.Rows.boot_dict (aj (m9 hu (ao 2 (pv 2)) dj (fun _ _=>rfl)) dz)))) (fun _ _ _ h=>h)
  · refine gn ?_ ?_
    · exact G6 4 (jy nd rfl (Or.inl rfl) (Gw dz (jq je (by decide)))) (fun _ _ _ h=>h)
    · refine gn ?_ ?_
      · refine Er ?_ ?_ ?_ ?_ ?_ ?_
        · exact PassesOwn.never
        · exact rfl
        · exact zf (m9 hu (ao 0 (pv 0)) dj (fun _ _=>rfl))
        · exact Gm (is:=[5,6,7,8,9]) (Gu rfl (qt (jl nd rfl (Or.inl rfl)) (qt (jl nd rfl (Or.inl rfl)) (qt (jl nd rfl (Or.inl rfl)) (qt (jl nd rfl (Or.inl rfl)) (qt (jl nd rfl (Or.inl rfl)) En))))))
        · refine gn ?_ ?_
          · exact nu 10 (jy nd rfl (Or.inl rfl) (Ob (qb (Hy hq) (ao 5 (pv 5)) (ao 3 (pv 3)) rfl) (gb d_value hr (by rfl) (aj (m9 hu (ao 3 (pv 3)) (ao 5 (pv 5)) (fun _ _=>rfl)) (aj (ao 1 (pv 1)) dz)) (bf (bf jd))) (m9 hu (ao 1 (pv 1)) (ao 5 (pv 5)) (fun _ _=>rfl)))) (fun _ _ _ h=>h)
          · exact gn (Ag (PW.pt (a1h (qb (Hy hq) (ao 5 (pv 5)) (ao 3 (pv 3)) rfl) (Sv (PW.pt (abh (qb Qq (ao 10 (pv 10)) (ao 7 (pv 7)) (qw _)) (a8s (qb a5w (ao 10 (pv 10)) (ao 8 (pv 8)) (qw _))))))))   (jf (jz a5g))   tu)   (jf (Bs 4 (Cv (Jf PySem.F.plainAttrs_list PySem.F.slot_list_append PySem.F.type_list_append Aq (pv 4) (vp (ao 10 (pv 10)) Bd)))))
        · exact yw
      · exact jf (jz (vg (Av zq (by rfl) b_tuple PyProof.Rows.boot_tuple (aj (ao 4 (pv 4)) dz))))
theorem K3 (F:Fun K "values_behind" "values_behind" v7 f fd) (hmg:mg "values_behind" = some (.ref f)) (d_value:j9 P w K mg base "value" 1 ["one","book"] (_root_.K.Cy)) (b_dict:mg "dict" = none) (b_tuple:mg "tuple" = none):j9 P w K mg base "values_behind" 2 ["program","book","step"] _root_.K.n6 :=
  ⟨f,fd,Jv F d_value b_dict b_tuple,F.binds (ps:=["program","book","step"]) fun _ _ _ _ _ _ us hl=>bd3 (fun _ _ _=>rfl) us hl,F.kp,hmg⟩
noncomputable abbrev v9:Stmt:=top 25
theorem Fj:m6 ["places","step"] ["places","step"] (gk v9):=⟨rfl,rfl,rfl,by decide +kernel,rfl,by decide +kernel,by decide +kernel⟩
theorem Jw (F:Fun K "places_behind" "places_behind" v9 f fd) (b_tuple:mg "tuple" = none):Dh P w K mg base CX0 1 f fd ["places","step"] (spF K (["places","step"]:List Str).length _root_.K.mz):=by
  refine pq (N:=["places","step"]) F Fj (by decide)  fun cdv A outer s H E B hr=>?_
  have hu:=Bb hr
  have hq:=hr.units
  have nd:(["places","step"]:List Str).Nodup:=Fj.nd
  refine jf ?_
  · refine jz ?_
    · refine vg ?_
      · refine Av zq ?_ ?_ PyProof.Rows.boot_tuple ?_
        · exact by rfl
        · exact b_tuple
        · refine aj ?_ ?_
          · refine uh ?_
            · refine a4v (N:=["hand","place","step"]) ?_ ?_ ?_ ?_ ?_ ?_ ?_
              · exact ⟨rfl,fun j k h=>match j,h with | 0,h=>(by cases h; exact ⟨_,rfl,rfl,⟨.inl rfl,.inr (.inl rfl),.inl rfl⟩⟩) | _+1,h=>(by cases h)⟩
              · exact ⟨rfl,rfl,by decide +kernel,by decide +kernel⟩
              · exact rfl
              · exact pv 0
              · exact fun C s₀ H₀ ex pn=>pgE fun B=>(Gm (is:=[0,1]) (Gu rfl (qt (jl (show (["hand","place","step"]:List Str).Nodup by decide +kernel) rfl (Or.inl rfl)) (qt (jl (show (["hand","place","step"]:List Str).Nodup by decide +kernel) rfl (Or.inl rfl)) En))))
              · exact fun C s₀ H₀ ex pn=>vf
              · exact fun C s₀ H₀ ex pn=>peE fun B=>(Ob (qb (zx hq) (ao 0 (pv 0)) (m9 hu (ao 2 (pv 2)) dj (fun _ _=>rfl)) (qw _)) (m9 hu (ao 2 (pv 2)) dj (fun _ _=>rfl)) (ao 1 (pv 1)))
          · exact dz
theorem Jy (F:Fun K "places_behind" "places_behind" v9 f fd) (hmg:mg "places_behind" = some (.ref f)) (b_tuple:mg "tuple" = none):j9 P w K mg base "places_behind" 1 ["places","step"] _root_.K.mz :=
  ⟨f,fd,Jw F b_tuple,F.binds (ps:=["places","step"]) fun _ _ _ _ _ _ us hl=>bd2 (fun _ _=>rfl) us hl,F.kp,hmg⟩
noncomputable abbrev Gx:Stmt:=top 23
theorem Vo:m6 ["program","stand","book","places","told","number","step","values"] ["program","stand"] (gk Gx):=⟨rfl,rfl,rfl,by decide +kernel,rfl,by decide +kernel,by decide +kernel⟩
theorem a3c (F:Fun K "moves" "moves" Gx f fd) (d_book_of:j9 P w K mg base "book_of" 1 ["program","stand"] (_root_.K.Bc)) (d_holds:j9 P w K mg base "holds" 41 ["remark","book","places"] (_root_.K.v8 40)) (d_places_behind:j9 P w K mg base "places_behind" 1 ["places","step"] (_root_.K.mz)) (d_places_of:j9 P w K mg base "places_of" 1 ["program","stand"] (_root_.K.yp)) (d_values_behind:j9 P w K mg base "values_behind" 2 ["program","book","step"] (_root_.K.n6)) (b_enumerate:mg "enumerate" = none):Dh P w K mg base CX0 42 f fd ["program","stand"] (spF K (["program","stand"]:List Str).length _root_.K.Fx):=by
  have d_book_of:=d_book_of.mono (show 1≤41 by first | decide | omega)
  have d_holds:=d_holds.mono (show 41≤41 by first | decide | omega)
  have d_places_behind:=d_places_behind.mono (show 1≤41 by first | decide | omega)
  have d_places_of:=d_places_of.mono (show 1≤41 by first | decide | omega)
  have d_values_behind:=d_values_behind.mono (show 2≤41 by first | decide | omega)
  refine pq (N:=["program","stand","book","places","told","number","step","values"]) F Vo (by decide)  fun cdv A outer s H E B hr=>?_
  have hu:=Bb hr
  have hq:=hr.units
  have nd:(["program","stand","book","places","told","number","step","values"]:List Str).Nodup:=Vo.nd
  refine gn ?_ ?_
  · exact nu 2 (jy nd rfl (Or.inl rfl) (gb d_book_of hr (by rfl) (aj (ao 0 (pv 0)) (aj (ao 1 (pv 1)) dz)) (bf (bf jd)))) (fun _ _ _ h=>h)
  · refine gn ?_ ?_
    · exact nu 3 (jy nd rfl (Or.inl rfl) (gb d_places_of hr (by rfl) (aj (ao 0 (pv 0)) (aj (ao 1 (pv 1)) dz)) (bf (bf jd)))) (fun _ _ _ h=>h)
    · refine gn ?_ ?_
      · exact G6 4 (jy nd rfl (Or.inl rfl) (Gw dz (jq je (by decide)))) (fun _ _ _ h=>h)
      · refine gn ?_ ?_
        · refine Er ?_ ?_ ?_ ?_ ?_ ?_
          · exact PassesOwn.never
          · exact rfl
          · exact a6c (by rfl) b_enumerate (m9 hu (ao 0 (pv 0)) dj (fun _ _=>rfl))
          · exact Gm (is:=[5,6]) (Gu rfl (qt (jl nd rfl (Or.inl rfl)) (qt (jl nd rfl (Or.inl rfl)) En)))
          · refine jf ?_
            · refine Ag ?_ ?_ ?_
              · exact PW.pt (a1h (qb (zx hq) (m9 hu (ao 3 (pv 3)) (m9 hu (ao 6 (pv 6)) dj (fun _ _=>rfl)) (fun _ _=>rfl)) (m9 hu (ao 6 (pv 6)) dj (fun _ _=>rfl)) (qw _)) (Sv (a0l (gb d_holds hr (by rfl) (aj (m9 hu (ao 6 (pv 6)) dj (fun _ _=>rfl)) (aj (ao 2 (pv 2)) (aj (ao 3 (pv 3)) dz))) (bf (bf (bf jd)))))))
              · refine gn ?_ ?_
                · exact nu 7 (jy nd rfl (Or.inl rfl) (gb d_values_behind hr (by rfl) (aj (ao 0 (pv 0)) (aj (ao 2 (pv 2)) (aj (ao 6 (pv 6)) dz))) (bf (bf (bf jd))))) (fun _ _ _ h=>h)
                · exact jf (Ag (qb Z6 (ao 7 (pv 7)) a5g (qw _))   (jf (Bs 4 (Cv (Jf PySem.F.plainAttrs_list PySem.F.slot_list_append PySem.F.type_list_append Aq (pv 4) (vp (qd (aj (ao 5 (pv 5)) (aj (qd (aj (gb d_places_behind hr (by rfl) (aj (ao 3 (pv 3)) (aj (ao 6 (pv 6)) dz)) (bf (bf jd))) (aj (ao 7 (pv 7)) dz)) (jq (dh (dh je)) (by decide))) dz)) (jq (dh (dh je)) (by decide))) Bd)))))   tu)
              · exact tu
          · exact a7u
        · exact jf (jz (ao 4 (pv 4)))
theorem a4r (F:Fun K "moves" "moves" Gx f fd) (hmg:mg "moves" = some (.ref f)) (d_book_of:j9 P w K mg base "book_of" 1 ["program","stand"] (_root_.K.Bc)) (d_holds:j9 P w K mg base "holds" 41 ["remark","book","places"] (_root_.K.v8 40)) (d_places_behind:j9 P w K mg base "places_behind" 1 ["places","step"] (_root_.K.mz)) (d_places_of:j9 P w K mg base "places_of" 1 ["program","stand"] (_root_.K.yp)) (d_values_behind:j9 P w K mg base "values_behind" 2 ["program","book","step"] (_root_.K.n6)) (b_enumerate:mg "enumerate" = none):j9 P w K mg base "moves" 42 ["program","stand"] _root_.K.Fx :=
  ⟨f,fd,a3c F d_book_of d_holds d_places_behind d_places_of d_values_behind b_enumerate,F.binds (ps:=["program","stand"]) fun _ _ _ _ _ _ us hl=>bd2 (fun _ _=>rfl) us hl,F.kp,hmg⟩
noncomputable abbrev Uh:Stmt:=top 19
theorem a5x:m6 ["program","stand"] ["program","stand"] (gk Uh):=⟨rfl,rfl,rfl,by decide +kernel,rfl,by decide +kernel,by decide +kernel⟩
theorem a98 (F:Fun K "can" "can" Uh f fd) (d_moves:j9 P w K mg base "moves" 42 ["program","stand"] (_root_.K.Fx)):Dh P w K mg base CX0 43 f fd ["program","stand"] (spF K (["program","stand"]:List Str).length _root_.K.Mv):=by
  have d_moves:=d_moves.mono (show 42≤42 by first | decide | omega)
  refine pq (N:=["program","stand"]) F a5x (by decide)  fun cdv A outer s H E B hr=>?_
  have hu:=Bb hr
  have hq:=hr.units
  have nd:(["program","stand"]:List Str).Nodup:=a5x.nd
  exact jf (jz (uh (Ah (N:=["number","there"]) ⟨rfl,fun j k h=>match j,h with | _+0,h=>(by cases h)⟩ ⟨rfl,rfl,by decide +kernel,by decide +kernel⟩ rfl (zf (gb d_moves hr (by rfl) (aj (ao 0 (pv 0)) (aj (ao 1 (pv 1)) dz)) (bf (bf jd)))) yw (fun C s₀ H₀ ex pn=>pgE fun B=>(Gm (is:=[0,1]) (Gu rfl (qt (jl (show (["number","there"]:List Str).Nodup by decide +kernel) rfl (Or.inl rfl)) (qt (jl (show (["number","there"]:List Str).Nodup by decide +kernel) rfl (Or.inl rfl)) En))))) (fun C s₀ H₀ ex pn=>vf) (fun C s₀ H₀ ex pn=>peE fun B=>(ao 0 (pv 0))))))
theorem a8h (F:Fun K "can" "can" Uh f fd) (hmg:mg "can" = some (.ref f)) (d_moves:j9 P w K mg base "moves" 42 ["program","stand"] (_root_.K.Fx)):j9 P w K mg base "can" 43 ["program","stand"] _root_.K.Mv :=
  ⟨f,fd,a98 F d_moves,F.binds (ps:=["program","stand"]) fun _ _ _ _ _ _ us hl=>bd2 (fun _ _=>rfl) us hl,F.kp,hmg⟩
noncomputable abbrev Ls:Stmt:=top 20
theorem a1j:m6 ["program","stand","number","step","values"] ["program","stand","number"] (gk Ls):=⟨rfl,rfl,rfl,by decide +kernel,rfl,by decide +kernel,by decide +kernel⟩
theorem a7a (F:Fun K "done" "done" Ls f fd) (d_book_of:j9 P w K mg base "book_of" 1 ["program","stand"] (_root_.K.Bc)) (d_places_behind:j9 P w K mg base "places_behind" 1 ["places","step"] (_root_.K.mz)) (d_places_of:j9 P w K mg base "places_of" 1 ["program","stand"] (_root_.K.yp)) (d_values_behind:j9 P w K mg base "values_behind" 2 ["program","book","step"] (_root_.K.n6)):Dh P w K mg base CX0 3 f fd ["program","stand","number"] (spF K (["program","stand","number"]:List Str).length _root_.K.Gq):=by
  have d_book_of:=d_book_of.mono (show 1≤2 by first | decide | omega)
  have d_places_behind:=d_places_behind.mono (show 1≤2 by first | decide | omega)
  have d_places_of:=d_places_of.mono (show 1≤2 by first | decide | omega)
  have d_values_behind:=d_values_behind.mono (show 2≤2 by first | decide | omega)
  refine pq (N:=["program","stand","number","step","values"]) F a1j (by decide)  fun cdv A outer s H E B hr=>?_
  have hu:=Bb hr
  have hq:=hr.units
  have nd:(["program","stand","number","step","values"]:List Str).Nodup:=a1j.nd
  refine gn ?_ ?_
  · exact nu 3 (jy nd rfl (Or.inl rfl) (m9 hu (m9 hu (ao 0 (pv 0)) dj (fun _ _=>rfl)) (ao 2 (pv 2)) (fun _ _=>rfl))) (fun _ _ _ h=>h)
  · exact gn (nu 4 (jy nd rfl (Or.inl rfl) (gb d_values_behind hr (by rfl) (aj (ao 0 (pv 0)) (aj (gb d_book_of hr (by rfl) (aj (ao 0 (pv 0)) (aj (ao 1 (pv 1)) dz)) (bf (bf jd))) (aj (ao 3 (pv 3)) dz))) (bf (bf (bf jd))))) (fun _ _ _ h=>h))   (jf (jz (qd (aj (gb d_places_behind hr (by rfl) (aj (gb d_places_of hr (by rfl) (aj (ao 0 (pv 0)) (aj (ao 1 (pv 1)) dz)) (bf (bf jd))) (aj (ao 3 (pv 3)) dz)) (bf (bf jd))) (aj (ao 4 (pv 4)) dz)) (jq (dh (dh je)) (by decide)))))
theorem a7d (F:Fun K "done" "done" Ls f fd) (hmg:mg "done" = some (.ref f)) (d_book_of:j9 P w K mg base "book_of" 1 ["program","stand"] (_root_.K.Bc)) (d_places_behind:j9 P w K mg base "places_behind" 1 ["places","step"] (_root_.K.mz)) (d_places_of:j9 P w K mg base "places_of" 1 ["program","stand"] (_root_.K.yp)) (d_values_behind:j9 P w K mg base "values_behind" 2 ["program","book","step"] (_root_.K.n6)):j9 P w K mg base "done" 3 ["program","stand","number"] _root_.K.Gq :=
  ⟨f,fd,a7a F d_book_of d_places_behind d_places_of d_values_behind,F.binds (ps:=["program","stand","number"]) fun _ _ _ _ _ _ us hl=>bd3 (fun _ _ _=>rfl) us hl,F.kp,hmg⟩
noncomputable abbrev zm:Stmt:=top 27
theorem Gs:m6 ["_law_script","_law_k"] ["_law_script","_law_k"] (gk zm):=⟨rfl,rfl,rfl,by decide +kernel,rfl,by decide +kernel,by decide +kernel⟩
theorem Mz (F:Fun K "_law_cell_at" "_law_cell_at" zm f fd) (b_len:mg "len" = none):Dh P w K mg base CX0 1 f fd ["_law_script","_law_k"] (spF K (["_law_script","_law_k"]:List Str).length _root_.K.qg):=by
  refine pq (N:=["_law_script","_law_k"]) F Gs (by decide)  fun cdv A outer s H E B hr=>?_
  have hu:=Bb hr
  have hq:=hr.units
  have nd:(["_law_script","_law_k"]:List Str).Nodup:=Gs.nd
  exact gn (Ag (qb Qq (ao 1 (pv 1)) (vg (Ca Hv (by rfl) b_len PySem.boot_len (aj (ao 0 (pv 0)) dz))) (qw _))   (jf (jz (m9 hu (ao 0 (pv 0)) (ao 1 (pv 1)) (fun _ _=>rfl))))   tu)   (jf (jz dj))
theorem Mx (F:Fun K "_law_cell_at" "_law_cell_at" zm f fd) (hmg:mg "_law_cell_at" = some (.ref f)) (b_len:mg "len" = none):j9 P w K mg base "_law_cell_at" 1 ["_law_script","_law_k"] _root_.K.qg :=
  ⟨f,fd,Mz F b_len,F.binds (ps:=["_law_script","_law_k"]) fun _ _ _ _ _ _ us hl=>bd2 (fun _ _=>rfl) us hl,F.kp,hmg⟩
noncomputable abbrev Cz:Stmt:=top 28
theorem Lp:m6 ["_law_stream","_law_many","_law_found"] ["_law_stream","_law_many"] (gk Cz):=⟨rfl,rfl,rfl,by decide +kernel,rfl,by decide +kernel,by decide +kernel⟩
theorem U3 (F:Fun K "_law_pick" "_law_pick" Cz f fd) (b_len:mg "len" = none):Dh P w K mg base CX0 1 f fd ["_law_stream","_law_many"] (spF K (["_law_stream","_law_many"]:List Str).length _root_.K.fu):=by
  refine pq (N:=["_law_stream","_law_many","_law_found"]) F Lp (by decide)  fun cdv A outer s H E B hr=>?_
  have hu:=Bb hr
  have hq:=hr.units
  have nd:(["_law_stream","_law_many","_law_found"]:List Str).Nodup:=Lp.nd
  refine gn ?_ ?_
  · exact Ag (qb (zx hq) (a08 (by rfl) b_len (ao 0 (pv 0))) dj (qw _))   (jf (a1k 0 (Cv (Jf PySem.F.plainAttrs_list PySem.F.slot_list_append PySem.F.type_list_append Aq (pv 0) (vp (Dj (ao 0 (pv 0)) dj (fun _ _=>rfl)) Bd)))))   tu
  · refine gn ?_ ?_
    · exact Ag (PW.pt (a1h (qb (zx hq) (Dj (ao 0 (pv 0)) dj (fun _ _=>rfl)) dj (qw _)) (Sv (qb (Hy hq) (Dj (ao 0 (pv 0)) dj (fun _ _=>rfl)) (Io (aj dj (aj (a9z a0x dj) dz)) (jq (dh (dh je)) (by decide))) rfl))))   (gn (K6 (Lg (oh vm (Dj (ao 0 (pv 0)) dj (fun _ _=>rfl)) dj) (Us (ao 0 (pv 0)) dj Ke)))   (jf (K6 (Lg dj (Us (ao 0 (pv 0)) dj Ke)))))   tu
    · refine gn ?_ ?_
      · exact Ag (qb (zx hq) (Dj (ao 0 (pv 0)) dj (fun _ _=>rfl)) dj (qw _))   (gn (nu 2 (jy nd rfl (Or.inl rfl) (oh Cd (Dj (ao 0 (pv 0)) dj (fun _ _=>rfl)) (ao 1 (pv 1)))) (fun _ _ _ h=>h))   (gn (K6 (Lg (oh Ge (Dj (ao 0 (pv 0)) dj (fun _ _=>rfl)) (ao 1 (pv 1))) (Us (ao 0 (pv 0)) dj Ke)))   (jf (jz (ao 2 (pv 2))))))   tu
      · exact gn (K6 (Lg (oh Cd (oh vm (oh Fv (oh Cd (Dj (ao 0 (pv 0)) dj (fun _ _=>rfl)) dj) dj) dj) dj) (Us (ao 0 (pv 0)) dj Ke)))   (jf (jz (oh Cd (oh Ge (oh Cd (oh Fv (Dj (ao 0 (pv 0)) dj (fun _ _=>rfl)) dj) dj) dj) (ao 1 (pv 1)))))
theorem Ss (F:Fun K "_law_pick" "_law_pick" Cz f fd) (hmg:mg "_law_pick" = some (.ref f)) (b_len:mg "len" = none):j9 P w K mg base "_law_pick" 1 ["_law_stream","_law_many"] _root_.K.fu :=
  ⟨f,fd,U3 F b_len,F.binds (ps:=["_law_stream","_law_many"]) fun _ _ _ _ _ _ us hl=>bd2 (fun _ _=>rfl) us hl,F.kp,hmg⟩
noncomputable abbrev Cu:Stmt:=top 29
theorem Kl:m6 ["_law_cell","_law_k","_law_size","_law_place"] ["_law_cell","_law_k"] (gk Cu):=⟨rfl,rfl,rfl,by decide +kernel,rfl,by decide +kernel,by decide +kernel⟩
theorem T9 (F:Fun K "_law_name" "_law_name" Cu f fd):Dh P w K mg base CX0 1 f fd ["_law_cell","_law_k"] (spF K (["_law_cell","_law_k"]:List Str).length _root_.K.vq):=by
  refine pq (N:=["_law_cell","_law_k","_law_size","_law_place"]) F Kl (by decide)  fun cdv A outer s H E B hr=>?_
  have hu:=Bb hr
  have hq:=hr.units
  have nd:(["_law_cell","_law_k","_law_size","_law_place"]:List Str).Nodup:=Kl.nd
  refine gn ?_ ?_
  · refine Ag ?_ ?_ ?_
    · exact qb (zx hq) (oh Cd (oh Ge (ao 0 (pv 0)) dj) dj) dj (qw _)
    · refine jf ?_
      · refine jz ?_
        · refine m9 ?_ ?_ ?_ ?_
          · exact hu
          · refine Io ?_ ?_
            · exact Zw (.cons (.cons (.cons (.cons (.cons (.cons (.cons (.cons (.cons (.cons .nil))))))))))
            · exact jq (Wf _) (by decide)
          · exact oh Cd (ao 1 (pv 1)) dj
          · exact fun _ _=>rfl
    · exact tu
  · exact gn (nu 2 (jy nd rfl (Or.inl rfl) (oh vm dj (oh Cd (ao 0 (pv 0)) dj))) (fun _ _ _ h=>h))   (gn (nu 3 (jy nd rfl (Or.inl rfl) (oh Cd (oh Ge (ao 0 (pv 0)) dj) (ao 2 (pv 2)))) (fun _ _ _ h=>h))   (jf (jz (oh vm (oh vm (oh Fv sy (ao 3 (pv 3))) (m9 hu sy (oh Cd (oh vm (oh Fv dj (ao 1 (pv 1))) (oh Ge (ao 0 (pv 0)) dj)) dj) (fun _ _=>rfl))) (oh Fv sy (oh Br (oh Br (ao 2 (pv 2)) dj) (ao 3 (pv 3))))))))
theorem Sd (F:Fun K "_law_name" "_law_name" Cu f fd) (hmg:mg "_law_name" = some (.ref f)):j9 P w K mg base "_law_name" 1 ["_law_cell","_law_k"] _root_.K.vq :=
  ⟨f,fd,T9 F,F.binds (ps:=["_law_cell","_law_k"]) fun _ _ _ _ _ _ us hl=>bd2 (fun _ _=>rfl) us hl,F.kp,hmg⟩
noncomputable abbrev Dt:Stmt:=top 30
theorem Nv:m6 ["_law_stream","_law_boxes_here","_law_number","_law_parts","_law_box","_law_times_of"] ["_law_stream","_law_boxes_here"] (gk Dt):=⟨rfl,rfl,rfl,by decide +kernel,rfl,by decide +kernel,by decide +kernel⟩
theorem Xk (F:Fun K "_law_sum" "_law_sum" Dt f fd) (d_law_pick:j9 P w K mg base "_law_pick" 1 ["_law_stream","_law_many"] (_root_.K.fu)) (b_sorted:mg "sorted" = none) (b_tuple:mg "tuple" = none):Dh P w K mg base CX0 2 f fd ["_law_stream","_law_boxes_here"] (spF K (["_law_stream","_law_boxes_here"]:List Str).length _root_.K.Bf):=by
  have d_law_pick:=d_law_pick.mono (show 1≤1 by first | decide | omega)
  refine pq (N:=["_law_stream","_law_boxes_here","_law_number","_law_parts","_law_box","_law_times_of"]) F Nv (by decide)  fun cdv A outer s H E B hr=>?_
  have hu:=Bb hr
  have hq:=hr.units
  have nd:(["_law_stream","_law_boxes_here","_law_number","_law_parts","_law_box","_law_times_of"]:List Str).Nodup:=Nv.nd
  refine gn ?_ ?_
  · exact nu 2 (jy nd rfl (Or.inl rfl) (oh Br (gb d_law_pick hr (by rfl) (aj (ao 0 (pv 0)) (aj dj dz)) (bf (bf jd))) dj)) (fun _ _ _ h=>h)
  · refine gn ?_ ?_
    · exact Ag (qb (zx hq) (gb d_law_pick hr (by rfl) (aj (ao 0 (pv 0)) (aj dj dz)) (bf (bf jd))) dj (qw _))   (jf (nu 2 (jy nd rfl (Or.inl rfl) (oh Br (gb d_law_pick hr (by rfl) (aj (ao 0 (pv 0)) (aj (oh Br (oh Fv dj (oh Oh dj dj)) dj) dz)) (bf (bf jd))) (oh Br (oh Oh dj dj) dj))) (fun _ _ _ h=>h)))   tu
    · refine gn ?_ ?_
      · exact G6 3 (jy nd rfl (Or.inl rfl) (Gw dz (jq je (by decide)))) (fun _ _ _ h=>h)
      · refine gn ?_ ?_
        · refine Er ?_ ?_ ?_ ?_ ?_ ?_
          · exact PassesOwn.never
          · exact rfl
          · exact zf (vg (Ca (Jo (by rfl)) (by rfl) b_sorted PyProof.Rows.boot_sorted (aj (ao 1 (pv 1)) dz)))
          · exact ux 4 (jl nd rfl (Or.inl rfl))
          · refine gn ?_ ?_
            · exact nu 5 (jy nd rfl (Or.inl rfl) (m9 hu (Io (aj dj (aj dj (aj dj (aj dj (aj (a9z a0x dj) (aj dj (aj (oh Br (gb d_law_pick hr (by rfl) (aj (ao 0 (pv 0)) (aj dj dz)) (bf (bf jd))) dj) dz))))))) (jq (dh (dh (dh (dh (dh (dh (dh je))))))) (by decide))) (gb d_law_pick hr (by rfl) (aj (ao 0 (pv 0)) (aj dj dz)) (bf (bf jd))) (fun _ _=>rfl))) (fun _ _ _ h=>h)
            · exact jf (Ag (qb (Yj hq) (ao 5 (pv 5)) dj (qw _))   (jf (Bs 3 (Cv (Jf PySem.F.plainAttrs_list PySem.F.slot_list_append PySem.F.type_list_append Aq (pv 3) (vp (qd (aj (ao 4 (pv 4)) (aj (ao 5 (pv 5)) dz)) (jq (dh (dh je)) (by decide))) Bd)))))   tu)
          · exact yw
        · exact jf (jz (qd (aj (ao 2 (pv 2)) (aj (vg (Av zq (by rfl) b_tuple PyProof.Rows.boot_tuple (aj (ao 3 (pv 3)) dz))) dz)) (jq (dh (dh je)) (by decide))))
theorem Wx (F:Fun K "_law_sum" "_law_sum" Dt f fd) (hmg:mg "_law_sum" = some (.ref f)) (d_law_pick:j9 P w K mg base "_law_pick" 1 ["_law_stream","_law_many"] (_root_.K.fu)) (b_sorted:mg "sorted" = none) (b_tuple:mg "tuple" = none):j9 P w K mg base "_law_sum" 2 ["_law_stream","_law_boxes_here"] _root_.K.Bf :=
  ⟨f,fd,Xk F d_law_pick b_sorted b_tuple,F.binds (ps:=["_law_stream","_law_boxes_here"]) fun _ _ _ _ _ _ us hl=>bd2 (fun _ _=>rfl) us hl,F.kp,hmg⟩
noncomputable abbrev Am:Stmt:=top 31
theorem Ik:m6 ["_law_stream","_law_boxes_here","_law_hands","_law_way","_law_hand","_law_places","_law_one"] ["_law_stream","_law_boxes_here","_law_hands"] (gk Am):=⟨rfl,rfl,rfl,by decide +kernel,rfl,by decide +kernel,by decide +kernel⟩
theorem Ou (F:Fun K "_law_simple" "_law_simple" Am f fd) (d_law_pick:j9 P w K mg base "_law_pick" 1 ["_law_stream","_law_many"] (_root_.K.fu)) (d_law_sum:j9 P w K mg base "_law_sum" 2 ["_law_stream","_law_boxes_here"] (_root_.K.Bf)) (b_len:mg "len" = none):Dh P w K mg base CX0 3 f fd ["_law_stream","_law_boxes_here","_law_hands"] (spF K (["_law_stream","_law_boxes_here","_law_hands"]:List Str).length _root_.K.su):=by
  have d_law_pick:=d_law_pick.mono (show 1≤2 by first | decide | omega)
  have d_law_sum:=d_law_sum.mono (show 2≤2 by first | decide | omega)
  refine pq (N:=["_law_stream","_law_boxes_here","_law_hands","_law_way","_law_hand","_law_places","_law_one"]) F Ik (by decide)  fun cdv A outer s H E B hr=>?_
  have hu:=Bb hr
  have hq:=hr.units
  have nd:(["_law_stream","_law_boxes_here","_law_hands","_law_way","_law_hand","_law_places","_law_one"]:List Str).Nodup:=Ik.nd
  refine gn ?_ ?_
  · exact nu 3 (jy nd rfl (Or.inl rfl) (gb d_law_pick hr (by rfl) (aj (ao 0 (pv 0)) (aj dj dz)) (bf (bf jd)))) (fun _ _ _ h=>h)
  · refine gn ?_ ?_
    · refine Ag ?_ ?_ ?_
      · exact qb (zx hq) (ao 3 (pv 3)) dj (qw _)
      · exact gn (a9p (Lg (m9 hu (ao 2 (pv 2)) (gb d_law_pick hr (by rfl) (aj (ao 0 (pv 0)) (aj (vg (Ca Hv (by rfl) b_len PySem.boot_len (aj (ao 2 (pv 2)) dz))) dz)) (bf (bf jd))) (fun _ _=>rfl)) (Gm (is:=[4,5]) (Gu rfl (qt (jl nd rfl (Or.inl rfl)) (qt (jl nd rfl (Or.inl rfl)) En))))))   (jf (jz (qd (aj sy (aj (ao 4 (pv 4)) (aj (gb d_law_pick hr (by rfl) (aj (ao 0 (pv 0)) (aj (ao 5 (pv 5)) dz)) (bf (bf jd))) dz))) (jq (dh (dh (dh je))) (by decide)))))
      · exact tu
    · exact gn (nu 6 (jy nd rfl (Or.inl rfl) (gb d_law_sum hr (by rfl) (aj (ao 0 (pv 0)) (aj (ao 1 (pv 1)) dz)) (bf (bf jd)))) (fun _ _ _ h=>h))   (gn (Ag (qb (zx hq) (ao 3 (pv 3)) dj (qw _))   (jf (jz (qd (aj sy (aj (ao 6 (pv 6)) (aj (oh vm dj (gb d_law_pick hr (by rfl) (aj (ao 0 (pv 0)) (aj dj dz)) (bf (bf jd)))) dz))) (jq (dh (dh (dh je))) (by decide)))))   tu)   (jf (jz (qd (aj sy (aj (ao 6 (pv 6)) dz)) (jq (dh (dh je)) (by decide))))))
theorem O2 (F:Fun K "_law_simple" "_law_simple" Am f fd) (hmg:mg "_law_simple" = some (.ref f)) (d_law_pick:j9 P w K mg base "_law_pick" 1 ["_law_stream","_law_many"] (_root_.K.fu)) (d_law_sum:j9 P w K mg base "_law_sum" 2 ["_law_stream","_law_boxes_here"] (_root_.K.Bf)) (b_len:mg "len" = none):j9 P w K mg base "_law_simple" 3 ["_law_stream","_law_boxes_here","_law_hands"] _root_.K.su :=
  ⟨f,fd,Ou F d_law_pick d_law_sum b_len,F.binds (ps:=["_law_stream","_law_boxes_here","_law_hands"]) fun _ _ _ _ _ _ us hl=>bd3 (fun _ _ _=>rfl) us hl,F.kp,hmg⟩
noncomputable abbrev Al:Stmt:=top 32
theorem Ig:m6 ["_law_stream","_law_boxes_here","_law_hands","_law_way","_law_one","_law_two","_law_others"] ["_law_stream","_law_boxes_here","_law_hands"] (gk Al):=⟨rfl,rfl,rfl,by decide +kernel,rfl,by decide +kernel,by decide +kernel⟩
theorem Ot (F:Fun K "_law_remark" "_law_remark" Al f fd) (d_law_pick:j9 P w K mg base "_law_pick" 1 ["_law_stream","_law_many"] (_root_.K.fu)) (d_law_simple:j9 P w K mg base "_law_simple" 3 ["_law_stream","_law_boxes_here","_law_hands"] (_root_.K.su)) (b_range:mg "range" = none) (b_tuple:mg "tuple" = none):Dh P w K mg base CX0 4 f fd ["_law_stream","_law_boxes_here","_law_hands"] (spF K (["_law_stream","_law_boxes_here","_law_hands"]:List Str).length _root_.K.Ao):=by
  have d_law_pick:=d_law_pick.mono (show 1≤3 by first | decide | omega)
  have d_law_simple:=d_law_simple.mono (show 3≤3 by first | decide | omega)
  refine pq (N:=["_law_stream","_law_boxes_here","_law_hands","_law_way","_law_one","_law_two","_law_others"]) F Ig (by decide)  fun cdv A outer s H E B hr=>?_
  have hu:=Bb hr
  have hq:=hr.units
  have nd:(["_law_stream","_law_boxes_here","_law_hands","_law_way","_law_one","_law_two","_law_others"]:List Str).Nodup:=Ig.nd
  refine gn ?_ ?_
  · exact nu 3 (jy nd rfl (Or.inl rfl) (gb d_law_pick hr (by rfl) (aj (ao 0 (pv 0)) (aj dj dz)) (bf (bf jd)))) (fun _ _ _ h=>h)
  · refine gn ?_ ?_
    · exact Ag (qb Qq (ao 3 (pv 3)) dj (qw _))   (jf (jz (qd (aj sy (aj (qd dz (jq je (by decide))) dz)) (jq (dh (dh je)) (by decide)))))   tu
    · refine gn ?_ ?_
      · exact nu 4 (jy nd rfl (Or.inl rfl) (gb d_law_simple hr (by rfl) (aj (ao 0 (pv 0)) (aj (ao 1 (pv 1)) (aj (ao 2 (pv 2)) dz))) (bf (bf (bf jd))))) (fun _ _ _ h=>h)
      · refine gn ?_ ?_
        · exact Ag (qb Qq (ao 3 (pv 3)) dj (qw _))   (jf (jz (ao 4 (pv 4))))   tu
        · refine gn ?_ ?_
          · exact Ag (qb (zx hq) (ao 3 (pv 3)) dj (qw _))   (jf (jz (qd (aj sy (aj (ao 4 (pv 4)) dz)) (jq (dh (dh je)) (by decide)))))   tu
          · refine gn ?_ ?_
            · exact nu 5 (jy nd rfl (Or.inl rfl) (qd (aj (m9 hu (Io (aj sy (aj sy dz)) (jq (dh (dh je)) (by decide))) (oh Cd (ao 3 (pv 3)) dj) (fun _ _=>rfl)) (aj (qd (aj (ao 4 (pv 4)) (aj (gb d_law_simple hr (by rfl) (aj (ao 0 (pv 0)) (aj (ao 1 (pv 1)) (aj (ao 2 (pv 2)) dz))) (bf (bf (bf jd)))) dz)) (jq (dh (dh je)) (by decide))) dz)) (jq (dh (dh je)) (by decide)))) (fun _ _ _ h=>h)
            · refine gn ?_ ?_
              · exact Ag (qb Qq (ao 3 (pv 3)) dj (qw _))   (jf (jz (ao 5 (pv 5))))   tu
              · refine gn ?_ ?_
                · exact Ag (qb (zx hq) (ao 3 (pv 3)) dj (qw _))   (jf (jz (qd (aj sy (aj (qd (aj (m9 hu (Io (aj sy (aj sy dz)) (jq (dh (dh je)) (by decide))) (gb d_law_pick hr (by rfl) (aj (ao 0 (pv 0)) (aj dj dz)) (bf (bf jd))) (fun _ _=>rfl)) (aj (m9 hu (ao 5 (pv 5)) dj (fun _ _=>rfl)) dz)) (jq (dh (dh je)) (by decide))) dz)) (jq (dh (dh je)) (by decide)))))   tu
                · refine gn ?_ ?_
                  · refine Ag ?_ ?_ ?_
                    · exact qb (zx hq) (ao 3 (pv 3)) dj (qw _)
                    · refine jf ?_
                      · exact jz (qd (aj (m9 hu (Io (aj sy (aj sy dz)) (jq (dh (dh je)) (by decide))) (gb d_law_pick hr (by rfl) (aj (ao 0 (pv 0)) (aj dj dz)) (bf (bf jd))) (fun _ _=>rfl)) (aj (qd (aj (qd (aj sy (aj (ao 5 (pv 5)) dz)) (jq (dh (dh je)) (by decide))) (aj (gb d_law_simple hr (by rfl) (aj (ao 0 (pv 0)) (aj (ao 1 (pv 1)) (aj (ao 2 (pv 2)) dz))) (bf (bf (bf jd)))) dz)) (jq (dh (dh je)) (by decide))) dz)) (jq (dh (dh je)) (by decide)))
                    · exact tu
                  · refine gn ?_ ?_
                    · refine nu (te:=tOf _ _ _) _ ?_ (fun _ _ _ h=>h)
                      · refine jy ?_ ?_ ?_ ?_
                        · exact nd
                        · exact rfl
                        · exact Or.inl rfl
                        · refine vg ?_
                          · refine Av zq ?_ ?_ PyProof.Rows.boot_tuple ?_
                            · exact by rfl
                            · exact b_tuple
                            · refine aj ?_ ?_
                              · refine uh ?_
                                · refine Ah (N:=["_law_k","_law_stream","_law_boxes_here","_law_hands"]) ?_ ?_ ?_ ?_ ?_ ?_ ?_ ?_
                                  · exact ⟨rfl,fun j k h=>match j,h with | 0,h=>(by cases h; exact ⟨_,rfl,rfl,⟨.inl rfl,.inr (.inl rfl),.inl rfl⟩⟩) | 1,h=>(by cases h; exact ⟨_,rfl,rfl,⟨.inl rfl,.inr (.inl rfl),.inl rfl⟩⟩) | 2,h=>(by cases h; exact ⟨_,rfl,rfl,⟨.inl rfl,.inr (.inl rfl),.inl rfl⟩⟩) | _+3,h=>(by cases h)⟩
                                  · exact ⟨rfl,rfl,by decide +kernel,by decide +kernel⟩
                                  · exact rfl
                                  · exact Ka (by rfl) b_range (oh vm dj (gb d_law_pick hr (by rfl) (aj (ao 0 (pv 0)) (aj dj dz)) (bf (bf jd))))
                                  · exact K5
                                  · exact fun C s₀ H₀ ex pn=>pgE fun B=>(ux 0 (jl (show (["_law_k","_law_stream","_law_boxes_here","_law_hands"]:List Str).Nodup by decide +kernel) rfl (Or.inl rfl)))
                                  · exact fun C s₀ H₀ ex pn=>vf
                                  · exact fun C s₀ H₀ ex pn=>peE fun B=>(gb d_law_simple hr (by rfl) (aj (ao 1 (pv 1)) (aj (ao 2 (pv 2)) (aj (ao 3 (pv 3)) dz))) (bf (bf (bf jd))))
                              · exact dz
                    · exact jf (jz (qd (aj (m9 hu (Io (aj sy (aj sy dz)) (jq (dh (dh je)) (by decide))) (gb d_law_pick hr (by rfl) (aj (ao 0 (pv 0)) (aj dj dz)) (bf (bf jd))) (fun _ _=>rfl)) (aj (oh vm (m9 hu (ao 5 (pv 5)) dj (fun _ _=>rfl)) (ao 6 (pv 6))) dz)) (jq (dh (dh je)) (by decide))))
theorem Oe (F:Fun K "_law_remark" "_law_remark" Al f fd) (hmg:mg "_law_remark" = some (.ref f)) (d_law_pick:j9 P w K mg base "_law_pick" 1 ["_law_stream","_law_many"] (_root_.K.fu)) (d_law_simple:j9 P w K mg base "_law_simple" 3 ["_law_stream","_law_boxes_here","_law_hands"] (_root_.K.su)) (b_range:mg "range" = none) (b_tuple:mg "tuple" = none):j9 P w K mg base "_law_remark" 4 ["_law_stream","_law_boxes_here","_law_hands"] _root_.K.Ao :=
  ⟨f,fd,Ot F d_law_pick d_law_simple b_range b_tuple,F.binds (ps:=["_law_stream","_law_boxes_here","_law_hands"]) fun _ _ _ _ _ _ us hl=>bd3 (fun _ _ _=>rfl) us hl,F.kp,hmg⟩
noncomputable abbrev Bh:Stmt:=top 33
theorem Jh:m6 ["_law_stream","_law_cell","_law_many","_law_boxes_here","_law_k","_law_low","_law_high"] ["_law_stream","_law_cell","_law_many"] (gk Bh):=⟨rfl,rfl,rfl,by decide +kernel,rfl,by decide +kernel,by decide +kernel⟩
theorem Rn (F:Fun K "_law_boxes" "_law_boxes" Bh f fd) (d_law_name:j9 P w K mg base "_law_name" 1 ["_law_cell","_law_k"] (_root_.K.vq)) (d_law_pick:j9 P w K mg base "_law_pick" 1 ["_law_stream","_law_many"] (_root_.K.fu)) (b_range:mg "range" = none):Dh P w K mg base CX0 2 f fd ["_law_stream","_law_cell","_law_many"] (spF K (["_law_stream","_law_cell","_law_many"]:List Str).length _root_.K.Bj):=by
  have d_law_name:=d_law_name.mono (show 1≤1 by first | decide | omega)
  have d_law_pick:=d_law_pick.mono (show 1≤1 by first | decide | omega)
  refine pq (N:=["_law_stream","_law_cell","_law_many","_law_boxes_here","_law_k","_law_low","_law_high"]) F Jh (by decide)  fun cdv A outer s H E B hr=>?_
  have hu:=Bb hr
  have hq:=hr.units
  have nd:(["_law_stream","_law_cell","_law_many","_law_boxes_here","_law_k","_law_low","_law_high"]:List Str).Nodup:=Jh.nd
  refine gn ?_ ?_
  · exact G6 3 (jy nd rfl (Or.inl rfl) (Gw dz (jq je (by decide)))) (fun _ _ _ h=>h)
  · refine gn ?_ ?_
    · refine Er ?_ ?_ ?_ ?_ ?_ ?_
      · exact PassesOwn.never
      · exact rfl
      · exact Ka (by rfl) b_range (ao 2 (pv 2))
      · exact ux 4 (jl nd rfl (Or.inl rfl))
      · refine gn ?_ ?_
        · exact nu 5 (jy nd rfl (Or.inl rfl) (oh Br (gb d_law_pick hr (by rfl) (aj (ao 0 (pv 0)) (aj dj dz)) (bf (bf jd))) dj)) (fun _ _ _ h=>h)
        · refine gn ?_ ?_
          · exact Ag (qb (zx hq) (gb d_law_pick hr (by rfl) (aj (ao 0 (pv 0)) (aj dj dz)) (bf (bf jd))) dj (qw _))   (jf (nu 5 (jy nd rfl (Or.inl rfl) (oh Br (gb d_law_pick hr (by rfl) (aj (ao 0 (pv 0)) (aj (oh Br (oh Fv dj (oh Oh dj dj)) dj) dz)) (bf (bf jd))) (oh Oh dj dj))) (fun _ _ _ h=>h)))   tu
          · refine gn ?_ ?_
            · exact nu 6 (jy nd rfl (Or.inl rfl) (oh vm (ao 5 (pv 5)) (gb d_law_pick hr (by rfl) (aj (ao 0 (pv 0)) (aj dj dz)) (bf (bf jd))))) (fun _ _ _ h=>h)
            · exact jf (Bs 3 (Cv (Jf PySem.F.plainAttrs_list PySem.F.slot_list_append PySem.F.type_list_append Aq (pv 3) (vp (qd (aj (gb d_law_name hr (by rfl) (aj (ao 1 (pv 1)) (aj (ao 4 (pv 4)) dz)) (bf (bf jd))) (aj sy (aj (ao 5 (pv 5)) (aj (ao 6 (pv 6)) (aj (oh vm (ao 5 (pv 5)) (gb d_law_pick hr (by rfl) (aj (ao 0 (pv 0)) (aj (oh vm (oh Br (ao 6 (pv 6)) (ao 5 (pv 5))) dj) dz)) (bf (bf jd)))) dz))))) (jq (dh (dh (dh (dh (dh je))))) (by decide))) Bd))))
      · exact K5
    · exact jf (jz (ao 3 (pv 3)))
theorem Qm (F:Fun K "_law_boxes" "_law_boxes" Bh f fd) (hmg:mg "_law_boxes" = some (.ref f)) (d_law_name:j9 P w K mg base "_law_name" 1 ["_law_cell","_law_k"] (_root_.K.vq)) (d_law_pick:j9 P w K mg base "_law_pick" 1 ["_law_stream","_law_many"] (_root_.K.fu)) (b_range:mg "range" = none):j9 P w K mg base "_law_boxes" 2 ["_law_stream","_law_cell","_law_many"] _root_.K.Bj :=
  ⟨f,fd,Rn F d_law_name d_law_pick b_range,F.binds (ps:=["_law_stream","_law_cell","_law_many"]) fun _ _ _ _ _ _ us hl=>bd3 (fun _ _ _=>rfl) us hl,F.kp,hmg⟩
noncomputable abbrev Cg:Stmt:=top 34
theorem Km:m6 ["_law_stream","_law_boxes_here","_law_hands","_law_hand","_law_places","_law_here","_law_there","_law_guard","_law_sets","_law_box","_law_way"] ["_law_stream","_law_boxes_here","_law_hands"] (gk Cg):=⟨rfl,rfl,rfl,by decide +kernel,rfl,by decide +kernel,by decide +kernel⟩
theorem Tc (F:Fun K "_law_step" "_law_step" Cg f fd) (d_law_pick:j9 P w K mg base "_law_pick" 1 ["_law_stream","_law_many"] (_root_.K.fu)) (d_law_remark:j9 P w K mg base "_law_remark" 4 ["_law_stream","_law_boxes_here","_law_hands"] (_root_.K.Ao)) (d_law_sum:j9 P w K mg base "_law_sum" 2 ["_law_stream","_law_boxes_here"] (_root_.K.Bf)) (b_len:mg "len" = none) (b_sorted:mg "sorted" = none) (b_tuple:mg "tuple" = none):Dh P w K mg base CX0 5 f fd ["_law_stream","_law_boxes_here","_law_hands"] (spF K (["_law_stream","_law_boxes_here","_law_hands"]:List Str).length _root_.K.Bo):=by
  have d_law_pick:=d_law_pick.mono (show 1≤4 by first | decide | omega)
  have d_law_remark:=d_law_remark.mono (show 4≤4 by first | decide | omega)
  have d_law_sum:=d_law_sum.mono (show 2≤4 by first | decide | omega)
  refine pq (N:=["_law_stream","_law_boxes_here","_law_hands","_law_hand","_law_places","_law_here","_law_there","_law_guard","_law_sets","_law_box","_law_way"]) F Km (by decide)  fun cdv A outer s H E B hr=>?_
  have hu:=Bb hr
  have hq:=hr.units
  have nd:(["_law_stream","_law_boxes_here","_law_hands","_law_hand","_law_places","_law_here","_law_there","_law_guard","_law_sets","_law_box","_law_way"]:List Str).Nodup:=Km.nd
  refine gn ?_ ?_
  · exact a9p (Lg (m9 hu (ao 2 (pv 2)) (gb d_law_pick hr (by rfl) (aj (ao 0 (pv 0)) (aj (vg (Ca Hv (by rfl) b_len PySem.boot_len (aj (ao 2 (pv 2)) dz))) dz)) (bf (bf jd))) (fun _ _=>rfl)) (Gm (is:=[3,4]) (Gu rfl (qt (jl nd rfl (Or.inl rfl)) (qt (jl nd rfl (Or.inl rfl)) En)))))
  · refine gn ?_ ?_
    · exact nu 5 (jy nd rfl (Or.inl rfl) (gb d_law_pick hr (by rfl) (aj (ao 0 (pv 0)) (aj (ao 4 (pv 4)) dz)) (bf (bf jd)))) (fun _ _ _ h=>h)
    · refine gn ?_ ?_
      · exact nu 6 (jy nd rfl (Or.inl rfl) (gb d_law_pick hr (by rfl) (aj (ao 0 (pv 0)) (aj (ao 4 (pv 4)) dz)) (bf (bf jd)))) (fun _ _ _ h=>h)
      · refine gn ?_ ?_
        · exact nu 7 (jy nd rfl (Or.inl rfl) (gb d_law_remark hr (by rfl) (aj (ao 0 (pv 0)) (aj (ao 1 (pv 1)) (aj (ao 2 (pv 2)) dz))) (bf (bf (bf jd))))) (fun _ _ _ h=>h)
        · refine gn ?_ ?_
          · exact G6 8 (jy nd rfl (Or.inl rfl) (Gw dz (jq je (by decide)))) (fun _ _ _ h=>h)
          · refine gn ?_ ?_
            · refine Er ?_ ?_ ?_ ?_ ?_ ?_
              · exact PassesOwn.never
              · exact rfl
              · exact zf (vg (Ca (Jo (by rfl)) (by rfl) b_sorted PyProof.Rows.boot_sorted (aj (ao 1 (pv 1)) dz)))
              · exact ux 9 (jl nd rfl (Or.inl rfl))
              · refine gn ?_ ?_
                · exact nu 10 (jy nd rfl (Or.inl rfl) (gb d_law_pick hr (by rfl) (aj (ao 0 (pv 0)) (aj dj dz)) (bf (bf jd)))) (fun _ _ _ h=>h)
                · refine gn ?_ ?_
                  · exact Ag (qb (zx hq) (ao 10 (pv 10)) dj (qw _))   (jf (Bs 8 (Cv (Jf PySem.F.plainAttrs_list PySem.F.slot_list_append PySem.F.type_list_append Aq (pv 8) (vp (qd (aj (ao 9 (pv 9)) (aj (gb d_law_sum hr (by rfl) (aj (ao 0 (pv 0)) (aj (ao 1 (pv 1)) dz)) (bf (bf jd))) dz)) (jq (dh (dh je)) (by decide))) Bd)))))   tu
                  · refine jf ?_
                    · refine Ag ?_ ?_ ?_
                      · exact qb (zx hq) (ao 10 (pv 10)) dj (qw _)
                      · exact jf (Bs 8 (Cv (Jf PySem.F.plainAttrs_list PySem.F.slot_list_append PySem.F.type_list_append Aq (pv 8) (vp (qd (aj (ao 9 (pv 9)) (aj (qd (aj (oh Br (gb d_law_pick hr (by rfl) (aj (ao 0 (pv 0)) (aj dj dz)) (bf (bf jd))) dj) (aj (qd (aj (qd (aj (ao 9 (pv 9)) (aj dj dz)) (jq (dh (dh je)) (by decide))) dz) (jq (dh je) (by decide))) dz)) (jq (dh (dh je)) (by decide))) dz)) (jq (dh (dh je)) (by decide))) Bd))))
                      · exact tu
              · exact yw
            · exact jf (jz (qd (aj (ao 3 (pv 3)) (aj (ao 5 (pv 5)) (aj (ao 7 (pv 7)) (aj (vg (Av zq (by rfl) b_tuple PyProof.Rows.boot_tuple (aj (ao 8 (pv 8)) dz))) (aj (ao 6 (pv 6)) dz))))) (jq (dh (dh (dh (dh (dh je))))) (by decide))))
theorem Rz (F:Fun K "_law_step" "_law_step" Cg f fd) (hmg:mg "_law_step" = some (.ref f)) (d_law_pick:j9 P w K mg base "_law_pick" 1 ["_law_stream","_law_many"] (_root_.K.fu)) (d_law_remark:j9 P w K mg base "_law_remark" 4 ["_law_stream","_law_boxes_here","_law_hands"] (_root_.K.Ao)) (d_law_sum:j9 P w K mg base "_law_sum" 2 ["_law_stream","_law_boxes_here"] (_root_.K.Bf)) (b_len:mg "len" = none) (b_sorted:mg "sorted" = none) (b_tuple:mg "tuple" = none):j9 P w K mg base "_law_step" 5 ["_law_stream","_law_boxes_here","_law_hands"] _root_.K.Bo :=
  ⟨f,fd,Tc F d_law_pick d_law_remark d_law_sum b_len b_sorted b_tuple,F.binds (ps:=["_law_stream","_law_boxes_here","_law_hands"]) fun _ _ _ _ _ _ us hl=>bd3 (fun _ _ _=>rfl) us hl,F.kp,hmg⟩
noncomputable abbrev zp:Stmt:=top 35
theorem Gn:m6 ["_law_script","_law_most","_law_way","_law_cell","_law_stream","_law_many","_law_hands","_law_k","_law_boxes_here","_law_names","_law_steps"] ["_law_script","_law_most"] (gk zp):=⟨rfl,rfl,rfl,by decide +kernel,rfl,by decide +kernel,by decide +kernel⟩
theorem Mr (F:Fun K "_law_program" "_law_program" zp f fd) (d_law_boxes:j9 P w K mg base "_law_boxes" 2 ["_law_stream","_law_cell","_law_many"] (_root_.K.Bj)) (d_law_cell_at:j9 P w K mg base "_law_cell_at" 1 ["_law_script","_law_k"] (_root_.K.qg)) (d_law_name:j9 P w K mg base "_law_name" 1 ["_law_cell","_law_k"] (_root_.K.vq)) (d_law_pick:j9 P w K mg base "_law_pick" 1 ["_law_stream","_law_many"] (_root_.K.fu)) (d_law_step:j9 P w K mg base "_law_step" 5 ["_law_stream","_law_boxes_here","_law_hands"] (_root_.K.Bo)) (b_range:mg "range" = none):Dh P w K mg base CX0 6 f fd ["_law_script","_law_most"] (spF K (["_law_script","_law_most"]:List Str).length _root_.K.Ba):=by
  have d_law_boxes:=d_law_boxes.mono (show 2≤5 by first | decide | omega)
  have d_law_cell_at:=d_law_cell_at.mono (show 1≤5 by first | decide | omega)
  have d_law_name:=d_law_name.mono (show 1≤5 by first | decide | omega)
  have d_law_pick:=d_law_pick.mono (show 1≤5 by first | decide | omega)
  have d_law_step:=d_law_step.mono (show 5≤5 by first | decide | omega)
  refine pq (N:=["_law_script","_law_most","_law_way","_law_cell","_law_stream","_law_many","_law_hands","_law_k","_law_boxes_here","_law_names","_law_steps"]) F Gn (by decide)  fun cdv A outer s H E B hr=>?_
  have hu:=Bb hr
  have hq:=hr.units
  have nd:(["_law_script","_law_most","_law_way","_law_cell","_law_stream","_law_many","_law_hands","_law_k","_law_boxes_here","_law_names","_law_steps"]:List Str).Nodup:=Gn.nd
  refine gn ?_ ?_
  · exact nu 2 (jy nd rfl (Or.inr rfl) (oh Cd (oh Ge (gb d_law_cell_at hr (by rfl) (aj (ao 0 (pv 0)) (aj dj dz)) (bf (bf jd))) dj) dj)) (fun _ _ _ h=>h)
  · refine gn ?_ ?_
    · exact nu 3 (jy nd rfl (Or.inl rfl) (gb d_law_cell_at hr (by rfl) (aj (ao 0 (pv 0)) (aj dj dz)) (bf (bf jd)))) (fun _ _ _ h=>h)
    · refine gn ?_ ?_
      · exact nu 4 (jy nd rfl (Or.inl rfl) (Le (aj (gb d_law_cell_at hr (by rfl) (aj (ao 0 (pv 0)) (aj dj dz)) (bf (bf jd))) (aj (ao 2 (pv 2)) dz)) (jq (dh (dh je)) (by decide)))) (fun _ _ _ h=>h)
      · refine gn ?_ ?_
        · exact nu 5 (jy nd rfl (Or.inl rfl) (oh vm dj (gb d_law_pick hr (by rfl) (aj (ao 4 (pv 4)) (aj dj dz)) (bf (bf jd))))) (fun _ _ _ h=>h)
        · refine gn ?_ ?_
          · exact G6 6 (jy nd rfl (Or.inr rfl) (Gw dz (jq je (by decide)))) (fun _ _ _ h=>h)
          · refine gn ?_ ?_
            · refine Er ?_ ?_ ?_ ?_ ?_ ?_
              · exact PassesOwn.never
              · exact rfl
              · exact Ka (by rfl) b_range (ao 5 (pv 5))
              · exact ux 7 (jl nd rfl (Or.inl rfl))
              · refine jf ?_
                · exact Bs 6 (Cv (Jf PySem.F.plainAttrs_list PySem.F.slot_list_append PySem.F.type_list_append Aq (pv 6) (vp (qd (aj (gb d_law_name hr (by rfl) (aj (ao 3 (pv 3)) (aj (oh vm dj (ao 7 (pv 7))) dz)) (bf (bf jd))) (aj (oh vm dj (gb d_law_pick hr (by rfl) (aj (ao 4 (pv 4)) (aj (m9 hu (Io (aj dj (aj dj (aj dj dz))) (jq (dh (dh (dh je))) (by decide))) (oh Br (ao 5 (pv 5)) dj) (fun _ _=>rfl)) dz)) (bf (bf jd)))) dz)) (jq (dh (dh je)) (by decide))) Bd)))
              · exact K5
            · refine gn ?_ ?_
              · exact nu 8 (jy nd rfl (Or.inl rfl) (gb d_law_boxes hr (by rfl) (aj (ao 4 (pv 4)) (aj (ao 3 (pv 3)) (aj (gb d_law_pick hr (by rfl) (aj (ao 4 (pv 4)) (aj dj dz)) (bf (bf jd))) dz))) (bf (bf (bf jd))))) (fun _ _ _ h=>h)
              · refine gn ?_ ?_
                · exact nu 9 (jy nd rfl (Or.inr rfl) (uh (Ah (N:=["_law_box"]) ⟨rfl,fun j k h=>match j,h with | _+0,h=>(by cases h)⟩ ⟨rfl,rfl,by decide +kernel,by decide +kernel⟩ rfl (zf (ao 8 (pv 8))) yw (fun C s₀ H₀ ex pn=>pgE fun B=>(ux 0 (jl (show (["_law_box"]:List Str).Nodup by decide +kernel) rfl (Or.inl rfl)))) (fun C s₀ H₀ ex pn=>vf) (fun C s₀ H₀ ex pn=>peE fun B=>(m9 hu (ao 0 (pv 0)) dj (fun _ _=>rfl)))))) (fun _ _ _ h=>h)
                · refine gn ?_ ?_
                  · exact nu 10 (a6k (N:=["_law_one","_law_names","_law_hands","_law_way"]) ⟨rfl,rfl,by decide +kernel,by decide +kernel⟩ rfl (zf (Vd (ao 0 (pv 0)) (Nz dj) (Nz (oh vm dj (ao 1 (pv 1)))))) (fun C s₀ H₀ ex pn=>pgE fun B=>(ux 0 (jl (show (["_law_one","_law_names","_law_hands","_law_way"]:List Str).Nodup by decide +kernel) rfl (Or.inl rfl)))) (fun C s₀ H₀ ex pn=>vf) (fun C s₀ H₀ ex pn=>peE fun B=>(gb d_law_step hr (by rfl) (aj (Le (aj (ao 0 (pv 0)) (aj (ao 3 (pv 3)) dz)) (jq (dh (dh je)) (by decide))) (aj (ao 1 (pv 1)) (aj (ao 2 (pv 2)) dz))) (bf (bf (bf jd))))) (jl nd rfl (Or.inl rfl)) rfl) (fun σ H Q h=>a5f ⟨rfl,fun j k h=>match j,h with | 0,h=>(by cases h; exact ⟨_,rfl,rfl,⟨.inl rfl,.inr (.inl rfl),.inl rfl⟩⟩) | 1,h=>(by cases h; exact ⟨_,rfl,rfl,⟨.inl rfl,.inr (.inl rfl),.inl rfl⟩⟩) | 2,h=>(by cases h; exact ⟨_,rfl,rfl,⟨.inl rfl,.inr (.inl rfl),.inl rfl⟩⟩) | _+3,h=>(by cases h)⟩ yw (a5n h))
                  · exact jf (jz (qd (aj (ao 8 (pv 8)) (aj (ao 6 (pv 6)) (aj (ao 10 (pv 10)) (aj (qd dz (jq je (by decide))) dz)))) (jq (dh (dh (dh (dh je)))) (by decide))))
theorem Ms (F:Fun K "_law_program" "_law_program" zp f fd) (hmg:mg "_law_program" = some (.ref f)) (d_law_boxes:j9 P w K mg base "_law_boxes" 2 ["_law_stream","_law_cell","_law_many"] (_root_.K.Bj)) (d_law_cell_at:j9 P w K mg base "_law_cell_at" 1 ["_law_script","_law_k"] (_root_.K.qg)) (d_law_name:j9 P w K mg base "_law_name" 1 ["_law_cell","_law_k"] (_root_.K.vq)) (d_law_pick:j9 P w K mg base "_law_pick" 1 ["_law_stream","_law_many"] (_root_.K.fu)) (d_law_step:j9 P w K mg base "_law_step" 5 ["_law_stream","_law_boxes_here","_law_hands"] (_root_.K.Bo)) (b_range:mg "range" = none):j9 P w K mg base "_law_program" 6 ["_law_script","_law_most"] _root_.K.Ba :=
  ⟨f,fd,Mr F d_law_boxes d_law_cell_at d_law_name d_law_pick d_law_step b_range,F.binds (ps:=["_law_script","_law_most"]) fun _ _ _ _ _ _ us hl=>bd2 (fun _ _=>rfl) us hl,F.kp,hmg⟩
noncomputable abbrev Bl:Stmt:=top 36
theorem Jm:m6 ["_law_program_here","_law_stand","_law_here","_law_one","_law_there","_law_then","_law_other","_law_back"] ["_law_program_here","_law_stand","_law_here","_law_one"] (gk Bl):=⟨rfl,rfl,rfl,by decide +kernel,rfl,by decide +kernel,by decide +kernel⟩
theorem Qk (F:Fun K "_law_meets" "_law_meets" Bl f fd) (d_can:j9 P w K mg base "can" 43 ["program","stand"] (_root_.K.Mv)) (d_done:j9 P w K mg base "done" 3 ["program","stand","number"] (_root_.K.Gq)) (d_parted:j9 P w K mg base "parted" 6 ["program","one","other"] (_root_.K.Fb)) (b_len:mg "len" = none) (b_range:mg "range" = none):Dh P w K mg base CX0 44 f fd ["_law_program_here","_law_stand","_law_here","_law_one"] (spF K (["_law_program_here","_law_stand","_law_here","_law_one"]:List Str).length _root_.K.Aw):=by
  have d_can:=d_can.mono (show 43≤43 by first | decide | omega)
  have d_done:=d_done.mono (show 3≤43 by first | decide | omega)
  have d_parted:=d_parted.mono (show 6≤43 by first | decide | omega)
  refine pq (N:=["_law_program_here","_law_stand","_law_here","_law_one","_law_there","_law_then","_law_other","_law_back"]) F Jm (by decide)  fun cdv A outer s H E B hr=>?_
  have hu:=Bb hr
  have hq:=hr.units
  have nd:(["_law_program_here","_law_stand","_law_here","_law_one","_law_there","_law_then","_law_other","_law_back"]:List Str).Nodup:=Jm.nd
  refine gn ?_ ?_
  · exact nu 4 (jy nd rfl (Or.inl rfl) (gb d_done hr (by rfl) (aj (ao 0 (pv 0)) (aj (ao 1 (pv 1)) (aj (ao 3 (pv 3)) dz))) (bf (bf (bf jd))))) (fun _ _ _ h=>h)
  · refine gn ?_ ?_
    · exact nu 5 (jy nd rfl (Or.inl rfl) (gb d_can hr (by rfl) (aj (ao 0 (pv 0)) (aj (ao 4 (pv 4)) dz)) (bf (bf jd)))) (fun _ _ _ h=>h)
    · refine gn ?_ ?_
      · refine Er ?_ ?_ ?_ ?_ ?_ ?_
        · exact PassesOwn.never
        · exact rfl
        · exact Ka (by rfl) b_range (vg (Ca Hv (by rfl) b_len PySem.boot_len (aj (m9 hu (ao 0 (pv 0)) dj (fun _ _=>rfl)) dz)))
        · exact ux 6 (jl nd rfl (Or.inl rfl))
        · refine jf ?_
          · refine Ag ?_ ?_ ?_
            · exact a0l (gb d_parted hr (by rfl) (aj (ao 0 (pv 0)) (aj (ao 3 (pv 3)) (aj (ao 6 (pv 6)) dz))) (bf (bf (bf jd))))
            · refine gn ?_ ?_
              · exact Ag (qb (Yj hq) (Nr (Hy hq) (ao 6 (pv 6)) (ao 5 (pv 5)) rfl) (Nr (Hy hq) (ao 6 (pv 6)) (ao 2 (pv 2)) rfl) (qw _))   (jf (jz Mu))   tu
              · refine jf ?_
                · refine Ag ?_ ?_ ?_
                  · exact qb (Hy hq) (ao 6 (pv 6)) (ao 2 (pv 2)) rfl
                  · refine gn ?_ ?_
                    · exact nu 7 (jy nd rfl (Or.inl rfl) (gb d_done hr (by rfl) (aj (ao 0 (pv 0)) (aj (ao 1 (pv 1)) (aj (ao 6 (pv 6)) dz))) (bf (bf (bf jd))))) (fun _ _ _ h=>h)
                    · exact gn (Ag (qb (Z7 hq) (ao 3 (pv 3)) (gb d_can hr (by rfl) (aj (ao 0 (pv 0)) (aj (ao 7 (pv 7)) dz)) (bf (bf jd))) rfl)   (jf (jz Mu))   tu)   (jf (Ag (qb (Yj hq) (gb d_done hr (by rfl) (aj (ao 0 (pv 0)) (aj (ao 7 (pv 7)) (aj (ao 3 (pv 3)) dz))) (bf (bf (bf jd)))) (gb d_done hr (by rfl) (aj (ao 0 (pv 0)) (aj (ao 4 (pv 4)) (aj (ao 6 (pv 6)) dz))) (bf (bf (bf jd)))) (qw _))   (jf (jz Mu))   tu))
                  · exact tu
            · exact tu
        · exact K5
      · exact jf (jz Mu)
theorem Ql (F:Fun K "_law_meets" "_law_meets" Bl f fd) (hmg:mg "_law_meets" = some (.ref f)) (d_can:j9 P w K mg base "can" 43 ["program","stand"] (_root_.K.Mv)) (d_done:j9 P w K mg base "done" 3 ["program","stand","number"] (_root_.K.Gq)) (d_parted:j9 P w K mg base "parted" 6 ["program","one","other"] (_root_.K.Fb)) (b_len:mg "len" = none) (b_range:mg "range" = none):j9 P w K mg base "_law_meets" 44 ["_law_program_here","_law_stand","_law_here","_law_one"] _root_.K.Aw :=
  ⟨f,fd,Qk F d_can d_done d_parted b_len b_range,F.binds (ps:=["_law_program_here","_law_stand","_law_here","_law_one"]) fun _ _ _ _ _ _ us hl=>bd4 (fun _ _ _ _=>rfl) us hl,F.kp,hmg⟩
noncomputable abbrev O1:Stmt:=top 37
theorem a5q:m6 ["_law_script","_law_program_here","_law_stands","_law_cell","_law_stream","_law_places","_law_values","_law_stand","_law_here","_law_one"] ["_law_script"] (gk O1):=⟨rfl,rfl,rfl,by decide +kernel,rfl,by decide +kernel,by decide +kernel⟩
theorem a8v (F:Fun K "law" "law" O1 f fd) (d_law_meets:j9 P w K mg base "_law_meets" 44 ["_law_program_here","_law_stand","_law_here","_law_one"] (_root_.K.Aw)) (d_law_pick:j9 P w K mg base "_law_pick" 1 ["_law_stream","_law_many"] (_root_.K.fu)) (d_law_program:j9 P w K mg base "_law_program" 6 ["_law_script","_law_most"] (_root_.K.Ba)) (d_can:j9 P w K mg base "can" 43 ["program","stand"] (_root_.K.Mv)) (d_first_stand:j9 P w K mg base "first_stand" 1 ["program"] (_root_.K.Ay)) (b_tuple:mg "tuple" = none):Dh P w K mg base CX0 45 f fd ["_law_script"] (spF K (["_law_script"]:List Str).length _root_.K.Xr):=by
  have d_law_meets:=d_law_meets.mono (show 44≤44 by first | decide | omega)
  have d_law_pick:=d_law_pick.mono (show 1≤44 by first | decide | omega)
  have d_law_program:=d_law_program.mono (show 6≤44 by first | decide | omega)
  have d_can:=d_can.mono (show 43≤44 by first | decide | omega)
  have d_first_stand:=d_first_stand.mono (show 1≤44 by first | decide | omega)
  refine pq (N:=["_law_script","_law_program_here","_law_stands","_law_cell","_law_stream","_law_places","_law_values","_law_stand","_law_here","_law_one"]) F a5q (by decide)  fun cdv A outer s H E B hr=>?_
  have hu:=Bb hr
  have hq:=hr.units
  have nd:(["_law_script","_law_program_here","_law_stands","_law_cell","_law_stream","_law_places","_law_values","_law_stand","_law_here","_law_one"]:List Str).Nodup:=a5q.nd
  refine gn ?_ ?_
  · exact nu 1 (jy nd rfl (Or.inl rfl) (gb d_law_program hr (by rfl) (aj (ao 0 (pv 0)) (aj dj dz)) (bf (bf jd)))) (fun _ _ _ h=>h)
  · refine gn ?_ ?_
    · exact G6 2 (jy nd rfl (Or.inl rfl) (Gw (aj (gb d_first_stand hr (by rfl) (aj (ao 1 (pv 1)) dz) (bf jd)) dz) (jq (dh je) (by decide)))) (fun _ _ _ h=>h)
    · refine gn ?_ ?_
      · refine Er ?_ ?_ ?_ ?_ ?_ ?_
        · exact PassesOwn.never
        · exact rfl
        · exact zf (Vd (ao 0 (pv 0)) (Nz dj) (Nz dj))
        · exact ux 3 (jl nd rfl (Or.inl rfl))
        · refine gn ?_ ?_
          · exact nu 4 (jy nd rfl (Or.inr rfl) (Le (aj (ao 3 (pv 3)) (aj dj dz)) (jq (dh (dh je)) (by decide)))) (fun _ _ _ h=>h)
          · refine gn ?_ ?_
            · refine nu (te:=tOf _ _ _) _ ?_ (fun _ _ _ h=>h)
              · refine jy ?_ ?_ ?_ ?_
                · exact nd
                · exact rfl
                · exact Or.inl rfl
                · refine vg ?_
                  · refine Av zq ?_ ?_ PyProof.Rows.boot_tuple ?_
                    · exact by rfl
                    · exact b_tuple
                    · refine aj ?_ ?_
                      · exact uh (Ah (N:=["_law_one","_law_stream"]) ⟨rfl,fun j k h=>match j,h with | 0,h=>(by cases h; exact ⟨_,rfl,rfl,⟨.inl rfl,.inr (.inl rfl),.inl rfl⟩⟩) | _+1,h=>(by cases h)⟩ ⟨rfl,rfl,by decide +kernel,by decide +kernel⟩ rfl (zf (m9 hu (ao 1 (pv 1)) dj (fun _ _=>rfl))) yw (fun C s₀ H₀ ex pn=>pgE fun B=>(ux 0 (jl (show (["_law_one","_law_stream"]:List Str).Nodup by decide +kernel) rfl (Or.inl rfl)))) (fun C s₀ H₀ ex pn=>vf) (fun C s₀ H₀ ex pn=>peE fun B=>(gb d_law_pick hr (by rfl) (aj (ao 1 (pv 1)) (aj (m9 hu (ao 0 (pv 0)) dj (fun _ _=>rfl)) dz)) (bf (bf jd)))))
                      · exact dz
            · refine gn ?_ ?_
              · refine nu (te:=tOf _ _ _) _ ?_ (fun _ _ _ h=>h)
                · refine jy ?_ ?_ ?_ ?_
                  · exact nd
                  · exact rfl
                  · exact Or.inl rfl
                  · refine vg ?_
                    · refine Av zq ?_ ?_ PyProof.Rows.boot_tuple ?_
                      · exact by rfl
                      · exact b_tuple
                      · refine aj ?_ ?_
                        · refine uh ?_
                          · refine Ah (N:=["_law_box","_law_stream"]) ?_ ?_ ?_ ?_ ?_ ?_ ?_ ?_
                            · exact ⟨rfl,fun j k h=>match j,h with | 0,h=>(by cases h; exact ⟨_,rfl,rfl,⟨.inl rfl,.inr (.inl rfl),.inl rfl⟩⟩) | _+1,h=>(by cases h)⟩
                            · exact ⟨rfl,rfl,by decide +kernel,by decide +kernel⟩
                            · exact rfl
                            · exact zf (m9 hu (ao 1 (pv 1)) dj (fun _ _=>rfl))
                            · exact yw
                            · exact fun C s₀ H₀ ex pn=>pgE fun B=>(ux 0 (jl (show (["_law_box","_law_stream"]:List Str).Nodup by decide +kernel) rfl (Or.inl rfl)))
                            · exact fun C s₀ H₀ ex pn=>vf
                            · exact fun C s₀ H₀ ex pn=>peE fun B=>(oh vm (m9 hu (ao 0 (pv 0)) dj (fun _ _=>rfl)) (gb d_law_pick hr (by rfl) (aj (ao 1 (pv 1)) (aj (oh vm (oh Br (m9 hu (ao 0 (pv 0)) dj (fun _ _=>rfl)) (m9 hu (ao 0 (pv 0)) dj (fun _ _=>rfl))) dj) dz)) (bf (bf jd))))
                        · exact dz
              · exact jf (Bs 2 (Cv (Jf PySem.F.plainAttrs_list PySem.F.slot_list_append PySem.F.type_list_append Aq (pv 2) (vp (qd (aj (ao 5 (pv 5)) (aj (ao 6 (pv 6)) dz)) (jq (dh (dh je)) (by decide))) Bd))))
        · exact yw
      · refine gn ?_ ?_
        · exact Er PassesOwn.never rfl (zf (ao 2 (pv 2))) (ux 7 (jl nd rfl (Or.inl rfl)))   (gn (nu 8 (jy nd rfl (Or.inl rfl) (gb d_can hr (by rfl) (aj (ao 1 (pv 1)) (aj (ao 7 (pv 7)) dz)) (bf (bf jd)))) (fun _ _ _ h=>h))   (jf (Er PassesOwn.never rfl (zf (ao 8 (pv 8))) (ux 9 (jl nd rfl (Or.inl rfl)))   (jf (Ag (a9o (a0l (gb d_law_meets hr (by rfl) (aj (ao 1 (pv 1)) (aj (ao 7 (pv 7)) (aj (ao 8 (pv 8)) (aj (ao 9 (pv 9)) dz)))) (bf (bf (bf (bf jd)))))))   (jf (jz Mu))   tu)) yw))) yw
        · exact jf (jz Mu)
end
end D
end
noncomputable section
set_option linter.all false
set_option maxRecDepth 100000
set_option maxHeartbeats 1000000
namespace D
open PySem L2 C
theorem aa6 {l:PySem.W.OpenLaw} {w:World} {K:PySem.W.Frag} {h:Heap} {mg:Str→Option Value} {fa f1 f2 f3 f4 f5 f6 f7 f8 f9 f10 f11 f12 f13 f14 f15 f16 f17 f18 f19 f20 f21 f22 f23 f24 f25 f26 f27 f28 f29 f30 f31 f32 f33:Addr} (X:K.In h) (G:h.Ns mainGlobals mg) (hfa:mg "law" = some (.ref fa))
    {od1 an1 od2 an2 od3 an3 od4 an4 od5 an5 od6 an6 od7 an7 od8 an8 od9 an9 od10 an10 od11 an11 od12 an12 od13 an13 od14 an14 od15 an15 od16 an16 od17 an17 od18 an18 od19 an19 od20 an20 od21 an21 od22 an22 od23 an23 od24 an24 od25 an25 od26 an26 od27 an27 od28 an28 od29 an29 od30 an30 od31 an31 od32 an32 od33 an33:Option Addr} {sl1 sl2 sl3 sl4 sl5 sl6 sl7 sl8 sl9 sl10 sl11 sl12 sl13 sl14 sl15 sl16 sl17 sl18 sl19 sl20 sl21 sl22 sl23 sl24 sl25 sl26 sl27 sl28 sl29 sl30 sl31 sl32 sl33:Array (Option Value)} {oc1 kV1 dc1 pm1 cd1 ct1 oc2 kV2 dc2 pm2 cd2 ct2 oc3 kV3 dc3 pm3 cd3 ct3 oc4 kV4 dc4 pm4 cd4 ct4 oc5 kV5 dc5 pm5 cd5 ct5 oc6 kV6 dc6 pm6 cd6 ct6 oc7 kV7 dc7 pm7 cd7 ct7 oc8 kV8 dc8 pm8 cd8 ct8 oc9 kV9 dc9 pm9 cd9 ct9 oc10 kV10 dc10 pm10 cd10 ct10 oc11 kV11 dc11 pm11 cd11 ct11 oc12 kV12 dc12 pm12 cd12 ct12 oc13 kV13 dc13 pm13 cd13 ct13 oc14 kV14 dc14 pm14 cd14 ct14 oc15 kV15 dc15 pm15 cd15 ct15 oc16 kV16 dc16 pm16 cd16 ct16 oc17 kV17 dc17 pm17 cd17 ct17 oc18 kV18 dc18 pm18 cd18 ct18 oc19 kV19 dc19 pm19 cd19 ct19 oc20 kV20 dc20 pm20 cd20 ct20 oc21 kV21 dc21 pm21 cd21 ct21 oc22 kV22 dc22 pm22 cd22 ct22 oc23 kV23 dc23 pm23 cd23 ct23 oc24 kV24 dc24 pm24 cd24 ct24 oc25 kV25 dc25 pm25 cd25 ct25 oc26 kV26 dc26 pm26 cd26 ct26 oc27 kV27 dc27 pm27 cd27 ct27 oc28 kV28 dc28 pm28 cd28 ct28 oc29 kV29 dc29 pm29 cd29 ct29 oc30 kV30 dc30 pm30 cd30 ct30 oc31 kV31 dc31 pm31 cd31 ct31 oc32 kV32 dc32 pm32 cd32 ct32 oc33 kV33 dc33 pm33 cd33 ct33:Value}
    (a1:PySem.W.nsIn K mainGlobals "value" = some (some (.ref f1))) (l1:K.lookup f1=some ⟨oc1,od1,.func (PySem.W.fnOf "value" "value" (m5 Hf) (jx Hf) (gk Hf) .none kV1 dc1 pm1 an1 cd1 ct1),sl1⟩) (c1:PySem.W.codeIn K cd1 "value" = true) (k1:PySem.W.keepIn K (.ref f1)=true)
    (a2:PySem.W.nsIn K mainGlobals "boxes_of" = some (some (.ref f2))) (l2:K.lookup f2=some ⟨oc2,od2,.func (PySem.W.fnOf "boxes_of" "boxes_of" (m5 Cm) (jx Cm) (gk Cm) .none kV2 dc2 pm2 an2 cd2 ct2),sl2⟩) (c2:PySem.W.codeIn K cd2 "boxes_of" = true) (k2:PySem.W.keepIn K (.ref f2)=true)
    (a3:PySem.W.nsIn K mainGlobals "holds" = some (some (.ref f3))) (l3:K.lookup f3=some ⟨oc3,od3,.func (PySem.W.fnOf "holds" "holds" (m5 Ft) (jx Ft) (gk Ft) .none kV3 dc3 pm3 an3 cd3 ct3),sl3⟩) (c3:PySem.W.codeIn K cd3 "holds" = true) (k3:PySem.W.keepIn K (.ref f3)=true)
    (a4:PySem.W.nsIn K mainGlobals "any_is" = some (some (.ref f4))) (l4:K.lookup f4=some ⟨oc4,od4,.func (PySem.W.fnOf "any_is" "any_is" (m5 Dw) (jx Dw) (gk Dw) .none kV4 dc4 pm4 an4 cd4 ct4),sl4⟩) (c4:PySem.W.codeIn K cd4 "any_is" = true) (k4:PySem.W.keepIn K (.ref f4)=true)
    (a5:PySem.W.nsIn K mainGlobals "members_of" = some (some (.ref f5))) (l5:K.lookup f5=some ⟨oc5,od5,.func (PySem.W.fnOf "members_of" "members_of" (m5 Ak) (jx Ak) (gk Ak) .none kV5 dc5 pm5 an5 cd5 ct5),sl5⟩) (c5:PySem.W.codeIn K cd5 "members_of" = true) (k5:PySem.W.keepIn K (.ref f5)=true)
    (a6:PySem.W.nsIn K mainGlobals "parts_of" = some (some (.ref f6))) (l6:K.lookup f6=some ⟨oc6,od6,.func (PySem.W.fnOf "parts_of" "parts_of" (m5 Cp) (jx Cp) (gk Cp) .none kV6 dc6 pm6 an6 cd6 ct6),sl6⟩) (c6:PySem.W.codeIn K cd6 "parts_of" = true) (k6:PySem.W.keepIn K (.ref f6)=true)
    (a7:PySem.W.nsIn K mainGlobals "boxes_from_left" = some (some (.ref f7))) (l7:K.lookup f7=some ⟨oc7,od7,.func (PySem.W.fnOf "boxes_from_left" "boxes_from_left" (m5 qz) (jx qz) (gk qz) .none kV7 dc7 pm7 an7 cd7 ct7),sl7⟩) (c7:PySem.W.codeIn K cd7 "boxes_from_left" = true) (k7:PySem.W.keepIn K (.ref f7)=true)
    (a8:PySem.W.nsIn K mainGlobals "ats_from_left" = some (some (.ref f8))) (l8:K.lookup f8=some ⟨oc8,od8,.func (PySem.W.fnOf "ats_from_left" "ats_from_left" (m5 uz) (jx uz) (gk uz) .none kV8 dc8 pm8 an8 cd8 ct8),sl8⟩) (c8:PySem.W.codeIn K cd8 "ats_from_left" = true) (k8:PySem.W.keepIn K (.ref f8)=true)
    (a9:PySem.W.nsIn K mainGlobals "boxes_in" = some (some (.ref f9))) (l9:K.lookup f9=some ⟨oc9,od9,.func (PySem.W.fnOf "boxes_in" "boxes_in" (m5 Cq) (jx Cq) (gk Cq) .none kV9 dc9 pm9 an9 cd9 ct9),sl9⟩) (c9:PySem.W.codeIn K cd9 "boxes_in" = true) (k9:PySem.W.keepIn K (.ref f9)=true)
    (a10:PySem.W.nsIn K mainGlobals "hands_in" = some (some (.ref f10))) (l10:K.lookup f10=some ⟨oc10,od10,.func (PySem.W.fnOf "hands_in" "hands_in" (m5 Cw) (jx Cw) (gk Cw) .none kV10 dc10 pm10 an10 cd10 ct10),sl10⟩) (c10:PySem.W.codeIn K cd10 "hands_in" = true) (k10:PySem.W.keepIn K (.ref f10)=true)
    (a11:PySem.W.nsIn K mainGlobals "meets" = some (some (.ref f11))) (l11:K.lookup f11=some ⟨oc11,od11,.func (PySem.W.fnOf "meets" "meets" (m5 Gy) (jx Gy) (gk Gy) .none kV11 dc11 pm11 an11 cd11 ct11),sl11⟩) (c11:PySem.W.codeIn K cd11 "meets" = true) (k11:PySem.W.keepIn K (.ref f11)=true)
    (a12:PySem.W.nsIn K mainGlobals "changed_by" = some (some (.ref f12))) (l12:K.lookup f12=some ⟨oc12,od12,.func (PySem.W.fnOf "changed_by" "changed_by" (m5 Ai) (jx Ai) (gk Ai) .none kV12 dc12 pm12 an12 cd12 ct12),sl12⟩) (c12:PySem.W.codeIn K cd12 "changed_by" = true) (k12:PySem.W.keepIn K (.ref f12)=true)
    (a13:PySem.W.nsIn K mainGlobals "named_by" = some (some (.ref f13))) (l13:K.lookup f13=some ⟨oc13,od13,.func (PySem.W.fnOf "named_by" "named_by" (m5 Ci) (jx Ci) (gk Ci) .none kV13 dc13 pm13 an13 cd13 ct13),sl13⟩) (c13:PySem.W.codeIn K cd13 "named_by" = true) (k13:PySem.W.keepIn K (.ref f13)=true)
    (a14:PySem.W.nsIn K mainGlobals "parted" = some (some (.ref f14))) (l14:K.lookup f14=some ⟨oc14,od14,.func (PySem.W.fnOf "parted" "parted" (m5 Fe) (jx Fe) (gk Fe) .none kV14 dc14 pm14 an14 cd14 ct14),sl14⟩) (c14:PySem.W.codeIn K cd14 "parted" = true) (k14:PySem.W.keepIn K (.ref f14)=true)
    (a15:PySem.W.nsIn K mainGlobals "first_stand" = some (some (.ref f15))) (l15:K.lookup f15=some ⟨oc15,od15,.func (PySem.W.fnOf "first_stand" "first_stand" (m5 zu) (jx zu) (gk zu) .none kV15 dc15 pm15 an15 cd15 ct15),sl15⟩) (c15:PySem.W.codeIn K cd15 "first_stand" = true) (k15:PySem.W.keepIn K (.ref f15)=true)
    (a16:PySem.W.nsIn K mainGlobals "book_of" = some (some (.ref f16))) (l16:K.lookup f16=some ⟨oc16,od16,.func (PySem.W.fnOf "book_of" "book_of" (m5 Dq) (jx Dq) (gk Dq) .none kV16 dc16 pm16 an16 cd16 ct16),sl16⟩) (c16:PySem.W.codeIn K cd16 "book_of" = true) (k16:PySem.W.keepIn K (.ref f16)=true)
    (a17:PySem.W.nsIn K mainGlobals "places_of" = some (some (.ref f17))) (l17:K.lookup f17=some ⟨oc17,od17,.func (PySem.W.fnOf "places_of" "places_of" (m5 Bm) (jx Bm) (gk Bm) .none kV17 dc17 pm17 an17 cd17 ct17),sl17⟩) (c17:PySem.W.codeIn K cd17 "places_of" = true) (k17:PySem.W.keepIn K (.ref f17)=true)
    (a18:PySem.W.nsIn K mainGlobals "values_behind" = some (some (.ref f18))) (l18:K.lookup f18=some ⟨oc18,od18,.func (PySem.W.fnOf "values_behind" "values_behind" (m5 v7) (jx v7) (gk v7) .none kV18 dc18 pm18 an18 cd18 ct18),sl18⟩) (c18:PySem.W.codeIn K cd18 "values_behind" = true) (k18:PySem.W.keepIn K (.ref f18)=true)
    (a19:PySem.W.nsIn K mainGlobals "places_behind" = some (some (.ref f19))) (l19:K.lookup f19=some ⟨oc19,od19,.func (PySem.W.fnOf "places_behind" "places_behind" (m5 v9) (jx v9) (gk v9) .none kV19 dc19 pm19 an19 cd19 ct19),sl19⟩) (c19:PySem.W.codeIn K cd19 "places_behind" = true) (k19:PySem.W.keepIn K (.ref f19)=true)
    (a20:PySem.W.nsIn K mainGlobals "moves" = some (some (.ref f20))) (l20:K.lookup f20=some ⟨oc20,od20,.func (PySem.W.fnOf "moves" "moves" (m5 Gx) (jx Gx) (gk Gx) .none kV20 dc20 pm20 an20 cd20 ct20),sl20⟩) (c20:PySem.W.codeIn K cd20 "moves" = true) (k20:PySem.W.keepIn K (.ref f20)=true)
    (a21:PySem.W.nsIn K mainGlobals "can" = some (some (.ref f21))) (l21:K.lookup f21=some ⟨oc21,od21,.func (PySem.W.fnOf "can" "can" (m5 Uh) (jx Uh) (gk Uh) .none kV21 dc21 pm21 an21 cd21 ct21),sl21⟩) (c21:PySem.W.codeIn K cd21 "can" = true) (k21:PySem.W.keepIn K (.ref f21)=true)
    (a22:PySem.W.nsIn K mainGlobals "done" = some (some (.ref f22))) (l22:K.lookup f22=some ⟨oc22,od22,.func (PySem.W.fnOf "done" "done" (m5 Ls) (jx Ls) (gk Ls) .none kV22 dc22 pm22 an22 cd22 ct22),sl22⟩) (c22:PySem.W.codeIn K cd22 "done" = true) (k22:PySem.W.keepIn K (.ref f22)=true)
    (a23:PySem.W.nsIn K mainGlobals "_law_cell_at" = some (some (.ref f23))) (l23:K.lookup f23=some ⟨oc23,od23,.func (PySem.W.fnOf "_law_cell_at" "_law_cell_at" (m5 zm) (jx zm) (gk zm) .none kV23 dc23 pm23 an23 cd23 ct23),sl23⟩) (c23:PySem.W.codeIn K cd23 "_law_cell_at" = true) (k23:PySem.W.keepIn K (.ref f23)=true)
    (a24:PySem.W.nsIn K mainGlobals "_law_pick" = some (some (.ref f24))) (l24:K.lookup f24=some ⟨oc24,od24,.func (PySem.W.fnOf "_law_pick" "_law_pick" (m5 Cz) (jx Cz) (gk Cz) .none kV24 dc24 pm24 an24 cd24 ct24),sl24⟩) (c24:PySem.W.codeIn K cd24 "_law_pick" = true) (k24:PySem.W.keepIn K (.ref f24)=true)
    (a25:PySem.W.nsIn K mainGlobals "_law_name" = some (some (.ref f25))) (l25:K.lookup f25=some ⟨oc25,od25,.func (PySem.W.fnOf "_law_name" "_law_name" (m5 Cu) (jx Cu) (gk Cu) .none kV25 dc25 pm25 an25 cd25 ct25),sl25⟩) (c25:PySem.W.codeIn K cd25 "_law_name" = true) (k25:PySem.W.keepIn K (.ref f25)=true)
    (a26:PySem.W.nsIn K mainGlobals "_law_sum" = some (some (.ref f26))) (l26:K.lookup f26=some ⟨oc26,od26,.func (PySem.W.fnOf "_law_sum" "_law_sum" (m5 Dt) (jx Dt) (gk Dt) .none kV26 dc26 pm26 an26 cd26 ct26),sl26⟩) (c26:PySem.W.codeIn K cd26 "_law_sum" = true) (k26:PySem.W.keepIn K (.ref f26)=true)
    (a27:PySem.W.nsIn K mainGlobals "_law_simple" = some (some (.ref f27))) (l27:K.lookup f27=some ⟨oc27,od27,.func (PySem.W.fnOf "_law_simple" "_law_simple" (m5 Am) (jx Am) (gk Am) .none kV27 dc27 pm27 an27 cd27 ct27),sl27⟩) (c27:PySem.W.codeIn K cd27 "_law_simple" = true) (k27:PySem.W.keepIn K (.ref f27)=true)
    (a28:PySem.W.nsIn K mainGlobals "_law_remark" = some (some (.ref f28))) (l28:K.lookup f28=some ⟨oc28,od28,.func (PySem.W.fnOf "_law_remark" "_law_remark" (m5 Al) (jx Al) (gk Al) .none kV28 dc28 pm28 an28 cd28 ct28),sl28⟩) (c28:PySem.W.codeIn K cd28 "_law_remark" = true) (k28:PySem.W.keepIn K (.ref f28)=true)
    (a29:PySem.W.nsIn K mainGlobals "_law_boxes" = some (some (.ref f29))) (l29:K.lookup f29=some ⟨oc29,od29,.func (PySem.W.fnOf "_law_boxes" "_law_boxes" (m5 Bh) (jx Bh) (gk Bh) .none kV29 dc29 pm29 an29 cd29 ct29),sl29⟩) (c29:PySem.W.codeIn K cd29 "_law_boxes" = true) (k29:PySem.W.keepIn K (.ref f29)=true)
    (a30:PySem.W.nsIn K mainGlobals "_law_step" = some (some (.ref f30))) (l30:K.lookup f30=some ⟨oc30,od30,.func (PySem.W.fnOf "_law_step" "_law_step" (m5 Cg) (jx Cg) (gk Cg) .none kV30 dc30 pm30 an30 cd30 ct30),sl30⟩) (c30:PySem.W.codeIn K cd30 "_law_step" = true) (k30:PySem.W.keepIn K (.ref f30)=true)
    (a31:PySem.W.nsIn K mainGlobals "_law_program" = some (some (.ref f31))) (l31:K.lookup f31=some ⟨oc31,od31,.func (PySem.W.fnOf "_law_program" "_law_program" (m5 zp) (jx zp) (gk zp) .none kV31 dc31 pm31 an31 cd31 ct31),sl31⟩) (c31:PySem.W.codeIn K cd31 "_law_program" = true) (k31:PySem.W.keepIn K (.ref f31)=true)
    (a32:PySem.W.nsIn K mainGlobals "_law_meets" = some (some (.ref f32))) (l32:K.lookup f32=some ⟨oc32,od32,.func (PySem.W.fnOf "_law_meets" "_law_meets" (m5 Bl) (jx Bl) (gk Bl) .none kV32 dc32 pm32 an32 cd32 ct32),sl32⟩) (c32:PySem.W.codeIn K cd32 "_law_meets" = true) (k32:PySem.W.keepIn K (.ref f32)=true)
    (a33:PySem.W.nsIn K mainGlobals "law" = some (some (.ref f33))) (l33:K.lookup f33=some ⟨oc33,od33,.func (PySem.W.fnOf "law" "law" (m5 O1) (jx O1) (gk O1) .none kV33 dc33 pm33 an33 cd33 ct33),sl33⟩) (c33:PySem.W.codeIn K cd33 "law" = true) (k33:PySem.W.keepIn K (.ref f33)=true)
    (z_any:PySem.W.nsIn K mainGlobals "any" = some none)
    (z_dict:PySem.W.nsIn K mainGlobals "dict" = some none)
    (z_enumerate:PySem.W.nsIn K mainGlobals "enumerate" = some none)
    (z_len:PySem.W.nsIn K mainGlobals "len" = some none)
    (z_range:PySem.W.nsIn K mainGlobals "range" = some none)
    (z_set:PySem.W.nsIn K mainGlobals "set" = some none)
    (z_sorted:PySem.W.nsIn K mainGlobals "sorted" = some none)
    (z_sum:PySem.W.nsIn K mainGlobals "sum" = some none)
    (z_tuple:PySem.W.nsIn K mainGlobals "tuple" = some none)
    (z_zip:PySem.W.nsIn K mainGlobals "zip" = some none)
    : ∃ fd:FuncData,(∀ (s:Shared) (v:Value),BindsTo s fd ⟨[v],[]⟩ [("_law_script",v)])∧∀ base:Heap,K.In base→base.Ns mainGlobals mg→Dh l.prog w K mg base CX0 45 fa fd ["_law_script"] (spF K 1 _root_.K.Xr):=by
  have e:=hfa.symm.trans (PySem.W.mg_of X G a33)
  cases e
  have F1:=uw (st:=Hf) l1 c1 k1
  have F2:=uw (st:=Cm) l2 c2 k2
  have F3:=uw (st:=Ft) l3 c3 k3
  have F4:=uw (st:=Dw) l4 c4 k4
  have F5:=uw (st:=Ak) l5 c5 k5
  have F6:=uw (st:=Cp) l6 c6 k6
  have F7:=uw (st:=qz) l7 c7 k7
  have F8:=uw (st:=uz) l8 c8 k8
  have F9:=uw (st:=Cq) l9 c9 k9
  have F10:=uw (st:=Cw) l10 c10 k10
  have F11:=uw (st:=Gy) l11 c11 k11
  have F12:=uw (st:=Ai) l12 c12 k12
  have F13:=uw (st:=Ci) l13 c13 k13
  have F14:=uw (st:=Fe) l14 c14 k14
  have F15:=uw (st:=zu) l15 c15 k15
  have F16:=uw (st:=Dq) l16 c16 k16
  have F17:=uw (st:=Bm) l17 c17 k17
  have F18:=uw (st:=v7) l18 c18 k18
  have F19:=uw (st:=v9) l19 c19 k19
  have F20:=uw (st:=Gx) l20 c20 k20
  have F21:=uw (st:=Uh) l21 c21 k21
  have F22:=uw (st:=Ls) l22 c22 k22
  have F23:=uw (st:=zm) l23 c23 k23
  have F24:=uw (st:=Cz) l24 c24 k24
  have F25:=uw (st:=Cu) l25 c25 k25
  have F26:=uw (st:=Dt) l26 c26 k26
  have F27:=uw (st:=Am) l27 c27 k27
  have F28:=uw (st:=Al) l28 c28 k28
  have F29:=uw (st:=Bh) l29 c29 k29
  have F30:=uw (st:=Cg) l30 c30 k30
  have F31:=uw (st:=zp) l31 c31 k31
  have F32:=uw (st:=Bl) l32 c32 k32
  have F33:=uw (st:=O1) l33 c33 k33
  have b_any:=PySem.W.mg_none_of X G z_any
  have b_dict:=PySem.W.mg_none_of X G z_dict
  have b_enumerate:=PySem.W.mg_none_of X G z_enumerate
  have b_len:=PySem.W.mg_none_of X G z_len
  have b_range:=PySem.W.mg_none_of X G z_range
  have b_set:=PySem.W.mg_none_of X G z_set
  have b_sorted:=PySem.W.mg_none_of X G z_sorted
  have b_sum:=PySem.W.mg_none_of X G z_sum
  have b_tuple:=PySem.W.mg_none_of X G z_tuple
  have b_zip:=PySem.W.mg_none_of X G z_zip
  refine ⟨PySem.W.fnOf "law" "law" (m5 O1) (jx O1) (gk O1) .none kV33 dc33 pm33 an33 cd33 ct33,fun s v=>.of_eq rfl,fun base _ _=>?_⟩
  have d_value:=a2e (P:=l.prog) (w:=w) (base:=base) F1 (PySem.W.mg_of X G a1) b_sum
  have d_boxes_of:=Ud (P:=l.prog) (w:=w) (base:=base) F2 (PySem.W.mg_of X G a2)
  have g_holds:=Q9 (P:=l.prog) (w:=w) (base:=base) F3 (PySem.W.mg_of X G a3) F4 (PySem.W.mg_of X G a4) d_value 40
  have d_holds:=g_holds.1
  have d_any_is:=g_holds.2
  have d_members_of:=Om (P:=l.prog) (w:=w) (base:=base) F5 (PySem.W.mg_of X G a5)
  have d_parts_of:=U9 (P:=l.prog) (w:=w) (base:=base) F6 (PySem.W.mg_of X G a6) d_members_of b_len
  have d_boxes_from_left:=J3 (P:=l.prog) (w:=w) (base:=base) F7 (PySem.W.mg_of X G a7) d_boxes_of d_parts_of
  have d_ats_from_left:=Ju (P:=l.prog) (w:=w) (base:=base) F8 (PySem.W.mg_of X G a8) d_parts_of
  have d_boxes_in:=U0 (P:=l.prog) (w:=w) (base:=base) F9 (PySem.W.mg_of X G a9) d_boxes_from_left b_set b_sorted
  have d_hands_in:=Tw (P:=l.prog) (w:=w) (base:=base) F10 (PySem.W.mg_of X G a10) d_ats_from_left b_set b_sorted
  have d_meets:=a2v (P:=l.prog) (w:=w) (base:=base) F11 (PySem.W.mg_of X G a11) b_any
  have d_changed_by:=Pa (P:=l.prog) (w:=w) (base:=base) F12 (PySem.W.mg_of X G a12)
  have d_named_by:=Tv (P:=l.prog) (w:=w) (base:=base) F13 (PySem.W.mg_of X G a13) d_boxes_in d_boxes_of d_changed_by d_hands_in
  have d_parted:=a0g (P:=l.prog) (w:=w) (base:=base) F14 (PySem.W.mg_of X G a14) d_changed_by d_meets d_named_by
  have d_first_stand:=Mi (P:=l.prog) (w:=w) (base:=base) F15 (PySem.W.mg_of X G a15) b_tuple
  have d_book_of:=Xu (P:=l.prog) (w:=w) (base:=base) F16 (PySem.W.mg_of X G a16) b_dict b_zip
  have d_places_of:=Qs (P:=l.prog) (w:=w) (base:=base) F17 (PySem.W.mg_of X G a17) b_dict b_zip
  have d_values_behind:=K3 (P:=l.prog) (w:=w) (base:=base) F18 (PySem.W.mg_of X G a18) d_value b_dict b_tuple
  have d_places_behind:=Jy (P:=l.prog) (w:=w) (base:=base) F19 (PySem.W.mg_of X G a19) b_tuple
  have d_moves:=a4r (P:=l.prog) (w:=w) (base:=base) F20 (PySem.W.mg_of X G a20) d_book_of d_holds d_places_behind d_places_of d_values_behind b_enumerate
  have d_can:=a8h (P:=l.prog) (w:=w) (base:=base) F21 (PySem.W.mg_of X G a21) d_moves
  have d_done:=a7d (P:=l.prog) (w:=w) (base:=base) F22 (PySem.W.mg_of X G a22) d_book_of d_places_behind d_places_of d_values_behind
  have d_law_cell_at:=Mx (P:=l.prog) (w:=w) (base:=base) F23 (PySem.W.mg_of X G a23) b_len
  have d_law_pick:=Ss (P:=l.prog) (w:=w) (base:=base) F24 (PySem.W.mg_of X G a24) b_len
  have d_law_name:=Sd (P:=l.prog) (w:=w) (base:=base) F25 (PySem.W.mg_of X G a25)
  have d_law_sum:=Wx (P:=l.prog) (w:=w) (base:=base) F26 (PySem.W.mg_of X G a26) d_law_pick b_sorted b_tuple
  have d_law_simple:=O2 (P:=l.prog) (w:=w) (base:=base) F27 (PySem.W.mg_of X G a27) d_law_pick d_law_sum b_len
  have d_law_remark:=Oe (P:=l.prog) (w:=w) (base:=base) F28 (PySem.W.mg_of X G a28) d_law_pick d_law_simple b_range b_tuple
  have d_law_boxes:=Qm (P:=l.prog) (w:=w) (base:=base) F29 (PySem.W.mg_of X G a29) d_law_name d_law_pick b_range
  have d_law_step:=Rz (P:=l.prog) (w:=w) (base:=base) F30 (PySem.W.mg_of X G a30) d_law_pick d_law_remark d_law_sum b_len b_sorted b_tuple
  have d_law_program:=Ms (P:=l.prog) (w:=w) (base:=base) F31 (PySem.W.mg_of X G a31) d_law_boxes d_law_cell_at d_law_name d_law_pick d_law_step b_range
  have d_law_meets:=Ql (P:=l.prog) (w:=w) (base:=base) F32 (PySem.W.mg_of X G a32) d_can d_done d_parted b_len b_range
  exact a8v F33 d_law_meets d_law_pick d_law_program d_can d_first_stand b_tuple
theorem aa5 {l:PySem.W.OpenLaw} {q:Program} {loose:List Str} {XP:(Str→Option Value)→Heap→Prop} {YP:World→Heap→Prop} {d:DefRec} {K:Params→PySem.W.Frag} (hn:l.most=some 63) (hdf:d.params.defaults=[])
    (hY:∀ (w:World) (h:Heap),YP w h→(K w.params).In h)
    (F:∀ (w:World) (mg:Str→Option Value) (fa:Addr) (h:Heap),(K w.params).In h→h.Ns mainGlobals mg→mg d.name=some (.ref fa) →
      ∃ fd:FuncData,(∀ (s:Shared) (u:Value),BindsTo s fd ⟨[u],[]⟩ [("_law_script",u)])∧∀ base:Heap,(K w.params).In base→base.Ns mainGlobals mg→Dh l.prog w (K w.params) mg base CX0 45 fa fd ["_law_script"] (spF (K w.params) 1 _root_.K.Xr)) :
    PySem.W.WalkO q loose XP YP l.row.toRowW d [] (fun f vs=>PySem.call f vs) :=
  L2.a7m (n:=63) (k:=45) (x := "_law_script") (CX:=fun _=>CX0) (sp:=fun w=>spF (K w.params) 1 _root_.K.Xr) hn (by decide) hdf ⟨rfl,by decide,by decide⟩ hY F (fun w H a ns hl _ hS=>a7l hS (_root_.K.a4g (cs:=ns) hl)) fun _ _ _ _ _ z=>z
end D
open PySem PySem.W PyProof.Rows
set_option maxRecDepth 100000 in
set_option maxHeartbeats 0 in
theorem PySem.Challenge.cw_calm_k31_whole_either_order_holds : PySem.Challenge.rw_calm_k31_whole_either_order.Holds := by
  w_on; o_law; k_head; (case hw=>w_witness2)
  k_fill
  refine D.aa5 (l:=PySem.Challenge.rw_calm_k31_whole_either_order) rfl rfl (fun w h Y=>PySem.W.kIn_of Y) ?F
  case F =>
    intro w mg fa h KX G hmg
    refine' D.aa6 KX G hmg ?a1 ?l1 ?c1 ?k1 ?a2 ?l2 ?c2 ?k2 ?a3 ?l3 ?c3 ?k3 ?a4 ?l4 ?c4 ?k4 ?a5 ?l5 ?c5 ?k5 ?a6 ?l6 ?c6 ?k6 ?a7 ?l7 ?c7 ?k7 ?a8 ?l8 ?c8 ?k8 ?a9 ?l9 ?c9 ?k9 ?a10 ?l10 ?c10 ?k10 ?a11 ?l11 ?c11 ?k11 ?a12 ?l12 ?c12 ?k12 ?a13 ?l13 ?c13 ?k13 ?a14 ?l14 ?c14 ?k14 ?a15 ?l15 ?c15 ?k15 ?a16 ?l16 ?c16 ?k16 ?a17 ?l17 ?c17 ?k17 ?a18 ?l18 ?c18 ?k18 ?a19 ?l19 ?c19 ?k19 ?a20 ?l20 ?c20 ?k20 ?a21 ?l21 ?c21 ?k21 ?a22 ?l22 ?c22 ?k22 ?a23 ?l23 ?c23 ?k23 ?a24 ?l24 ?c24 ?k24 ?a25 ?l25 ?c25 ?k25 ?a26 ?l26 ?c26 ?k26 ?a27 ?l27 ?c27 ?k27 ?a28 ?l28 ?c28 ?k28 ?a29 ?l29 ?c29 ?k29 ?a30 ?l30 ?c30 ?k30 ?a31 ?l31 ?c31 ?k31 ?a32 ?l32 ?c32 ?k32 ?a33 ?l33 ?c33 ?k33 ?z_any ?z_dict ?z_enumerate ?z_len ?z_range ?z_set ?z_sorted ?z_sum ?z_tuple ?z_zip
    (case a1=>k_is)
    (case l1=>k_is)
    (case c1=>k_is)
    (case k1=>k_is)
    (case a2=>k_is)
    (case l2=>k_is)
    (case c2=>k_is)
    (case k2=>k_is)
    (case a3=>k_is)
    (case l3=>k_is)
    (case c3=>k_is)
    (case k3=>k_is)
    (case a4=>k_is)
    (case l4=>k_is)
    (case c4=>k_is)
    (case k4=>k_is)
    (case a5=>k_is)
    (case l5=>k_is)
    (case c5=>k_is)
    (case k5=>k_is)
    (case a6=>k_is)
    (case l6=>k_is)
    (case c6=>k_is)
    (case k6=>k_is)
    (case a7=>k_is)
    (case l7=>k_is)
    (case c7=>k_is)
    (case k7=>k_is)
    (case a8=>k_is)
    (case l8=>k_is)
    (case c8=>k_is)
    (case k8=>k_is)
    (case a9=>k_is)
    (case l9=>k_is)
    (case c9=>k_is)
    (case k9=>k_is)
    (case a10=>k_is)
    (case l10=>k_is)
    (case c10=>k_is)
    (case k10=>k_is)
    (case a11=>k_is)
    (case l11=>k_is)
    (case c11=>k_is)
    (case k11=>k_is)
    (case a12=>k_is)
    (case l12=>k_is)
    (case c12=>k_is)
    (case k12=>k_is)
    (case a13=>k_is)
    (case l13=>k_is)
    (case c13=>k_is)
    (case k13=>k_is)
    (case a14=>k_is)
    (case l14=>k_is)
    (case c14=>k_is)
    (case k14=>k_is)
    (case a15=>k_is)
    (case l15=>k_is)
    (case c15=>k_is)
    (case k15=>k_is)
    (case a16=>k_is)
    (case l16=>k_is)
    (case c16=>k_is)
    (case k16=>k_is)
    (case a17=>k_is)
    (case l17=>k_is)
    (case c17=>k_is)
    (case k17=>k_is)
    (case a18=>k_is)
    (case l18=>k_is)
    (case c18=>k_is)
    (case k18=>k_is)
    (case a19=>k_is)
    (case l19=>k_is)
    (case c19=>k_is)
    (case k19=>k_is)
    (case a20=>k_is)
    (case l20=>k_is)
    (case c20=>k_is)
    (case k20=>k_is)
    (case a21=>k_is)
    (case l21=>k_is)
    (case c21=>k_is)
    (case k21=>k_is)
    (case a22=>k_is)
    (case l22=>k_is)
    (case c22=>k_is)
    (case k22=>k_is)
    (case a23=>k_is)
    (case l23=>k_is)
    (case c23=>k_is)
    (case k23=>k_is)
    (case a24=>k_is)
    (case l24=>k_is)
    (case c24=>k_is)
    (case k24=>k_is)
    (case a25=>k_is)
    (case l25=>k_is)
    (case c25=>k_is)
    (case k25=>k_is)
    (case a26=>k_is)
    (case l26=>k_is)
    (case c26=>k_is)
    (case k26=>k_is)
    (case a27=>k_is)
    (case l27=>k_is)
    (case c27=>k_is)
    (case k27=>k_is)
    (case a28=>k_is)
    (case l28=>k_is)
    (case c28=>k_is)
    (case k28=>k_is)
    (case a29=>k_is)
    (case l29=>k_is)
    (case c29=>k_is)
    (case k29=>k_is)
    (case a30=>k_is)
    (case l30=>k_is)
    (case c30=>k_is)
    (case k30=>k_is)
    (case a31=>k_is)
    (case l31=>k_is)
    (case c31=>k_is)
    (case k31=>k_is)
    (case a32=>k_is)
    (case l32=>k_is)
    (case c32=>k_is)
    (case k32=>k_is)
    (case a33=>k_is)
    (case l33=>k_is)
    (case c33=>k_is)
    (case k33=>k_is)
    (case z_any=>k_is)
    (case z_dict=>k_is)
    (case z_enumerate=>k_is)
    (case z_len=>k_is)
    (case z_range=>k_is)
    (case z_set=>k_is)
    (case z_sorted=>k_is)
    (case z_sum=>k_is)
    (case z_tuple=>k_is)
    (case z_zip=>k_is)
#print axioms PySem.Challenge.cw_calm_k31_whole_either_order_holds
end
