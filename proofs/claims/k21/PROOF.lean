import PyProof.Rows.All
import Wide.All
import OpenK.AllK
import Wide.FinOn
import Lean
import PyProof.EqAt
import PyProof.EqKinds
import PyProof.TupleCall
import PyProof.P3Statements
import PyProof.Lay0
import PyProof.P3Eq
import PyProof.NeData
import KE.KEqDict
import PyProof.ListRange
import KE.KDictSum
import PyProof.AttrMissHeap
import PyProof.WalksS
import KE.KDictOf
import KE.KRevSl
import PyProof.ZipIter
import PyProof.WalksMore
import PyProof.Rows.FactsT2
import PyProof.Rows.SetFrom
import PyProof.Rows.SortStr
import KE.KDictList
import PyProof.FactsAll.set
import PyProof.CollectWalk
import PyProof.DictWalks
import PyProof.DictItems
import PyProof.EnumMake
import PyProof.Rows.EnumRows
import PySem.Challenge.RW_calm_k21_weavings
set_option Elab.async false
set_option linter.all false
set_option maxRecDepth 100000
set_option maxHeartbeats 8000000
section
namespace L2
open PySem PySem.Spec PyProof.Rows
abbrev Key:=Sum Int Str
def Qf:Key→Value→Bool
  | .inl k,v=>Value.isInt k v
  | .inr x,v=>Value.isStrOf x v
def adg (w:World):Key→Int
  | .inl k=>hashInt k
  | .inr x=>hashStr w x
theorem m9:∀ {k:Key} {v:Value},Qf k v=true→(∃ i t,k=Sum.inl i∧v=Value.int i t)∨(∃ x t,k=Sum.inr x∧v=Value.str x t)
  | .inl i,v,h=>by
    obtain ⟨t,e⟩:=Value.isInt_shape (k:=i) (v:=v) h
    exact .inl ⟨i,t,rfl,e⟩
  | .inr x,v,h=>by
    obtain ⟨t,e⟩:=Value.isStrOf_shape (x:=x) (v:=v) h
    exact .inr ⟨x,t,rfl,e⟩
theorem Xe (i:Int) (t:Tok):Qf (.inl i) (.int i t)=true:=by simp [Qf,Value.isInt]
theorem Zc (x:Str) (t:Tok):Qf (.inr x) (.str x t)=true:=by simp [Qf,Value.isStrOf]
theorem a9b (a b:Int):decide ((Sum.inl a:Key)=Sum.inl b)=(a==b):=by
  by_cases e:a=b
  · subst e; simp
  · have h:¬ (Sum.inl a:Key)=Sum.inl b:=fun q=>e (Sum.inl.inj q)
    rw [decide_eq_false h]
    exact (beq_eq_false_iff_ne.mpr e).symm
theorem a9h (a b:Str):decide ((Sum.inr a:Key)=Sum.inr b)=decide (a=b):=by
  by_cases e:a=b
  · subst e; simp
  · have h:¬ (Sum.inr a:Key)=Sum.inr b:=fun q=>e (Sum.inr.inj q)
    rw [decide_eq_false h,decide_eq_false e]
theorem a86 (a:Int) (b:Str):decide ((Sum.inl a:Key)=Sum.inr b)=false:=decide_eq_false (fun q=>nomatch q)
theorem a88 (a:Str) (b:Int):decide ((Sum.inr a:Key)=Sum.inl b)=false:=decide_eq_false (fun q=>nomatch q)
def lg (prog:Program) (w:World):PySem.KeyKind prog w Key where
  is:=Qf
  hash:=adg w
  inj:=fun v a b ha hb=>by
    rcases m9 ha with ⟨i,t,rfl,rfl⟩ | ⟨x,t,rfl,rfl⟩
    · rcases m9 hb with ⟨j,u,rfl,e⟩ | ⟨y,u,rfl,e⟩
      · injection e with e1 _; rw [e1]
      · exact nomatch e
    · rcases m9 hb with ⟨j,u,rfl,e⟩ | ⟨y,u,rfl,e⟩
      · exact nomatch e
      · injection e with e1 _; rw [e1]
  byValue:=fun k v h=>by
    rcases m9 h with ⟨i,t,rfl,rfl⟩ | ⟨x,t,rfl,rfl⟩ <;> rfl
  pyHash:=fun hv h=>by
    rcases m9 hv with ⟨i,t,rfl,rfl⟩ | ⟨x,t,rfl,rfl⟩
    · exact wpAny_pyHash_int h
    · exact wpAny_pyHash_str h
  eqBool:=fun hu hv h=>by
    rcases m9 hu with ⟨i,t,rfl,rfl⟩ | ⟨x,t,rfl,rfl⟩
    · rcases m9 hv with ⟨j,u,rfl,rfl⟩ | ⟨y,u,rfl,rfl⟩
      · rw [a9b] at h; exact wpAny_eqBool_int h
      · rw [a86] at h; exact SeqAt.EqAt.int_str i t y u _ _ _ _ h
    · rcases m9 hv with ⟨j,u,rfl,rfl⟩ | ⟨y,u,rfl,rfl⟩
      · rw [a88] at h; exact SeqAt.EqAt.str_int x t j u _ _ _ _ h
      · rw [a9h] at h; exact wpAny_eqBool_str h
  «strs»:=fun k x t v h=>by
    rcases m9 h with ⟨i,u,rfl,e⟩ | ⟨y,u,rfl,e⟩
    · exact nomatch e
    · injection e with e1 _
      subst e1
      cases v <;> rfl
theorem V9 (prog:Program) (w:World) (k:Key) (v:Value):(lg prog w).is k v=Qf k v:=rfl
theorem Rf (prog:Program) (w:World) (i:Int) (t:Tok):(lg prog w).is (.inl i) (.int i t)=true:=Xe i t
theorem Rx (prog:Program) (w:World) (x:Str) (t:Tok):(lg prog w).is (.inr x) (.str x t)=true:=Zc x t
end L2
namespace L2
open PySem PySem.Spec PyProof.Rows
inductive V where
  | non | bl (b:Bool) | int (i:Int) | str (x:Str) | byt (b:Array UInt8) | flt (b:UInt64) | ref (a:Addr) | ty (n:String)
  deriving DecidableEq
def RelV:V→Value→Prop
  | .non,u=>u=Value.none
  | .bl b,u=>u=Value.bool b
  | .int i,u=>∃ t,u=Value.int i t
  | .str x,u=>∃ t,u=Value.str x t
  | .byt b,u=>∃ t,u=Value.bytes b t
  | .flt b,u=>∃ t,u=Value.float b t
  | .ref a,u=>u=Value.ref a
  | .ty n,u=>u=Value.type n
abbrev Vals:List V→List Value→Prop:=Paired RelV
theorem Vals.length {xs:List V} {us:List Value} (r:Vals xs us):xs.length=us.length:=Paired.length r
theorem Vals.get:∀ {xs:List V} {us:List Value} {i:Nat} {x:V},Vals xs us→xs[i]? = some x→∃ u,us[i]? = some u∧RelV x u
  | _,_,_,_,.nil,e=>by simp at e
  | _,_,0,_,.cons r _,e=>by simp at e; subst e; exact ⟨_,rfl,r⟩
  | _,_,i+1,x,.cons _ t,e=>by
    obtain ⟨u,h1,h2⟩:=Vals.get (i:=i) (x:=x) t (by simpa using e)
    exact ⟨u,by simpa using h1,h2⟩
theorem Vals.set {x:V} {u:Value} (r:RelV x u):∀ {xs:List V} {us:List Value} (i:Nat),Vals xs us→Vals (xs.set i x) (us.set i u)
  | _,_,_,.nil=>.nil
  | _,_,0,.cons _ t=>.cons r t
  | _,_,i+1,.cons q t=>.cons q (Vals.set r i t)
theorem Vals.append {xs ys:List V} {us ws:List Value} (r:Vals xs us) (s:Vals ys ws):Vals (xs++ys) (us++ws):=by
  induction r with
  | nil=>exact s
  | cons r _ ih=>exact .cons r ih
theorem Vals.take:∀ {xs:List V} {us:List Value} (n:Nat),Vals xs us→Vals (xs.take n) (us.take n)
  | _,_,0,_=>.nil
  | _,_,_+1,.nil=>.nil
  | _,_,n+1,.cons r t=>.cons r (Vals.take n t)
theorem Vals.drop:∀ {xs:List V} {us:List Value} (n:Nat),Vals xs us→Vals (xs.drop n) (us.drop n)
  | _,_,0,r=>r
  | _,_,_+1,.nil=>.nil
  | _,_,n+1,.cons _ t=>Vals.drop n t
def Qy:Option V→Option Value→Prop
  | some v,some u=>RelV v u
  | none,none=>True
  | _,_=>False
def KV {κ:Type}:List (κ × V)→List (κ × Value)→Prop:=Paired fun (p:κ × V) (q:κ × Value)=>p.1=q.1∧RelV p.2 q.2
def kV:Key→V
  | .inl i=>.int i
  | .inr x=>.str x
inductive HO where
  /-- a list -/
  | lst (xs:List V)
  /-- a tuple (never changes) -/
  | tup (xs:List V)
  /-- a dict whose keys are ints and texts; one whose keys are tuples of ints and texts (the empty one is both) -/
  | dK (kvs:List (Key × V)) | dT (kvs:List (List Key × V))
  /-- a set of ints: its members,its size -/
  | set (S:Int→Bool) (n:Nat)
  /-- an instance of the class at C,its dict at dx,its attributes -/
  | ins (C dx:Addr) (fs:List (Str × V))
  /-- the dict of the instance at x -/
  | own (x:Addr)
  /-- the dict of an exception -/
  | xd (fs:List (Str × V))
  /-- a bound method,f of x -/
  | met (f x:Addr)
  /-- a range object lo,lo+1,.. below hi -/
  | rng (lo hi:Int)
  /-- a thing that is known to the object (the script; a dict while a loop walks it): read,never written while it is so -/
  | frz (o:Obj) (u:HO)
  /-- a code object's table -/
  | tbl (ps:Array Value)
  /-- any other thing,by what is true of its one object (a def of one's own: SetO a S n:=HO.ext fun h=>..) -/
  | ext (φ:Heap→Prop)
abbrev Hp:=Addr→Option HO
def upd (H:Hp) (a:Addr) (o:HO):Hp:=fun b=>if b=a then some o else H b
theorem dj {H:Hp} {a:Addr} {o:HO}:upd H a o a=some o:=by unfold upd; rw [if_pos rfl]
theorem dw {H:Hp} {a b:Addr} {o:HO} (h:b≠a):upd H a o b=H b:=by unfold upd; rw [if_neg h]
theorem aa1 {H:Hp} {a b:Addr} {o u:HO} (h:H a=some o) (h':H b=some u) (d:o≠u):a≠b:=by
  intro e; subst e; rw [h] at h'; exact d (Option.some.inj h')
theorem jr {H:Hp} {a b:Addr} {o:HO} (h:H a=some o) (h':H b=none):a≠b:=by
  intro e; subst e; rw [h] at h'; cases h'
def a0j (h:Heap) (a:Addr) (items:Array Value):Prop:=∃ o,h.get? a=some o∧o.cls=.type "tuple" ∧ o.dict=none∧∃ n,o.data=.seq items n
theorem a0j.is {h:Heap} {a:Addr} {items:Array Value} (x:a0j h a items):IsTup h a items:=let ⟨o,e,c,_,d⟩:=x; ⟨o,e,c,d⟩
theorem a0j.new (h:Heap) (items:Array Value):a0j (h.push { cls:=.type "tuple",data:=.seq items }) h.objs.size items:=⟨_,Heap.get?_push_size _ rfl,rfl,rfl,0,rfl⟩
section
variable (P:Program) (w:World)
def su (H:Hp) (h:Heap) (a:Addr):HO→Prop
  | .lst xs=>xs.length≤sizeLine∧∃ (its:List Value) (n:Nat),Vals xs its∧h.get? a=some { cls:=.type "list",data:=.seq its.toArray n }
  | .tup xs=>xs.length≤sizeLine∧∃ its:List Value,Vals xs its∧a0j h a its.toArray
  | .dK kvs=>kvs.length≤sizeLine∧(a==sysModules)=false∧∃ vs,KV kvs vs∧h.DictOf (lg P w) a vs
  | .dT kvs=>kvs.length≤sizeLine∧(a==sysModules)=false∧∃ xs:List (List Key × Addr × Value),
      Paired (fun (p:List Key × V) (q:List Key × Addr × Value)=>p.1=q.1∧H q.2.1=some (.tup (p.1.map kV))∧RelV p.2 q.2.2) kvs xs ∧
      ∃ o es ep,h.get? a=some o∧o.ExactDict∧o.data=.dict es ep∧es.toList=xs.map (entryOfKey (tupleKind (lg P w)))∧(xs.map (·.1)).Nodup
  | .set S n=>h.SetOf (intKind P w) a S n
  | .ins C dx fs=>H dx=some (.own a)∧fs.length≤1000∧dx≠a∧h.get? a=some (PySem.W.instObj C dx) ∧
      ∃ mA,h.Ns1 dx mA∧(∀ f,Qy (fs.lookup f) (mA f))∧PySem.Within mA (fs.map (·.1))
  | .own _=>∃ o,h.get? a=some o
  | .xd fs=>∃ mA,h.Ns1 a mA∧∀ f,Qy (fs.lookup f) (mA f)
  | .rng lo hi=>∃ t u v,h.get? a=some { cls:=.type "range",data:=.fields #[.int lo t,.int hi u,.int 1 v] }
  | .frz o u=>h.get? a=some o∧su H h a u
  | .tbl ps=>h.get? a=some { cls:=.none,data:=.fields ps }
  | .met f x=>h.get? a=some (PySem.W.methodObj (.ref f) (.ref x))
  | .ext φ=>φ h∧(∃ o,h.get? a=some o)∧∀ h1 h2:Heap,φ h1→(∀ o,h1.get? a=some o→h2.get? a=some o)→φ h2
def HOk (H:Hp) (h:Heap):Prop:=∀ a o,H a=some o→su P w H h a o
end
section
variable {P:Program} {w:World} {H H':Hp} {h h':Heap} {a:Addr} {o:HO}
theorem su.lt (x:su P w H h a o):a<h.objs.size:=by
  cases o with
  | lst xs=>obtain ⟨_,_,_,_,e⟩:=x; exact Heap.lt_size e
  | tup xs=>obtain ⟨_,_,_,p⟩:=x; exact p.is.lt
  | dK kvs=>obtain ⟨_,_,_,_,o,_,_,e,_⟩:=x; exact Heap.lt_size e
  | dT kvs=>obtain ⟨_,_,_,_,o,_,_,e,_⟩:=x; exact Heap.lt_size e
  | set S n=>obtain ⟨o,_,_,_,e,_⟩:=x; exact Heap.lt_size e
  | ins C dx fs=>obtain ⟨_,_,_,e,_⟩:=x; exact Heap.lt_size e
  | own y=>obtain ⟨_,e⟩:=x; exact Heap.lt_size e
  | xd fs=>obtain ⟨_,⟨_,_,_,e,_⟩,_⟩:=x; exact Heap.lt_size e
  | rng lo hi=>obtain ⟨_,_,_,e⟩:=x; exact Heap.lt_size e
  | frz ob u=>obtain ⟨e,_⟩:=x; exact Heap.lt_size e
  | tbl ps=>exact Heap.lt_size (show h.get? a=some _ from x)
  | met f y=>exact Heap.lt_size (show h.get? a=some _ from x)
  | ext φ=>obtain ⟨_,⟨_,e⟩,_⟩:=x; exact Heap.lt_size e
theorem Paired.ac1 {α β:Type} {F G:α→β→Prop} {l₁:List α} {l₂:List β} (r:Paired F l₁ l₂) (f:∀ a b,F a b→G a b):Paired G l₁ l₂:=by
  induction r with
  | nil=>exact .nil
  | cons r _ ih=>exact .cons (f _ _ r) ih
theorem su.stay (x:su P w H h a o) (k:∀ b u,(b=a∨H b=some (.own a))→h.get? b=some u→h'.get? b=some u)
    (ho:∀ b,H b=some (.own a)→H' b=some (.own a)) (ht:∀ b xs,H b=some (.tup xs)→H' b=some (.tup xs)):su P w H' h' a o:=by
  induction o with
  | lst xs=>obtain ⟨z,its,n,r,e⟩:=x; exact ⟨z,its,n,r,k _ _ (.inl rfl) e⟩
  | tup xs=>obtain ⟨z,its,r,ob,e,c⟩:=x; exact ⟨z,its,r,ob,k _ _ (.inl rfl) e,c⟩
  | dK kvs=>obtain ⟨z,y,vs,r,ob,es,ep,e,c⟩:=x; exact ⟨z,y,vs,r,ob,es,ep,k _ _ (.inl rfl) e,c⟩
  | dT kvs =>
    obtain ⟨z,y,xs,r,ob,es,ep,e,c⟩:=x
    exact ⟨z,y,xs,Paired.ac1 r fun p q z=>⟨z.1,ht _ _ z.2.1,z.2.2⟩,ob,es,ep,k _ _ (.inl rfl) e,c⟩
  | set S n=>obtain ⟨ob,es,ep,t,e,c⟩:=x; exact ⟨ob,es,ep,t,k _ _ (.inl rfl) e,c⟩
  | ins C dx fs =>
    obtain ⟨d,z,ne,e,mA,⟨od,es,ep,e2,c⟩,r⟩:=x
    exact ⟨ho _ d,z,ne,k _ _ (.inl rfl) e,mA,⟨od,es,ep,k _ _ (.inr d) e2,c⟩,r⟩
  | own y=>obtain ⟨ob,e⟩:=x; exact ⟨ob,k _ _ (.inl rfl) e⟩
  | xd fs=>obtain ⟨mA,⟨od,es,ep,e,c⟩,r⟩:=x; exact ⟨mA,⟨od,es,ep,k _ _ (.inl rfl) e,c⟩,r⟩
  | rng lo hi=>obtain ⟨t,u,v,e⟩:=x; exact ⟨t,u,v,k _ _ (.inl rfl) e⟩
  | frz ob u ih=>obtain ⟨e,q⟩:=x; exact ⟨k _ _ (.inl rfl) e,ih q⟩
  | tbl ps =>
    have e:h.get? a=some { cls:=.none,data:=.fields ps }:=x
    show h'.get? a=some { cls:=.none,data:=.fields ps }
    exact k a _ (.inl rfl) e
  | met f y =>
    have e:h.get? a=some (PySem.W.methodObj (.ref f) (.ref y)):=x
    show h'.get? a=some (PySem.W.methodObj (.ref f) (.ref y))
    exact k a _ (.inl rfl) e
  | ext φ=>obtain ⟨p,⟨o,e⟩,st⟩:=x; exact ⟨st _ _ p fun o q=>k _ _ (.inl rfl) q,⟨o,k _ _ (.inl rfl) e⟩,st⟩
theorem HOk.lt (x:HOk P w H h) (e:H a=some o):a<h.objs.size:=(x a o e).lt
theorem HOk.fresh (x:HOk P w H h) (e:h.objs.size≤a):H a=none:=by
  cases q:H a with
  | none=>rfl
  | some u=>exact absurd (Nat.lt_of_lt_of_le (x.lt q) e) (Nat.lt_irrefl _)
theorem HOk.kept (x:HOk P w H h) (k:∀ b u,h.get? b=some u→h'.get? b=some u):HOk P w H h':=fun a o e =>
  (x a o e).stay (fun b u _ q=>k b u q) (fun _ q=>q) fun _ _ q=>q
theorem HOk.laid (x:HOk P w H h) (k:∀ b u,h.get? b=some u→h'.get? b=some u) (hp:h.objs.size≤a) (new:su P w (upd H a o) h' a o):HOk P w (upd H a o) h':=fun b u e=>by
  have hn:=x.fresh hp
  by_cases hb:b=a
  · subst hb; rw [dj] at e; cases e; exact new
  · rw [dw hb] at e
    exact (x b u e).stay (fun c v _ q=>k c v q) (fun c q=>by rw [dw (jr q hn)]; exact q) fun c xs q=>by rw [dw (jr q hn)]; exact q
end
def Rd (H:Hp) (a:Addr) (u:HO):Prop:=H a=some u∨∃ o,H a=some (.frz o u)
theorem Rd.of {H:Hp} {a:Addr} {u:HO} (h:H a=some u):Rd H a u:=.inl h
theorem Rd.ok {P:Program} {w:World} {H:Hp} {h:Heap} {a:Addr} {u:HO} (r:Rd H a u) (x:HOk P w H h):su P w H h a u:=by
  rcases r with r | ⟨o,r⟩
  · exact x a u r
  · obtain ⟨_,q⟩:=x a _ r
    exact q
def Mut:Option HO→Prop
  | some (.lst _)=>True
  | some (.dK _)=>True
  | some (.dT _)=>True
  | some (.set _ _)=>True
  | some (.ins _ _ _)=>True
  | some (.ext _)=>True
  | _=>False
section
variable {P:Program} {w:World} {H:Hp} {h h':Heap} {x e:Addr} {o':HO}
theorem HOk.write (ok:HOk P w H h) (mu:Mut (H x)) (he:e=x∨H e=some (.own x)) (k:∀ b u,b≠e→h.get? b=some u→h'.get? b=some u) (heo:∃ u,h'.get? e=some u)
    (new:su P w (upd H x o') h' x o'):HOk P w (upd H x o') h':=fun b u q=>by
  have nown:∀ c y,H c=some (.own y)→c≠x:=fun c y r z=>by subst z; rw [r] at mu; exact mu
  have ntup:∀ c xs,H c=some (.tup xs)→c≠x:=fun c xs r z=>by subst z; rw [r] at mu; exact mu
  by_cases hb:b=x
  · subst hb; rw [dj] at q; cases q; exact new
  · rw [dw hb] at q
    by_cases hbe:b=e
    · have q':H b=some (.own x):=by
        rcases he with z | z
        · exact absurd (hbe.trans z) hb
        · rw [hbe]; exact z
      rw [q] at q'; cases q'
      obtain ⟨v,hv⟩:=heo
      exact ⟨v,by rw [hbe]; exact hv⟩
    · refine (ok b u q).stay (fun c v hc r=>k c v ?_ r) (fun c r=>by rw [dw (nown c b r)]; exact r) fun c xs r=>by rw [dw (ntup c xs r)]; exact r
      rcases hc with rfl | hc
      · exact hbe
      · rintro rfl
        rcases he with z | z
        · exact nown c b hc z
        · rw [hc] at z; cases z; exact hb rfl
end
structure Un (fs ex:List Addr) (H H':Hp) (h h':Heap):Prop where
  keep:∀ b o,h.get? b=some o→H b=none→b∉fs→b∉ex→h'.get? b=some o
  slot:∀ b o,h.get? b=some o→H b=none→b∈fs→b∉ex→∃ sl,h'.get? b=some { o with slots:=sl }
  free:∀ b o,h.get? b=some o→H b=none→b∉ex→H' b=none
  there:∀ b o,h.get? b=some o→b∉ex→∃ o',h'.get? b=some o'
  tups:∀ b xs,H b=some (.tup xs)→H' b=some (.tup xs)
  frzs:∀ b o u,H b=some (.frz o u)→H' b=some (.frz o u)
  tbls:∀ b ps,H b=some (.tbl ps)→∃ more,H' b=some (.tbl (ps++more))
section
variable {fs fs' ex ex':List Addr} {H H1 H2:Hp} {h h1 h2 h':Heap} {a x e:Addr} {o:HO}
theorem Un.any (u:Un fs ex H H1 h h1) {b:Addr} {ob:Obj} (q:h.get? b=some ob) (n:H b=none) (hx:b∉ex):∃ sl,h1.get? b=some { ob with slots:=sl }:=by
  by_cases hb:b∈fs
  · exact u.slot b ob q n hb hx
  · exact ⟨ob.slots,u.keep b ob q n hb hx⟩
theorem Un.trans (a:Un fs ex H H1 h h1) (b:Un fs ex H1 H2 h1 h2):Un fs ex H H2 h h2 where
  keep:=fun c ob q n hc hx=>b.keep c ob (a.keep c ob q n hc hx) (a.free c ob q n hx) hc hx
  slot:=fun c ob q n hc hx=>by
    obtain ⟨sl,e1⟩:=a.slot c ob q n hc hx
    obtain ⟨sl',e2⟩:=b.slot c _ e1 (a.free c ob q n hx) hc hx
    exact ⟨sl',e2⟩
  free:=fun c ob q n hx=>by
    obtain ⟨o',e1⟩:=a.there c ob q hx
    exact b.free c o' e1 (a.free c ob q n hx) hx
  there:=fun c ob q hx=>by
    obtain ⟨o',e1⟩:=a.there c ob q hx
    exact b.there c o' e1 hx
  tups:=fun c xs q=>b.tups c xs (a.tups c xs q)
  frzs:=fun c ob xs q=>b.frzs c ob xs (a.frzs c ob xs q)
  tbls:=fun c ps q=>by
    obtain ⟨m1,e1⟩:=a.tbls c ps q
    obtain ⟨m2,e2⟩:=b.tbls c _ e1
    exact ⟨m1++m2,by rw [e2,Array.append_assoc]⟩
theorem Un.kept (k:∀ b u,h.get? b=some u→h'.get? b=some u):Un fs ex H H h h' :=
  ⟨fun b ob q _ _ _=>k b ob q,fun b ob q _ _ _=>⟨ob.slots,k b ob q⟩,fun _ _ _ n _=>n,fun b ob q _=>⟨ob,k b ob q⟩,fun _ _ q=>q,fun _ _ _ q=>q,fun _ ps q=>⟨#[],by rw [q]; simp⟩⟩
theorem Un.refl:Un fs ex H H h h:=Un.kept fun _ _ q=>q
theorem Un.laid (k:∀ b u,h.get? b=some u→h'.get? b=some u) (hp:h.objs.size≤a) (hn:H a=none):Un fs ex H (upd H a o) h h' where
  keep:=fun b u q _ _ _=>k b u q
  slot:=fun b u q _ _ _=>⟨u.slots,k b u q⟩
  free:=fun b u q n _=>by rw [dw (Nat.ne_of_lt (Nat.lt_of_lt_of_le (Heap.lt_size q) hp))]; exact n
  there:=fun b u q _=>⟨u,k b u q⟩
  tups:=fun b xs q=>by rw [dw (jr q hn)]; exact q
  frzs:=fun b u xs q=>by rw [dw (jr q hn)]; exact q
  tbls:=fun b ps q=>⟨#[],by rw [dw (jr q hn),q]; simp⟩
theorem Un.write (mu:Mut (H x)) (he:e=x∨H e=some (.own x)) (k:∀ b u,b≠e→h.get? b=some u→h'.get? b=some u) (heo:∃ u,h'.get? e=some u):Un fs ex H (upd H x o) h h':=by
  have hx:∀ b,H b=none→b≠x:=fun b n z=>by subst z; rw [n] at mu; exact mu
  have hb:∀ b,H b=none→b≠e:=fun b n z=>by
    subst z
    rcases he with r | r
    · exact hx b n r
    · rw [n] at r; cases r
  have hm:∀ b u,H b=some u→¬ Mut (some u)→b≠x:=fun b u q nm z=>by subst z; rw [q] at mu; exact nm mu
  refine ⟨fun b u q n _ _=>k b u (hb b n) q,fun b u q n _ _=>⟨u.slots,k b u (hb b n) q⟩,fun b u q n _=>by rw [dw (hx b n)]; exact n,fun b u q _=>?_,
    fun b xs q=>by rw [dw (hm b _ q fun z=>z)]; exact q,fun b u xs q=>by rw [dw (hm b _ q fun z=>z)]; exact q,fun b ps q=>⟨#[],by rw [dw (hm b _ q fun z=>z),q]; simp⟩⟩
  by_cases hbe:b=e
  · subst hbe; exact heo
  · exact ⟨u,k b u hbe q⟩
theorem Un.mono (u:Un fs ex H H1 h h1) (hs:∀ b∈fs,b∈fs') (hx:∀ b∈ex,b∈ex'):Un fs' ex' H H1 h h1 :=
  ⟨fun b ob q n hb he=>u.keep b ob q n (fun z=>hb (hs b z)) fun z=>he (hx b z),fun _ _ q n _ he=>u.any q n fun z=>he (hx _ z),fun b ob q n he=>u.free b ob q n fun z=>he (hx b z),fun b ob q he=>u.there b ob q fun z=>he (hx b z),u.tups,u.frzs,u.tbls⟩
end
def trk (h:Heap) (H:Hp):List Addr:=(List.range h.objs.size).filter fun a=>(H a).isSome
def a1s (h:Heap) (H:Hp):Heap:=PySem.W.hideAll h (trk h H)
theorem Wx (h:Heap) (H:Hp):(a1s h H).objs.size=h.objs.size:=PySem.W.hideAll_size _ _
theorem a1r {h:Heap} {H:Hp} {b:Addr} {o:Obj} (e:h.get? b=some o) (n:H b=none):(a1s h H).get? b=some o :=
  PySem.W.hideAll_get _ e fun hm=>by
    have q:(H b).isSome=true:=(List.mem_filter.mp hm).2
    rw [n] at q; simp at q
theorem a7b {h:Heap} {H:Hp} {b:Addr} {o:Obj} (e:(a1s h H).get? b=some o):h.get? b=some o∧H b=none:=by
  have e':h.get? b=some o:=PySem.W.of_hideAll (trk h H) e
  refine ⟨e',?_⟩
  cases q:H b with
  | none=>rfl
  | some x =>
    have hm:b∈trk h H:=List.mem_filter.mpr ⟨List.mem_range.mpr (Heap.lt_size e'),by simp [q]⟩
    have z:(a1s h H).get? b=none:=PySem.W.hideAll_none (trk h H) hm
    rw [z] at e; cases e
def a6k (g h:Heap) (L:Addr):List (Addr × Obj):=(List.range h.objs.size).filterMap fun a=>if a=L∨(g.get? a).isSome=true then none else (h.get? a).map fun o=>(a,o)
def rest (g h:Heap) (L d:Addr):List (Addr × Obj):=(a6k g h L).filter fun p=>decide (p.1≠d)
end L2
namespace L2
open PySem PySem.Spec PyProof.Rows
structure Mod (K:PySem.W.Frag) (mg:Str→Option Value) (base:Heap):Prop where
  kin:K.In base
  glob:base.Ns mainGlobals mg
  blt:∃ mb,base.Ns builtinsNs mb∧∀ x:Str,x ≠ "__name__" → mb x=bootBuiltins x
  nolimit:base.NoLimit
structure Cx where
  prog:Program
  w:World
  K:PySem.W.Frag
  mg:Str→Option Value
  base:Heap
  A:Around
  N:List Str
  s₀:Shared
  H₀:Hp
  env:Env
  outer:List Env
  stack:List Env
  ex:List Addr
  fn:Str→Bool
  calm:Bool
  pn:List (Addr × Obj)
  xe:Value→Shared→Prop
def frs (l:List Env):List Addr:=l.filterMap (·.frame)
abbrev Cx.fs (X:Cx):List Addr:=frs X.outer
def Vis (sc:Scope) (x:Str):Prop:=sc.names.lookup x=some .local∨sc.names.lookup x=some .cell∨sc.names.lookup x=some .free
def Loc (sc:Scope) (x:Str):Prop:=sc.names.lookup x=some .local∨sc.names.lookup x=some .cell
def Look (env:Env) (h:Heap) (m:Str→Option Value) (x:Str) (u:Value):Prop :=
  (env.kindOf x=some .local∧m x=some u)∨((env.kindOf x=some .cell∨env.kindOf x=some .free)∧∃ c,env.cells.lookup x=some c∧h.IsCell c (some u))
structure Cx.Ok (X:Cx):Prop where
  mod:Mod X.K X.mg X.base
  kind:X.env.scope.kind=.function
  glob:X.env.globals=mainGlobals
  blt:X.env.builtins=builtinsNs
  above:X.s₀.heap.objs.size≤X.env.locals
  inj:∀ x y c,X.env.cells.lookup x=some c→X.env.cells.lookup y=some c→x=y
  has:∀ x,(X.env.kindOf x=some .cell∨X.env.kindOf x=some .free)→∃ c,X.env.cells.lookup x=some c
  cab:∀ x c,X.fn x=true→X.env.cells.lookup x=some c→X.s₀.heap.objs.size≤c
  hd:X.calm=true→X.A.handled=none
  frames:X.A.frames=some X.stack
  stk:X.stack=X.outer∨(X.stack=X.env::X.outer∧X.env.frame=some X.env.locals)
  exf:∀ b∈X.ex,b≠X.env.locals∧∀ x c,X.env.cells.lookup x=some c→c≠b
  bs:∀ b o,X.base.get? b=some o→X.s₀.heap.get? b=some o∧X.H₀ b=none
  bsz:X.base.objs.size≤X.s₀.heap.objs.size
  noex:∀ b o,X.base.get? b=some o→b∉X.ex
  exfs:∀ b∈X.ex,b∉X.fs
  Ti:X.s₀.heap.FunFrames X.base X.outer
  frf:∀ b∈X.fs,X.H₀ b=none
structure Inv (X:Cx) (pins:List (Addr × Obj)) (σ:List (Option V)) (H:Hp) (s:Shared):Prop where
  ok:X.Ok
  os:s.os=X.s₀.os
  bare:AllBare s.gens
  base:Un X.fs X.ex X.H₀ H X.s₀.heap s.heap
  loc:∃ m,s.heap.Ns X.env.locals m∧∀ (i:Nat) (x:Str) (v:V),X.N[i]? = some x→σ[i]? = some (some v)→Vis X.env.scope x→∃ u,RelV v u∧Look X.env s.heap m x u
  cell:∀ x c,X.env.cells.lookup x=some c→∃ v,s.heap.IsCell c v
  free:H X.env.locals=none
  freeC:∀ x c,X.env.cells.lookup x=some c→H c=none
  pin:∀ p∈X.pn++pins,s.heap.get? p.1=some p.2∧H p.1=none∧p.1≠X.env.locals∧p.1∉X.fs∧∀ v,p.2.data≠.cell v
  hok:HOk X.prog X.w H s.heap
  len:σ.length=X.N.length
section
variable {X:Cx} {pins:List (Addr × Obj)} {σ:List (Option V)} {H H':Hp} {s:Shared} {h':Heap}
theorem Cx.Ok.ad8 (ok:X.Ok) {b:Addr} {o:Obj} (e:X.base.get? b=some o):b∉X.fs:=fun hb=>by
  have:=(ok.Ti.mem hb).1
  rw [e] at this; cases this
theorem Inv.bs (I:Inv X pins σ H s):∀ b o,X.base.get? b=some o→s.heap.get? b=some o∧H b=none:=fun b o e =>
  ⟨I.base.keep b o (I.ok.bs b o e).1 (I.ok.bs b o e).2 (I.ok.ad8 e) (I.ok.noex b o e),I.base.free b o (I.ok.bs b o e).1 (I.ok.bs b o e).2 (I.ok.noex b o e)⟩
theorem Inv.bk (I:Inv X pins σ H s):∀ b o,X.base.get? b=some o→s.heap.get? b=some o:=fun b o e=>(I.bs b o e).1
theorem Inv.mod (I:Inv X pins σ H s):Mod X.K X.mg X.base:=I.ok.mod
theorem Inv.kIn (I:Inv X pins σ H s):X.K.In s.heap:=I.ok.mod.kin.keeps I.bk
theorem Inv.fr (I:Inv X pins σ H s):∃ m,Fr X.base X.env.locals s.heap m :=
  let ⟨m,hn,_⟩:=I.loc
  ⟨m,hn,I.bk,Nat.le_trans I.ok.bsz I.ok.above⟩
theorem Inv.lt (I:Inv X pins σ H s):X.env.locals<s.heap.objs.size:=let ⟨_,hn,_⟩:=I.loc; hn.lt
theorem Inv.sz (I:Inv X pins σ H s):X.s₀.heap.objs.size≤s.heap.objs.size:=Nat.le_trans I.ok.above (Nat.le_of_lt I.lt)
theorem Inv.ade (I:Inv X pins σ H s) {a:Addr} (h:s.heap.objs.size≤a):a∉X.fs:=fun hb=>by
  obtain ⟨_,o,ho,_⟩:=I.ok.Ti.mem hb
  exact absurd (Nat.lt_of_lt_of_le (Heap.lt_size ho) (Nat.le_trans I.sz h)) (Nat.lt_irrefl _)
theorem Inv.cne (I:Inv X pins σ H s):∀ x c,X.env.cells.lookup x=some c→c≠X.env.locals:=fun x c e z=>by
  obtain ⟨v,o,ho,hd⟩:=I.cell x c e
  obtain ⟨m,⟨o',es,ep,ho',hd',_⟩,_⟩:=I.loc
  rw [z,ho'] at ho; cases ho; rw [hd'] at hd; cases hd
theorem Inv.Ti (I:Inv X pins σ H s):s.heap.FunFrames X.base X.outer:=by
  have all:∀ (l:List Env),(∀ b∈frs l,b∈X.fs)→X.s₀.heap.FunFrames X.base l→s.heap.FunFrames X.base l:=by
    intro l
    induction l with
    | nil=>intro _ _; trivial
    | cons env r ih =>
      intro hs hl
      obtain ⟨hk,⟨L,o,hf,hn,ho,hd⟩,hr⟩:=hl
      have hL:L∈X.fs:=hs L (by unfold frs; rw [List.filterMap_cons,hf]; exact List.mem_cons_self)
      obtain ⟨sl,e⟩:=I.base.slot L o ho (I.ok.frf L hL) hL fun z=>I.ok.exfs L z hL
      exact ⟨hk,⟨L,_,hf,hn,e,hd⟩,ih (fun b hb=>hs b (by unfold frs; rw [List.filterMap_cons,hf]; exact List.mem_cons_of_mem _ hb)) hr⟩
  exact all X.outer (fun _ hb=>hb) I.ok.Ti
theorem Inv.stack (I:Inv X pins σ H s):s.heap.FunFrames X.base X.stack:=by
  rcases I.ok.stk with e | ⟨e,hf⟩
  · rw [e]; exact I.Ti
  · rw [e]
    obtain ⟨m,hn,_⟩:=I.loc
    refine .cons (by rw [I.ok.kind]; decide) hf hn ?_ I.Ti
    exact Heap.get?_none_of_le (Nat.le_trans I.ok.bsz I.ok.above)
theorem Inv.Qv (I:Inv X pins σ H s):∀ b∈frs X.stack,b∈X.env.locals::X.fs:=fun b hb=>by
  rcases I.ok.stk with e | ⟨e,hf⟩
  · rw [e] at hb; exact List.mem_cons_of_mem _ hb
  · rw [e] at hb
    unfold frs at hb
    rw [List.filterMap_cons,hf] at hb
    exact hb
theorem Inv.Rb (I:Inv X pins σ H s):∀ b∈frs X.stack,H b=none:=fun b hb=>by
  rcases List.mem_cons.mp (I.Qv b hb) with e | hb
  · rw [e]; exact I.free
  · obtain ⟨_,o,ho,_⟩:=I.ok.Ti.mem hb
    exact I.base.free b o ho (I.ok.frf b hb) fun z=>I.ok.exfs b z hb
theorem Inv.step {g':Array GenState} {t':Nat} {d':Drawn} {ch:List Addr} (I:Inv X pins σ H s)
    (hch:∀ b∈ch,(b∈X.ex∨X.s₀.heap.objs.size≤b)∧b≠X.env.locals∧(∀ x c,X.env.cells.lookup x=some c→c≠b)∧∀ p∈X.pn++pins,p.1≠b)
    (keep:∀ b o,b≠X.env.locals→b∉X.fs→b∉ch→s.heap.get? b=some o→H b=none→h'.get? b=some o)
    (slot:∀ b o,b≠X.env.locals→b∈X.fs→b∉ch→s.heap.get? b=some o→H b=none→∃ sl,h'.get? b=some { o with slots:=sl }) (free:∀ b o,b∉ch→s.heap.get? b=some o→H b=none→H' b=none)
    (there:∀ b o,b∉ch→s.heap.get? b=some o→∃ o',h'.get? b=some o')
    (tups:∀ b xs,H b=some (.tup xs)→H' b=some (.tup xs)) (frzs:∀ b o u,H b=some (.frz o u)→H' b=some (.frz o u)) (tbls:∀ b ps,H b=some (.tbl ps)→∃ more,H' b=some (.tbl (ps++more)))
    (ns:∀ m,s.heap.Ns X.env.locals m→h'.Ns X.env.locals m) (hok:HOk X.prog X.w H' h') (hg:AllBare g') :
    Inv X pins σ H' { s with heap:=h',gens:=g',drawn:=d',toks:=t' }:=by
  have neL:∀ b o,X.s₀.heap.get? b=some o→b≠X.env.locals:=fun b o e=>Nat.ne_of_lt (Nat.lt_of_lt_of_le (Heap.lt_size e) I.ok.above)
  have neC:∀ b o,X.s₀.heap.get? b=some o→b∉X.ex→b∉ch:=fun b o e hx hb=>by
    rcases (hch b hb).1 with z | z
    · exact hx z
    · exact absurd (Nat.lt_of_lt_of_le (Heap.lt_size e) z) (Nat.lt_irrefl _)
  have cellK:∀ x c,X.env.cells.lookup x=some c→∀ v,s.heap.IsCell c v→h'.IsCell c v:=fun x c e v z9=>by
    obtain ⟨o,ho,hd⟩:=z9
    have nch:c∉ch:=fun z=>(hch c z).2.2.1 x c e rfl
    by_cases hc:c∈X.fs
    · obtain ⟨sl,q⟩:=slot c o (I.cne x c e) hc nch ho (I.freeC x c e)
      exact ⟨_,q,hd⟩
    · exact ⟨o,keep c o (I.cne x c e) hc nch ho (I.freeC x c e),hd⟩
  refine ⟨I.ok,I.os,hg,⟨fun b o e n hb hx=>?_,fun b o e n hb hx=>?_,fun b o e n hx=>?_,fun b o e hx=>?_,fun b xs e=>tups b xs (I.base.tups b xs e),fun b o xs e=>frzs b o xs (I.base.frzs b o xs e),fun b ps e=>?_⟩,?_,fun x c e=>?_,?_,fun x c e=>?_,fun p hp=>?_,hok,I.len⟩
  · exact keep b o (neL b o e) hb (neC b o e hx) (I.base.keep b o e n hb hx) (I.base.free b o e n hx)
  · obtain ⟨sl,e1⟩:=I.base.slot b o e n hb hx
    obtain ⟨sl',e2⟩:=slot b _ (neL b o e) hb (neC b o e hx) e1 (I.base.free b o e n hx)
    exact ⟨sl',e2⟩
  · obtain ⟨o',e1⟩:=I.base.there b o e hx
    exact free b o' (neC b o e hx) e1 (I.base.free b o e n hx)
  · obtain ⟨o',e1⟩:=I.base.there b o e hx
    exact there b o' (neC b o e hx) e1
  · obtain ⟨m1,e1⟩:=I.base.tbls b ps e
    obtain ⟨m2,e2⟩:=tbls b _ e1
    exact ⟨m1++m2,by rw [e2,Array.append_assoc]⟩
  · obtain ⟨m,hn,hl⟩:=I.loc
    refine ⟨m,ns m hn,fun i x v e1 e2 e3=>?_⟩
    obtain ⟨u,r,l⟩:=hl i x v e1 e2 e3
    refine ⟨u,r,?_⟩
    rcases l with l | ⟨k,c,e,z⟩
    · exact .inl l
    · exact .inr ⟨k,c,e,cellK x c e _ z⟩
  · obtain ⟨v,z⟩:=I.cell x c e
    exact ⟨v,cellK x c e v z⟩
  · obtain ⟨m,⟨o,_,_,ho,_⟩,_⟩:=I.loc
    exact free _ o (fun z=>(hch _ z).2.1 rfl) ho I.free
  · obtain ⟨v,o,ho,hd⟩:=I.cell x c e
    exact free c o (fun z=>(hch c z).2.2.1 x c e rfl) ho (I.freeC x c e)
  · obtain ⟨e,n,ne,nf,d⟩:=I.pin p hp
    have nch:p.1∉ch:=fun z=>(hch p.1 z).2.2.2 p hp rfl
    exact ⟨keep p.1 p.2 ne nf nch e n,free p.1 p.2 nch e n,ne,nf,d⟩
theorem Inv.un {t':Nat} (I:Inv X pins σ H s) (u:Un X.fs [] H H' s.heap h') (hok:HOk X.prog X.w H' h'):Inv X pins σ H' { s with heap:=h',toks:=t' }:=by
  obtain ⟨m,⟨o,es,ep,ho,r⟩,_⟩:=id I.loc
  obtain ⟨sl,hL⟩:=u.any ho I.free (by simp)
  exact I.step (g':=s.gens) (d':=s.drawn) (ch:=[]) (fun _ z=>nomatch z) (fun b o _ hb _ e n=>u.keep b o e n hb (by simp)) (fun b o _ hb _ e n=>u.slot b o e n hb (by simp)) (fun b o _ e n=>u.free b o e n (by simp)) (fun b o _ e=>u.there b o e (by simp)) u.tups u.frzs u.tbls (fun m' hm=>by
    obtain ⟨o',es',ep',ho',r'⟩:=hm
    rw [ho] at ho'; cases ho'
    exact ⟨_,es',ep',hL,r'⟩) hok I.bare
theorem Inv.call {g':Array GenState} {t':Nat} {d':Drawn} {ch:List Addr} (I:Inv X pins σ H s) (u:Un (frs X.stack) ch H H' s.heap h') (hok:HOk X.prog X.w H' h') (hg:AllBare g')
    (hch:∀ b∈ch,(b∈X.ex∨X.s₀.heap.objs.size≤b)∧b≠X.env.locals∧(∀ x c,X.env.cells.lookup x=some c→c≠b)∧∀ p∈X.pn++pins,p.1≠b) :
    Inv X pins σ H' { s with heap:=h',gens:=g',drawn:=d',toks:=t' }:=by
  obtain ⟨m,⟨o,es,ep,ho,r⟩,_⟩:=id I.loc
  obtain ⟨sl,hL⟩:=u.any ho I.free fun z=>(hch _ z).2.1 rfl
  exact I.step (ch:=ch) hch (fun b o hL hb hc e n=>u.keep b o e n (fun z=>(List.mem_cons.mp (I.Qv b z)).elim hL hb) hc) (fun b o _ _ hc e n=>u.any e n hc) (fun b o hc e n=>u.free b o e n hc) (fun b o hc e=>u.there b o e hc) u.tups u.frzs u.tbls (fun m' hm=>by
    obtain ⟨o',es',ep',ho',r'⟩:=hm
    rw [ho] at ho'; cases ho'
    exact ⟨_,es',ep',hL,r'⟩) hok hg
theorem Inv.turned {t':Nat} {it:Addr} (I:Inv X pins σ H s) (k:∀ b o,b≠it→s.heap.get? b=some o→h'.get? b=some o) (hn:H it=none) (hL:it≠X.env.locals)
    (h1:it∈X.ex∨X.s₀.heap.objs.size≤it) (h2:∀ x c,X.env.cells.lookup x=some c→c≠it) (h3:∀ p∈X.pn++pins,p.1≠it):Inv X pins σ H { s with heap:=h',toks:=t' }:=by
  have nit:∀ b u,H b=some u→b≠it:=fun b u e z=>by rw [z,hn] at e; cases e
  refine I.step (g':=s.gens) (d':=s.drawn) (ch:=[it]) (fun b hb=>?_) (fun b o _ _ hc e _=>k b o (fun z=>hc (by simp [z])) e) (fun b o _ _ hc e _=>⟨o.slots,k b o (fun z=>hc (by simp [z])) e⟩) (fun _ _ _ _ n=>n)
    (fun b o hc e=>⟨o,k b o (fun z=>hc (by simp [z])) e⟩) (fun _ _ e=>e) (fun _ _ _ e=>e) (fun b ps e=>⟨#[],by rw [e]; simp⟩) (fun m hm=>?_) (fun b u e=>?_) I.bare
  · have e:b=it:=by simpa using hb
    subst e
    exact ⟨h1,hL,h2,h3⟩
  · obtain ⟨o,es,ep,ho,r⟩:=hm
    exact ⟨o,es,ep,k _ o (Ne.symm hL) ho,r⟩
  · refine (I.hok b u e).stay (fun c v hc q=>k c v ?_ q) (fun _ q=>q) fun _ _ q=>q
    rcases hc with z | z
    · rw [z]; exact nit b u e
    · exact nit c _ z
theorem Inv.tok (I:Inv X pins σ H s) (t:Nat):Inv X pins σ H { s with toks:=t }:=I.un (h':=s.heap) (t':=t) Un.refl I.hok
theorem Inv.kept {t':Nat} (I:Inv X pins σ H s) (k:∀ b u,s.heap.get? b=some u→h'.get? b=some u):Inv X pins σ H { s with heap:=h',toks:=t' }:=I.un (Un.kept k) (I.hok.kept k)
theorem Inv.laid {a:Addr} {o:HO} {t':Nat} (I:Inv X pins σ H s) (k:∀ b u,s.heap.get? b=some u→h'.get? b=some u) (hp:s.heap.objs.size≤a) (new:su X.prog X.w (upd H a o) h' a o) :
    Inv X pins σ (upd H a o) { s with heap:=h',toks:=t' }:=I.un (Un.laid k hp (I.hok.fresh hp)) (I.hok.laid k hp new)
theorem Inv.write {x e:Addr} {o:HO} {t':Nat} (I:Inv X pins σ H s) (mu:Mut (H x)) (he:e=x∨H e=some (.own x)) (k:∀ b u,b≠e→s.heap.get? b=some u→h'.get? b=some u) (heo:∃ u,h'.get? e=some u)
    (new:su X.prog X.w (upd H x o) h' x o):Inv X pins σ (upd H x o) { s with heap:=h',toks:=t' }:=I.un (Un.write mu he k heo) (I.hok.write mu he k heo new)
theorem Inv.Jt {pins':List (Addr × Obj)} (I:Inv X pins σ H s) (h:∀ p∈pins',s.heap.get? p.1=some p.2∧H p.1=none∧p.1≠X.env.locals∧p.1∉X.fs∧∀ v,p.2.data≠.cell v):Inv X pins' σ H s :=
  ⟨I.ok,I.os,I.bare,I.base,I.loc,I.cell,I.free,I.freeC,fun p hp=>(List.mem_append.mp hp).elim (fun z=>I.pin p (List.mem_append_left _ z)) (h p),I.hok,I.len⟩
theorem Mz {N:List Str} (hN:N.Nodup) {i j:Nat} {x:Str} (a:N[i]? = some x) (b:N[j]? = some x):i=j:=by
  obtain ⟨h1,e1⟩:=List.getElem?_eq_some_iff.mp a
  obtain ⟨h2,e2⟩:=List.getElem?_eq_some_iff.mp b
  exact (List.getElem_inj hN).mp (e1.trans e2.symm)
theorem Zk {M:Model} {A:Around} {E:Value→Shared→Prop} {i:Nat} {x:Str} {v:V} {u:Value} {Q:Unit→Shared→Prop} (I:Inv X pins σ H s) (hN:X.N.Nodup) (hi:X.N[i]? = some x) (hx:Loc X.env.scope x) (r:RelV v u)
    (h:∀ s',Inv X pins (σ.set i (some v)) H s'→(∃ a,Heap.SameBut a s.heap s'.heap∧(a=X.env.locals∨X.env.cells.lookup x=some a))→Q () s') (hf:X.fn x=true∨X.env.scope.names.lookup x=some .local:=by first | exact .inl rfl | exact .inr rfl | assumption):wpAny M A (storeName X.env x u) Q E s:=by
  obtain ⟨m,hn,hl⟩:=id I.loc
  have hcls:(X.env.scope.kind == .class||(X.env.scope.kind == .module&&X.env.locals != X.env.globals))=false:=by rw [I.ok.kind]; rfl
  have hiσ:i<σ.length:=by rw [I.len]; exact (List.getElem?_eq_some_iff.mp hi).1
  have cne:=I.cne
  have tracked:∀ {a:Addr} {h':Heap},(∃ o,s.heap.get? a=some o∧H a=none)→Heap.SameBut a s.heap h'→HOk X.prog X.w H h':=fun {a h'} ha hs b ob e=>by
    obtain ⟨_,_,hfree⟩:=ha
    refine (I.hok b ob e).stay (fun c w' hc q=>(hs.2 c ?_).trans q) (fun _ q=>q) fun _ _ q=>q
    rintro rfl
    rcases hc with rfl | hc
    · rw [hfree] at e; cases e
    · rw [hfree] at hc; cases hc
  rcases hx with hk | hk
  · refine wpAny_storeName_local hk hn (fun h' hn' hs=>?_) hcls
    obtain ⟨oL,_,_,hoL,_⟩:=id hn
    refine h _ ⟨I.ok,I.os,I.bare,⟨fun b o e n hb hx=>?_,fun b o e n hb hx=>?_,I.base.free,fun b o e hx=>?_,I.base.tups,I.base.frzs,I.base.tbls⟩,⟨_,hn',fun j y v' e1 e2 e3=>?_⟩,fun y c e=>?_,I.free,I.freeC,fun p hp=>?_,tracked ⟨oL,hoL,I.free⟩ hs,by simpa using I.len⟩ ⟨_,hs,.inl rfl⟩
    · exact (hs.2 b (Nat.ne_of_lt (Nat.lt_of_lt_of_le (Heap.lt_size e) I.ok.above))).trans (I.base.keep b o e n hb hx)
    · obtain ⟨sl,e1⟩:=I.base.slot b o e n hb hx
      exact ⟨sl,(hs.2 b (Nat.ne_of_lt (Nat.lt_of_lt_of_le (Heap.lt_size e) I.ok.above))).trans e1⟩
    · obtain ⟨o',e1⟩:=I.base.there b o e hx
      exact ⟨o',(hs.2 b (Nat.ne_of_lt (Nat.lt_of_lt_of_le (Heap.lt_size e) I.ok.above))).trans e1⟩
    · by_cases hj:j=i
      · subst hj
        rw [hi] at e1; cases e1
        rw [List.getElem?_set_self hiσ] at e2
        cases e2
        exact ⟨u,r,.inl ⟨hk,by simp⟩⟩
      · rw [List.getElem?_set_ne (Ne.symm hj)] at e2
        obtain ⟨u',r',q⟩:=hl j y v' e1 e2 e3
        refine ⟨u',r',?_⟩
        rcases q with ⟨k,e⟩ | ⟨k,c,e,z⟩
        · refine .inl ⟨k,?_⟩
          have:y≠x:=fun e=>hj (Mz hN e1 (e ▸ hi))
          simp [this,e]
        · exact .inr ⟨k,c,e,z.sameBut hs (cne y c e)⟩
    · obtain ⟨w',z⟩:=I.cell y c e
      exact ⟨w',z.sameBut hs (cne y c e)⟩
    · obtain ⟨e,n,ne,nf,d⟩:=I.pin p hp
      exact ⟨(hs.2 p.1 ne).trans e,n,ne,nf,d⟩
  · have hfn:X.fn x=true:=by
      rcases hf with z | z
      · exact z
      · rw [z] at hk; cases hk
    obtain ⟨c,hc⟩:=I.ok.has x (.inl hk)
    obtain ⟨w',z⟩:=I.cell x c hc
    refine wpAny_storeName_cell I.ok.kind hk hc z (fun h' hc' hs=>?_)
    obtain ⟨oc,hoc,hocd⟩:=id z
    refine h { s with heap:=h' } ⟨I.ok,I.os,I.bare,⟨fun b o e n hb hx=>?_,fun b o e n hb hx=>?_,I.base.free,fun b o e hx=>?_,I.base.tups,I.base.frzs,I.base.tbls⟩,⟨m,hn.sameBut hs (Ne.symm (cne x c hc)),fun j y v' e1 e2 e3=>?_⟩,fun y c' e=>?_,I.free,I.freeC,fun p hp=>?_,tracked ⟨oc,hoc,I.freeC x c hc⟩ hs,by simpa using I.len⟩ ⟨c,hs,.inr hc⟩
    · exact (hs.2 b (Nat.ne_of_lt (Nat.lt_of_lt_of_le (Heap.lt_size e) (I.ok.cab x c hfn hc)))).trans (I.base.keep b o e n hb hx)
    · obtain ⟨sl,e1⟩:=I.base.slot b o e n hb hx
      exact ⟨sl,(hs.2 b (Nat.ne_of_lt (Nat.lt_of_lt_of_le (Heap.lt_size e) (I.ok.cab x c hfn hc)))).trans e1⟩
    · obtain ⟨o',e1⟩:=I.base.there b o e hx
      exact ⟨o',(hs.2 b (Nat.ne_of_lt (Nat.lt_of_lt_of_le (Heap.lt_size e) (I.ok.cab x c hfn hc)))).trans e1⟩
    · by_cases hj:j=i
      · subst hj
        rw [hi] at e1; cases e1
        rw [List.getElem?_set_self hiσ] at e2
        cases e2
        exact ⟨u,r,.inr ⟨.inl hk,c,hc,hc'⟩⟩
      · rw [List.getElem?_set_ne (Ne.symm hj)] at e2
        obtain ⟨u',r',q⟩:=hl j y v' e1 e2 e3
        refine ⟨u',r',?_⟩
        rcases q with q | ⟨k,c',e,z'⟩
        · exact .inl q
        · refine .inr ⟨k,c',e,z'.sameBut hs ?_⟩
          rintro rfl
          exact hj (Mz hN e1 (I.ok.inj _ _ _ e hc ▸ hi))
    · by_cases hcc:c'=c
      · subst hcc; exact ⟨_,hc'⟩
      · obtain ⟨w2,z2⟩:=I.cell y c' e
        exact ⟨w2,z2.sameBut hs hcc⟩
    · obtain ⟨e,n,ne,nf,d⟩:=I.pin p hp
      refine ⟨(hs.2 p.1 ?_).trans e,n,ne,nf,d⟩
      intro q
      rw [q,hoc] at e
      have q':oc=p.2:=Option.some.inj e
      exact d w' (by rw [← q']; exact hocd)
theorem Nt {M:Model} {A:Around} {E:Value→Shared→Prop} {i:Nat} {x:Str} {v:V} {u:Value} {Q:Unit→Shared→Prop} (I:Inv X pins σ H s) (hN:X.N.Nodup) (hi:X.N[i]? = some x) (hx:Loc X.env.scope x) (r:RelV v u)
    (h:∀ s',Inv X pins (σ.set i (some v)) H s'→Q () s') (hf:X.fn x=true∨X.env.scope.names.lookup x=some .local:=by first | exact .inl rfl | exact .inr rfl | assumption):wpAny M A (storeName X.env x u) Q E s :=
  Zk I hN hi hx r (fun s' I' _=>h s' I') hf
theorem Inv.call' {s':Shared} {ch:List Addr} (I:Inv X pins σ H s) (ho:s'.os=s.os) (u:Un (frs X.stack) ch H H' s.heap s'.heap) (hok:HOk X.prog X.w H' s'.heap) (hg:AllBare s'.gens)
    (hch:∀ b∈ch,(b∈X.ex∨X.s₀.heap.objs.size≤b)∧b≠X.env.locals∧(∀ x c,X.env.cells.lookup x=some c→c≠b)∧∀ p∈X.pn++pins,p.1≠b):Inv X pins σ H' s':=by
  obtain ⟨h',g',d',t',o'⟩:=s'
  have e:o'=s.os:=ho
  subst e
  exact I.call (g':=g') (t':=t') (d':=d') u hok hg hch
end
abbrev XK:=Value→Option Addr→Hp→Prop
abbrev St:=List (Option V)
abbrev VK:=V→Hp→Prop
abbrev TE:=St→Hp→VK→Prop
abbrev TT:=St→Hp→(Bool→Hp→Prop)→Prop
abbrev TA:=St→Hp→(List V→Hp→Prop)→Prop
structure Ends where
  nx:St→Hp→Prop
  rt:VK
  bk:St→Hp→Prop:=fun _ _=>False
  ct:St→Hp→Prop:=fun _ _=>False
abbrev TS:=Ends→St→Hp→Prop
inductive EP (X:Cx) (pins:List (Addr × Obj)) (σ:St) (Q:VK) (u:Value) (s':Shared):Prop
  | mk (v:V) (H':Hp) (I:Inv X pins σ H' s') (r:RelV v u) (q:Q v H')
def TP (X:Cx) (pins:List (Addr × Obj)) (σ:St) (Q:Bool→Hp→Prop) (b:Bool) (s':Shared):Prop:=∃ H',Inv X pins σ H' s'∧Q b H'
inductive AP (X:Cx) (pins:List (Addr × Obj)) (σ:St) (Q:List V→Hp→Prop) (us:List Value) (s':Shared):Prop
  | mk (vs:List V) (H':Hp) (I:Inv X pins σ H' s') (r:Vals vs us) (q:Q vs H')
def SP (X:Cx) (pins:List (Addr × Obj)) (D:Ends) (f:Flow) (s':Shared):Prop :=
  match f with
  | .next=>∃ σ' H',Inv X pins σ' H' s'∧D.nx σ' H'
  | .brk=>∃ σ' H',Inv X pins σ' H' s'∧D.bk σ' H'
  | .cont=>∃ σ' H',Inv X pins σ' H' s'∧D.ct σ' H'
  | .ret u=>∃ v σ' H',Inv X pins σ' H' s'∧RelV v u∧D.rt v H'
def PE (X:Cx) (e:Expr) (t:TE):Prop :=
  ∀ (pins:List (Addr × Obj)) (s:Shared) (σ:St) (H:Hp) (Q:VK),Inv X pins σ H s→t σ H Q→wpAny (model X.prog X.w) X.A (eval e X.env) (EP X pins σ Q) X.xe s
def PT (X:Cx) (e:Expr) (t:TT):Prop :=
  ∀ (pins:List (Addr × Obj)) (s:Shared) (σ:St) (H:Hp) (Q:Bool→Hp→Prop),Inv X pins σ H s→t σ H Q→wpAny (model X.prog X.w) X.A (isTrue e X.env (eval e X.env)) (TP X pins σ Q) X.xe s
def PW (X:Cx) (e:Expr) (t:TT):Prop :=
  ∀ (whole:Sem Value) (pins:List (Addr × Obj)) (s:Shared) (σ:St) (H:Hp) (Q:Bool→Hp→Prop),Inv X pins σ H s→t σ H Q→wpAny (model X.prog X.w) X.A (isTrue e X.env whole) (TP X pins σ Q) X.xe s
theorem PW.pt {X:Cx} {e:Expr} {t:TT} (h:PW X e t):PT X e t:=h _
def PA (X:Cx) (es:List Expr) (t:TA):Prop :=
  ∀ (pos:Pos) (pins:List (Addr × Obj)) (s:Shared) (σ:St) (H:Hp) (Q:List V→Hp→Prop),Inv X pins σ H s→t σ H Q→wpAny (model X.prog X.w) X.A (spliced (backTo pos (starEach es X.env))) (AP X pins σ Q) X.xe s
def PS (X:Cx) (st:Stmt) (t:TS):Prop :=
  ∀ (pins:List (Addr × Obj)) (s:Shared) (σ:St) (H:Hp) (D:Ends),Inv X pins σ H s→t D σ H→wpAny (model X.prog X.w) X.A (exec st X.env) (SP X pins D) X.xe s
def PSs (X:Cx) (st:List Stmt) (t:TS):Prop :=
  ∀ (pins:List (Addr × Obj)) (s:Shared) (σ:St) (H:Hp) (D:Ends),Inv X pins σ H s→t D σ H→wpAny (model X.prog X.w) X.A (execs st X.env) (SP X pins D) X.xe s
theorem thn {α:Type} {t:Sem α} {Q Q':α→Shared→Prop} {M:Model} {A:Around} {E:Value→Shared→Prop} {s:Shared} (h:wpAny M A t Q E s) (hQ:∀ a s,Q a s→Q' a s):wpAny M A t Q' E s:=wpAny_mono h hQ fun _ _ x=>x
end L2
namespace L2
open PySem PySem.Spec PyProof.Rows
section
variable {X:Cx}
def W9 (i:Nat):TE:=fun σ H Q=>∃ v,σ[i]? = some (some v)∧Q v H
def tC (v:V):TE:=fun _ H Q=>Q v H
theorem Y6 {i:Nat} {x:Str} {pos:Pos} (hN:X.N[i]? = some x) (hv:Vis X.env.scope x) (hd:(x==("__debug__" : Str))=false:=by decide) (hcd:(x==("__classdict__" : Str))=false:=by decide):PE X (.Name x pos) (W9 i):=by
  intro pins s σ H Q I h
  obtain ⟨v,e,h⟩:=h
  obtain ⟨m,hn,hl⟩:=I.loc
  obtain ⟨u,r,l⟩:=hl i x v hN e hv
  have fin:EP X pins σ Q u s:=⟨v,H,I,r,h⟩
  rcases l with ⟨hk,hm⟩ | ⟨hk,c,hc,hcell⟩
  · exact wpAny_Name (wpAny_loadName_local I.ok.kind hk hn hm fin) hd
  · rcases hk with hk | hk
    · exact wpAny_Name (wpAny_loadName_cell I.ok.kind hk hc hcell fin) hd
    · exact wpAny_Name (wpAny_loadName_free I.ok.kind hk hc hcell fin hcd) hd
theorem a9i {i j pos}:PE X (.Constant (.int i) j pos) (tC (.int i)):=fun _ _ _ H _ I h=>wpAny_Constant_int ⟨.int i,H,I.tok _,⟨_,rfl⟩,h⟩
theorem ab4 {b j pos}:PE X (.Constant (.bool b) j pos) (tC (.bl b)):=fun _ _ _ H _ I h=>Constant_bool ⟨.bl b,H,I,rfl,h⟩
theorem a8x {j pos}:PE X (.Constant .none j pos) (tC .non):=fun _ _ _ H _ I h=>Constant_none ⟨.non,H,I,rfl,h⟩
theorem a8m {x j pos}:PE X (.Constant (.str x) j pos) (tC (.str x)):=fun _ _ _ H _ I h=>Calls.Constant_str ⟨.str x,H,I.tok _,⟨_,rfl⟩,h⟩
def Gl (X:Cx) (x:Str):Prop:=X.env.kindOf x=some .globalImplicit
theorem O2 {E:Value→Shared→Prop} {pins:List (Addr × Obj)} {s:Shared} {σ:St} {H:Hp} {x:Str} {u:Value} {pos:Pos} {Q:Value→Shared→Prop} (I:Inv X pins σ H s) (hg:Gl X x) (hm:X.mg x=some u) (h:Q u s)
    (hd:(x==("__debug__" : Str))=false:=by decide):wpAny (model X.prog X.w) X.A (eval (.Name x pos) X.env) Q E s :=
  Calls.Name_function_global I.ok.kind hg (Calls.loadGlobal_global (by rw [I.ok.glob]; exact I.mod.glob.keeps I.bk) hm h) hd
theorem Kd {E:Value→Shared→Prop} {pins:List (Addr × Obj)} {s:Shared} {σ:St} {H:Hp} {x:Str} {u:Value} {pos:Pos} {Q:Value→Shared→Prop} (I:Inv X pins σ H s) (hg:Gl X x) (hm:X.mg x=none) (hv:bootBuiltins x=some u) (h:Q u s)
    (hn:x ≠ "__name__" := by decide) (hd:(x==("__debug__" : Str))=false:=by decide):wpAny (model X.prog X.w) X.A (eval (.Name x pos) X.env) Q E s:=by
  obtain ⟨mb,h1,h2⟩:=I.mod.blt
  exact Calls.Name_function_global I.ok.kind hg (Calls.loadGlobal_builtin (by rw [I.ok.glob]; exact I.mod.glob.keeps I.bk) hm (by rw [I.ok.blt]; exact h1.keeps I.bk) ((h2 x hn).trans hv) h) hd
theorem Np {x:Str} {v:V} {u:Value} {pos:Pos} (hg:Gl X x) (hm:X.mg x=some u) (r:RelV v u) (hd:(x==("__debug__" : Str))=false:=by decide):PE X (.Name x pos) (tC v) :=
  fun _ _ _ H _ I h=>O2 I hg hm ⟨v,H,I,r,h⟩ hd
theorem Y9 {x:Str} {v:V} {u:Value} {pos:Pos} (hg:Gl X x) (hm:X.mg x=none) (hv:bootBuiltins x=some u) (r:RelV v u) (hn:x ≠ "__name__" := by decide) (hd:(x==("__debug__" : Str))=false:=by decide):PE X (.Name x pos) (tC v) :=
  fun _ _ _ H _ I h=>Kd I hg hm hv ⟨v,H,I,r,h⟩ hn hd
variable {a b:Expr} {ta tb:TE} {pos:Pos}
def tB (t:TE):TT:=fun σ H Q=>t σ H fun x H1=>∃ c,x=.bl c∧Q c H1
theorem a91 {e:Expr} {t:TE} (h:PE X e t) (he:∀ whole,isTrue e X.env whole=(do let v ← whole; standAt e.pos; holding [v] (truthy v)):=by intro _; rfl):PT X e (tB t):=by
  intro pins s σ H Q I hw
  refine isTrue_plain (thn (h pins s σ H _ I hw) fun v s1 z0=>?_) (he _)
  obtain ⟨x,H1,I1,r1,q1⟩:=z0
  obtain ⟨d,rfl,q⟩:=q1
  cases r1
  exact wpAny_truthy_bool ⟨H1,I1,q⟩
variable {tA tB':TT} {rest:List Expr}
def acn (t u:TT):TT:=fun σ H Q=>t σ H fun c H1=>if c=true then u σ H1 Q else Q false H1
def tOr (t u:TT):TT:=fun σ H Q=>t σ H fun c H1=>if c=true then Q true H1 else u σ H1 Q
def ada (t:TT):TT:=fun σ H Q=>t σ H fun c H1=>Q (!c) H1
theorem pw_and1 (ha:PT X a tA):PW X (.BoolOp .And [a] pos) tA:=by
  intro wh pins s σ H Q I h
  refine isTrue_and (thn (ha pins s σ H Q I h) fun c s1 e=>?_)
  cases c with
  | true=>exact isTrue_and_nil e
  | false=>exact e
theorem pw_or1 (ha:PT X a tA):PW X (.BoolOp .Or [a] pos) tA:=by
  intro wh pins s σ H Q I h
  refine isTrue_or (thn (ha pins s σ H Q I h) fun c s1 e=>?_)
  cases c with
  | false=>exact isTrue_or_nil e
  | true=>exact e
theorem pw_and (ha:PT X a tA) (hb:PW X (.BoolOp .And (b::rest) pos) tB'):PW X (.BoolOp .And (a::b::rest) pos) (acn tA tB'):=by
  intro wh pins s σ H Q I h
  refine isTrue_and (thn (ha pins s σ H _ I h) fun c s1 z0=>?_)
  obtain ⟨H1,I1,q1⟩:=z0
  cases c with
  | true=>exact hb wh pins s1 σ H1 Q I1 q1
  | false=>exact ⟨H1,I1,q1⟩
theorem pw_or (ha:PT X a tA) (hb:PW X (.BoolOp .Or (b::rest) pos) tB'):PW X (.BoolOp .Or (a::b::rest) pos) (tOr tA tB'):=by
  intro wh pins s σ H Q I h
  refine isTrue_or (thn (ha pins s σ H _ I h) fun c s1 z0=>?_)
  obtain ⟨H1,I1,q1⟩:=z0
  cases c with
  | true=>exact ⟨H1,I1,q1⟩
  | false=>exact hb wh pins s1 σ H1 Q I1 q1
theorem a83 (ha:PT X a tA):PT X (.UnaryOp .Not a pos) (ada tA):=by
  intro pins s σ H Q I h
  exact isTrue_not (ha pins s σ H (fun c H1=>Q (!c) H1) I h)
def aac (ta tb:TE):TE:=fun σ H Q=>ta σ H fun x H1=>∃ c,x=.bl c∧if c=true then tb σ H1 Q else Q (.bl false) H1
def aav (ta:TE):TE:=fun σ H Q=>ta σ H fun x H1=>∃ c,x=.bl c∧Q (.bl (!c)) H1
theorem a8d {op} {t:TE} (h:PE X a t):PE X (.BoolOp op [a] pos) t:=fun pins s σ H Q I hw=>BoolOp_one (h pins s σ H Q I hw)
theorem a7q (ha:PE X a ta) (hb:PE X (.BoolOp .And (b::rest) pos) tb):PE X (.BoolOp .And (a::b::rest) pos) (aac ta tb):=by
  intro pins s σ H Q I h
  refine BoolOp_and (thn (ha pins s σ H _ I h) fun v s1 z0=>?_)
  obtain ⟨x,H1,I1,r1,q1⟩:=z0
  obtain ⟨c,rfl,q1⟩:=q1
  cases r1
  refine wpAny_truthy_bool ?_
  cases c with
  | true=>exact hb pins s1 σ H1 Q I1 q1
  | false=>exact ⟨.bl false,H1,I1,rfl,q1⟩
theorem a95 (ha:PE X a ta):PE X (.UnaryOp .Not a pos) (aav ta):=by
  intro pins s σ H Q I h
  refine UnaryOp_ (thn (ha pins s σ H _ I h) fun v s1 z0=>?_)
  obtain ⟨x,H1,I1,r1,q1⟩:=z0
  obtain ⟨c,rfl,q1⟩:=q1
  cases r1
  exact not_of (wpAny_truthy_bool ⟨.bl (!c),H1,I1,rfl,q1⟩)
def tIf (t:TT) (ta tb:TE):TE:=fun σ H Q=>t σ H fun c H1=>if c=true then ta σ H1 Q else tb σ H1 Q
theorem a1p {c:Expr} (hc:PT X c tA) (ha:PE X a ta) (hb:PE X b tb):PE X (.IfExp c a b pos) (tIf tA ta tb):=by
  intro pins s σ H Q I h
  refine wpAny_IfExp (thn (hc pins s σ H _ I h) fun d s1 z0=>?_)
  obtain ⟨H1,I1,q1⟩:=z0
  cases d with
  | true=>exact ha pins s1 σ H1 Q I1 q1
  | false=>exact hb pins s1 σ H1 Q I1 q1
end
end L2
namespace L2
open PySem PySem.Spec PyProof.Rows
def SqL (K:PySem.W.Frag) (H:Hp) (a:Addr) (xs:List V):Prop :=
  Rd H a (.lst xs) ∨
    ∃ (o:Obj) (its:Array Value) (n:Nat),K.lookup a=some o∧o.cls=.type "list" ∧ o.dict=none∧o.data=.seq its n∧its.size≤sizeLine∧Vals xs its.toList
def SqT (K:PySem.W.Frag) (H:Hp) (a:Addr) (xs:List V):Prop :=
  Rd H a (.tup xs) ∨
    ∃ (o:Obj) (its:Array Value) (n:Nat),K.lookup a=some o∧o.cls=.type "tuple" ∧ o.dict=none∧o.data=.seq its n∧its.size≤sizeLine∧Vals xs its.toList
def adh:Value→Option V
  | .none=>some .non
  | .bool b=>some (.bl b)
  | .int i _=>some (.int i)
  | .str x _=>some (.str x)
  | .bytes b _=>some (.byt b)
  | .float b _=>some (.flt b)
  | .ref a=>some (.ref a)
  | .type n=>some (.ty n)
  | _=>none
theorem RelV.abs {x:V} {u:Value} (r:RelV x u):adh u=some x:=by
  cases x with
  | non=>cases r; rfl
  | bl _=>cases r; rfl
  | int _=>obtain ⟨t,rfl⟩:=r; rfl
  | str _=>obtain ⟨t,rfl⟩:=r; rfl
  | byt _=>obtain ⟨t,rfl⟩:=r; rfl
  | flt _=>obtain ⟨t,rfl⟩:=r; rfl
  | ref _=>cases r; rfl
  | ty _=>cases r; rfl
theorem RelV.inj {x y:V} {u:Value} (r:RelV x u) (q:RelV y u):x=y:=Option.some.inj (r.abs.symm.trans q.abs)
theorem Vals.inj {xs ys:List V} {us:List Value} (h:Vals xs us):Vals ys us→xs=ys:=by
  induction h generalizing ys with
  | nil=>intro k; cases k; rfl
  | cons r t ih=>intro k; cases k with | cons r' t'=>rw [r.inj r',ih t']
section
variable {X:Cx} {pins:List (Addr × Obj)} {σ:St} {H:Hp} {s:Shared} {a:Addr} {xs ys:List V}
theorem SqL.of {K:PySem.W.Frag} (h:H a=some (.lst xs)):SqL K H a xs:=.inl (.inl h)
theorem SqT.of {K:PySem.W.Frag} (h:H a=some (.tup xs)):SqT K H a xs:=.inl (.inl h)
theorem Inv.list (I:Inv X pins σ H s) (h:SqL X.K H a xs):∃ its:List Value,Vals xs its∧PlainL s.heap a its.toArray∧xs.length≤sizeLine:=by
  rcases h with h | ⟨o,its,n,hk,hc,hd,hs,hz,r⟩
  · obtain ⟨z,its,n,r,e⟩:=h.ok I.hok
    exact ⟨its,r,⟨_,n,e,rfl,rfl,rfl⟩,z⟩
  · refine ⟨its.toList,r,⟨o,n,I.kIn a o hk,hc,hd,by simpa using hs⟩,?_⟩
    have e:=r.length
    simp only [Array.length_toList] at e
    omega
theorem Inv.tuple (I:Inv X pins σ H s) (h:SqT X.K H a xs):∃ its:List Value,Vals xs its∧IsTup s.heap a its.toArray∧xs.length≤sizeLine:=by
  rcases h with h | ⟨o,its,n,hk,hc,hdn,hs,hz,r⟩
  · obtain ⟨z,its,r,p⟩:=h.ok I.hok
    exact ⟨its,r,p.is,z⟩
  · refine ⟨its.toList,r,⟨o,I.kIn a o hk,hc,n,by simpa using hs⟩,?_⟩
    have e:=r.length
    simp only [Array.length_toList] at e
    omega
theorem Inv.a8z (I:Inv X pins σ H s) (h:SqT X.K H a xs):∃ its:List Value,Vals xs its∧a0j s.heap a its.toArray∧xs.length≤sizeLine:=by
  rcases h with h | ⟨o,its,n,hk,hc,hdn,hs,hz,r⟩
  · obtain ⟨z,its,r,p⟩:=h.ok I.hok
    exact ⟨its,r,p,z⟩
  · refine ⟨its.toList,r,⟨o,I.kIn a o hk,hc,hdn,n,by simpa using hs⟩,?_⟩
    have e:=r.length
    simp only [Array.length_toList] at e
    omega
theorem Inv.V8 (I:Inv X pins σ H s) (h:SqL X.K H a xs) (h':SqL X.K H a ys):xs=ys:=by
  obtain ⟨its,r,⟨o,n,e,_,_,d⟩,_⟩:=I.list h
  obtain ⟨its',r',⟨o',n',e',_,_,d'⟩,_⟩:=I.list h'
  rw [e] at e'; cases e'
  rw [d] at d'
  injection d' with d1 _
  have:its=its':=by simpa using congrArg Array.toList d1
  subst this
  exact r.inj r'
theorem Inv.Xa (I:Inv X pins σ H s) (h:SqT X.K H a xs) (h':SqT X.K H a ys):xs=ys:=by
  obtain ⟨its,r,⟨o,e,_,n,d⟩,_⟩:=I.tuple h
  obtain ⟨its',r',⟨o',e',_,n',d'⟩,_⟩:=I.tuple h'
  rw [e] at e'; cases e'
  rw [d] at d'
  injection d' with d1 _
  have:its=its':=by simpa using congrArg Array.toList d1
  subst this
  exact r.inj r'
end
abbrev Cx.wish (X:Cx) (E:Value→Shared→Prop):Cx:={ X with xe:=E }
abbrev Cx.nox (X:Cx):Cx:=X.wish fun _ _=>False
theorem Cx.Ok.wish {X:Cx} (ok:X.Ok) (E:Value→Shared→Prop):(X.wish E).Ok :=
  ⟨ok.mod,ok.kind,ok.glob,ok.blt,ok.above,ok.inj,ok.has,ok.cab,ok.hd,ok.frames,ok.stk,ok.exf,ok.bs,ok.bsz,ok.noex,ok.exfs,ok.Ti,ok.frf⟩
theorem Cx.Ok.Dg {X:Cx} {E:Value→Shared→Prop} (ok:(X.wish E).Ok):X.Ok :=
  ⟨ok.mod,ok.kind,ok.glob,ok.blt,ok.above,ok.inj,ok.has,ok.cab,ok.hd,ok.frames,ok.stk,ok.exf,ok.bs,ok.bsz,ok.noex,ok.exfs,ok.Ti,ok.frf⟩
section
variable {X:Cx} {pins:List (Addr × Obj)} {σ:St} {H:Hp} {s:Shared} {E:Value→Shared→Prop}
theorem Inv.wish (I:Inv X pins σ H s) (E:Value→Shared→Prop):Inv (X.wish E) pins σ H s:=⟨I.ok.wish E,I.os,I.bare,I.base,I.loc,I.cell,I.free,I.freeC,I.pin,I.hok,I.len⟩
theorem Inv.Dg (I:Inv (X.wish E) pins σ H s):Inv X pins σ H s:=⟨I.ok.Dg,I.os,I.bare,I.base,I.loc,I.cell,I.free,I.freeC,I.pin,I.hok,I.len⟩
theorem SP.Dg {D:Ends} {f:Flow} {s':Shared} (h:SP (X.wish E) pins D f s'):SP X pins D f s':=by
  cases f with
  | next=>obtain ⟨σ',H',I,q⟩:=h; exact ⟨σ',H',I.Dg,q⟩
  | brk=>obtain ⟨σ',H',I,q⟩:=h; exact ⟨σ',H',I.Dg,q⟩
  | cont=>obtain ⟨σ',H',I,q⟩:=h; exact ⟨σ',H',I.Dg,q⟩
  | ret u=>obtain ⟨v,σ',H',I,r,q⟩:=h; exact ⟨v,σ',H',I.Dg,r,q⟩
theorem PE.nox {e:Expr} {t:TE} (h:PE X.nox e t):PE X e t:=fun pins s σ H Q I hw =>
  wpAny_mono (h pins s σ H Q (I.wish _) hw) (fun _ _ z7=>by obtain ⟨v,H',I',r,q⟩:=z7; exact ⟨v,H',I'.Dg,r,q⟩) fun _ _ z=>False.elim z
theorem PT.nox {e:Expr} {t:TT} (h:PT X.nox e t):PT X e t:=fun pins s σ H Q I hw =>
  wpAny_mono (h pins s σ H Q (I.wish _) hw) (fun _ _ z7=>by obtain ⟨H',I',q⟩:=z7; exact ⟨H',I'.Dg,q⟩) fun _ _ z=>False.elim z
theorem PSs.nox {st:List Stmt} {t:TS} (h:PSs X.nox st t):PSs X st t:=fun pins s σ H D I hw =>
  wpAny_mono (h pins s σ H D (I.wish _) hw) (fun _ _ q=>q.Dg) fun _ _ z=>False.elim z
end
section
variable {X:Cx} {st:Stmt} {rest:List Stmt} {t u:TS} {e:Expr} {te:TE} {pos:Pos}
def aap:TS:=fun D σ H=>D.nx σ H
def acs (t u:TS):TS:=fun D σ H=>t { D with nx:=u D } σ H
theorem a5d:PSs X [] aap:=fun _ _ σ H _ I h=>wpAny_execs_nil ⟨σ,H,I,h⟩
theorem Tt (h1:PS X st t) (h2:PSs X rest u):PSs X (st::rest) (acs t u):=by
  intro pins s σ H D I h
  refine wpAny_execs_cons (thn (h1 pins s σ H { D with nx:=u D } I h) fun f s1 q=>?_)
  cases f with
  | next =>
    obtain ⟨σ',H',I',q⟩:=q
    exact h2 pins s1 σ' H' D I' q
  | ret v=>exact q
  | brk=>exact q
  | cont=>exact q
theorem Ji (h1:PS X st t):PSs X [st] t:=by
  intro pins s σ H D I h
  refine wpAny_execs_cons (thn (h1 pins s σ H D I h) fun f s1 q=>?_)
  cases f with
  | next=>exact wpAny_execs_nil q
  | ret v=>exact q
  | brk=>exact q
  | cont=>exact q
theorem Inv.quiet {pins:List (Addr × Obj)} {σ:St} {H:Hp} {s:Shared} (I:Inv X pins σ H s):interactive X.env=false:=by simp [interactive,I.ok.kind]
def a6a (te:TE):TS:=fun D σ H=>te σ H fun _ H1=>D.nx σ H1
theorem Ao (he:PE X e te) (hs:swapsWith e none pos.line X.env=pure false:=by rfl):PS X (.Expr e pos) (a6a te):=by
  intro pins s σ H D I h
  exact wpAny_Expr_any (thn (he pins s σ H _ I h) fun v s1 z7=>by obtain ⟨x,H1,I1,r1,q1⟩:=z7; exact ⟨σ,H1,I1,q1⟩) I.quiet hs
def ad2 (te:TE):TS:=fun D σ H=>te σ H D.rt
theorem a84 (he:PE X e te):PS X (.Return (some e) pos) (ad2 te):=by
  intro pins s σ H D I h
  exact wpAny_Return_some (thn (he pins s σ H _ I h) fun v s1 z7=>by obtain ⟨x,H1,I1,r1,q1⟩:=z7; exact ⟨x,σ,H1,I1,r1,q1⟩)
def adb (c:TT) (t u:TS):TS:=fun D σ H=>c σ H fun b H1=>if b=true then t D σ H1 else u D σ H1
theorem a9d {c:Expr} {a b:List Stmt} {tc:TT} (hc:PT X c tc) (ha:PSs X a t) (hb:PSs X b u):PS X (.If c a b pos) (adb tc t u):=by
  intro pins s σ H D I h
  refine wpAny_If (thn (hc pins s σ H _ I h) fun d s1 z0=>?_)
  obtain ⟨H1,I1,q1⟩:=z0
  cases d with
  | true=>exact ha pins s1 σ H1 D I1 q1
  | false=>exact hb pins s1 σ H1 D I1 q1
end
abbrev TG:=V→St→Hp→(St→Hp→Prop)→Prop
abbrev TGs:=List V→St→Hp→(St→Hp→Prop)→Prop
def PG (X:Cx) (target:Expr) (t:TG):Prop :=
  ∀ (pins:List (Addr × Obj)) (s:Shared) (σ:St) (H:Hp) (v:V) (u:Value) (Q:St→Hp→Prop),Inv X pins σ H s→RelV v u→t v σ H Q →
    wpAny (model X.prog X.w) X.A (assign target X.env u) (fun _ s'=>∃ σ' H',Inv X pins σ' H' s'∧Q σ' H') X.xe s
def PGs (X:Cx) (ts:List Expr) (t:TGs):Prop :=
  ∀ (pins:List (Addr × Obj)) (s:Shared) (σ:St) (H:Hp) (vs:List V) (us:List Value) (Q:St→Hp→Prop),Inv X pins σ H s→Vals vs us→t vs σ H Q →
    wpAny (model X.prog X.w) X.A (assignInOrder ((assignEach ts X.env).map (·.2)) us) (fun _ s'=>∃ σ' H',Inv X pins σ' H' s'∧Q σ' H') X.xe s
abbrev abe:=V→V→V→Hp→(Hp→Prop)→Prop
def acd (X:Cx) (t:abe):Prop :=
  ∀ (pins:List (Addr × Obj)) (s:Shared) (σ:St) (H:Hp) (o i v:V) (ov iv u:Value) (Q:Hp→Prop),Inv X pins σ H s→RelV o ov→RelV i iv→RelV v u→t o i v H Q →
    wpAny (model X.prog X.w) X.A (setItem ov iv u) (fun _ s'=>∃ H',Inv X pins σ H' s'∧Q H') X.xe s
section
variable {X:Cx} {pos:Pos}
def Mv (i:Nat):TG:=fun v σ H Q=>Q (σ.set i (some v)) H
theorem gk {i:Nat} {x:Str} (hN:X.N.Nodup) (hi:X.N[i]? = some x) (hx:Loc X.env.scope x) (hf:X.fn x=true∨X.env.scope.names.lookup x=some .local:=by first | exact .inl rfl | exact .inr rfl | assumption):PG X (.Name x pos) (Mv i):=by
  intro pins s σ H v u Q I r h
  exact wpAny_assign_Name (Nt I hN hi hx r (fun s' I'=>⟨_,H,I',h⟩) hf)
def ac4:TGs:=fun vs σ H Q=>vs=[]∧Q σ H
def a8p (t:TG) (u:TGs):TGs:=fun vs σ H Q=>∃ v r,vs=v::r∧t v σ H fun σ' H'=>u r σ' H' Q
theorem Aw:PGs X [] ac4:=by
  intro pins s σ H vs us Q I r h
  obtain ⟨e,h⟩:=h
  subst e
  cases r
  exact assignInOrder_nil ⟨σ,H,I,h⟩
theorem j6 {e:Expr} {es:List Expr} {t:TG} {u:TGs} (h1:PG X e t) (h2:PGs X es u)
    (hs:(assignEach (e::es) X.env).map (·.2)=assign e X.env::(assignEach es X.env).map (·.2):=by rfl):PGs X (e::es) (a8p t u):=by
  intro pins s σ H vs us Q I r h
  obtain ⟨v,vr,e1,h⟩:=h
  subst e1
  cases r with
  | cons r rr =>
    rw [hs]
    refine assignInOrder_cons (thn (h1 pins s σ H _ _ _ I r h) fun _ s1 z0=>?_)
    obtain ⟨σ1,H1,I1,q1⟩:=z0
    exact h2 pins s1 σ1 H1 _ _ Q I1 rr q1
def acf (K:PySem.W.Frag) (n:Nat) (t:TGs):TG:=fun v σ H Q=>∃ a xs,v=.ref a∧SqT K H a xs∧xs.length=n∧t xs σ H Q
theorem Dy {es:List Expr} {k:Nat} {t:TGs} {n:Nat} (hc:X.calm=true) (h:PGs X es t)
    (hn:(assignEach es X.env).length=n:=by rfl) (hst:(assignEach es X.env).findIdx? (·.1)=none:=by rfl):PG X (.Tuple es k pos) (acf X.K n t):=by
  intro pins s σ H v u Q I r hw
  obtain ⟨a,xs,e1,hq,hl,hw⟩:=hw
  subst e1
  cases r
  obtain ⟨its,rv,ht,hz⟩:=I.tuple hq
  refine assign_Tuple_tuple (I.ok.hd hc) ht (by simp [hn,← hl,rv.length]) hst fun h' hx=>?_
  have I1:Inv X pins σ H { s with heap:=h' }:=I.kept (t':=s.toks) fun b o e=>hx b o (Nat.ne_of_lt (Heap.lt_size e)) e
  exact h pins _ σ H xs _ Q I1 (by simpa using rv) hw
def acg (to ti:TE) (t:abe):TG:=fun v σ H Q=>to σ H fun o H1=>ti σ H1 fun i H2=>t o i v H2 fun H3=>Q σ H3
theorem Tj {o i:Expr} {to ti:TE} {t:abe} (ho:PE X o to) (hi:PE X i ti) (hs:acd X t)
    (ha:∀ v,assign (.Subscript o i pos) X.env v=(do
      let ov ← holding [v] (eval o X.env)
      let iv ← holding [v,ov] (eval i X.env)
      standAt pos
      holding [v,ov,iv] (setItem ov iv v)
      release [v,ov,iv] []):=by intro _; rfl):PG X (.Subscript o i pos) (acg to ti t):=by
  intro pins s σ H v u Q I r h
  rw [ha]
  refine wpAny_bind (wpAny_holding (thn (ho pins s σ H _ I h) fun ov s1 z0=>?_))
  obtain ⟨x,H1,I1,r1,q1⟩:=z0
  refine wpAny_bind (wpAny_holding (thn (hi pins s1 σ H1 _ I1 q1) fun iv s2 z0=>?_))
  obtain ⟨y,H2,I2,r2,q2⟩:=z0
  refine wpAny_bind (wpAny_standAt (wpAny_bind (wpAny_holding (thn (hs pins s2 σ H2 x y v ov iv u _ I2 r1 r2 r q2) fun _ s3 z0=>?_))))
  obtain ⟨H3,I3,q3⟩:=z0
  exact wpAny_release ⟨σ,H3,I3,q3⟩
def a3p (te:TE) (g:TG):TS:=fun D σ H=>te σ H fun x H1=>g x σ H1 D.nx
theorem Hu {tg e:Expr} {te:TE} {g:TG} (he:PE X e te) (hg:PG X tg g) (hs:swapsWithSole [tg] e pos.line X.env=pure false:=by rfl) (hw:swappedStores [tg] e X.env=pure none:=by rfl)
    (h1:(assignEach [tg] X.env).map (·.2)=[assign tg X.env]:=by rfl):PS X (.Assign [tg] e pos) (a3p te g):=by
  intro pins s σ H D I h
  refine wpAny_Assign_stores (thn (he pins s σ H _ I h) fun v s1 z0=>?_) hs hw
  obtain ⟨x,H1,I1,r1,q1⟩:=z0
  rw [h1]
  exact thn (hg pins s1 σ H1 x v _ I1 r1 q1) fun _ s2 q=>q
theorem iu {i:Nat} {x:Str} {e:Expr} {te:TE} {pos':Pos} (hN:X.N.Nodup) (hi:X.N[i]? = some x) (hx:Loc X.env.scope x) (he:PE X e te) (hs:swapsWith e (some (.Name x pos')) pos.line X.env=pure false:=by rfl) (hf:X.fn x=true∨X.env.scope.names.lookup x=some .local:=by first | exact .inl rfl | exact .inr rfl | assumption) :
    PS X (.Assign [.Name x pos'] e pos) (a3p te (Mv i)):=by
  intro pins s σ H D I h
  refine wpAny_Assign_Name (thn (he pins s σ H _ I h) fun v s1 z0=>?_) hs
  obtain ⟨y,H1,I1,r1,q1⟩:=z0
  exact Nt I1 hN hi hx r1 (fun s2 I2=>⟨_,H1,I2,q1⟩) hf
end
section
variable {X:Cx} {pos:Pos}
end
structure It where
  go:Nat→Hp→Prop
  yld:Nat→Hp→V→Hp→Prop
  stop:Nat→Hp→Prop
def Ra (X:Cx) (pins:List (Addr × Obj)) (H:Hp) (b:Addr):Prop :=
  H b=none∧b≠X.env.locals∧b∉X.fs∧(b∈X.ex∨X.s₀.heap.objs.size≤b)∧(∀ x c,X.env.cells.lookup x=some c→c≠b)∧∀ p∈X.pn++pins,p.1≠b
theorem Inv.a7f {X:Cx} {pins:List (Addr × Obj)} {σ:St} {H H':Hp} {s:Shared} {b:Addr} (I:Inv X pins σ H s) (hb:s.heap.objs.size≤b) (hn:H' b=none):Ra X pins H' b:=by
  refine ⟨hn,Nat.ne_of_gt (Nat.lt_of_lt_of_le I.lt hb),I.ade hb,.inr (Nat.le_trans I.sz hb),fun x c e z=>?_,fun p hp z=>?_⟩
  · obtain ⟨v,q⟩:=I.cell x c e
    exact absurd (Nat.lt_of_lt_of_le q.lt (by rw [z]; exact hb)) (Nat.lt_irrefl _)
  · exact absurd (Nat.lt_of_lt_of_le (Heap.lt_size (I.pin p hp).1) (by rw [z]; exact hb)) (Nat.lt_irrefl _)
structure Turn (P:Program) (w:World) (K:PySem.W.Frag) (tg:Expr) (J:It) (fp:List Addr) (it:Addr) (tn:Nat→Heap→Prop):Prop where
  mem:it∈fp
  obj:∀ i h,tn i h→∀ b∈fp,∃ o,h.get? b=some o∧∀ v,o.data≠.cell v
  keep:∀ i h h',tn i h→(∀ b∈fp,∀ o,h.get? b=some o→h'.get? b=some o)→tn i h'
  item:∀ (X:Cx),X.prog=P→X.w=w→X.K=K→X.calm=true→∀ (i:Nat) (pins:List (Addr × Obj)) (s:Shared) (σ:St) (H:Hp) (E:Value→Shared→Prop),Inv X pins σ H s→(∀ b∈fp,Ra X pins H b)→tn i s.heap→J.go i H →
    wpAny (model P w) X.A (pyNext (.ref it)) (fun r s1=>∃ u,r=some u ∧
      wpAny (model P w) X.A (letOwnedTupleGo tg (.ref it) u) (fun _ s2=>∃ x H',Inv X pins σ H' s2∧RelV x u∧J.yld i H x H'∧tn (i+1) s2.heap∧∀ b∈fp,H' b=none) E s1) E s
  done:∀ (X:Cx),X.prog=P→X.w=w→X.K=K→X.calm=true→∀ (i:Nat) (pins:List (Addr × Obj)) (s:Shared) (σ:St) (H:Hp) (E:Value→Shared→Prop),Inv X pins σ H s→(∀ b∈fp,Ra X pins H b)→tn i s.heap→J.stop i H →
    wpAny (model P w) X.A (pyNext (.ref it)) (fun r s1=>r=none∧Inv X pins σ H s1) E s
  self:∀ (A:Around) (i:Nat) (s:Shared) (Q:Value→Shared→Prop) (E:Value→Shared→Prop),tn i s.heap→Q (.ref it) s→wpAny (model P w) A (pyIter (.ref it)) Q E s
abbrev TI:=St→Hp→(It→Hp→Prop)→Prop
def PIE (X:Cx) (pins:List (Addr × Obj)) (σ:St) (tg:Expr) (R:It→Hp→Prop) (itv:Value) (s2:Shared):Prop :=
  ∃ (it:Addr) (fp:List Addr) (tn:Nat→Heap→Prop) (J:It) (H':Hp),itv=.ref it∧Inv X pins σ H' s2∧Turn X.prog X.w X.K tg J fp it tn∧tn 0 s2.heap∧(∀ b∈fp,Ra X pins H' b)∧R J H'
def PI (X:Cx) (tg iter:Expr) (wi:TI):Prop :=
  ∀ (pins:List (Addr × Obj)) (s:Shared) (σ:St) (H:Hp) (R:It→Hp→Prop),Inv X pins σ H s→wi σ H R →
    wpAny (model X.prog X.w) X.A (eval iter X.env) (fun v s1=>wpAny (model X.prog X.w) X.A (pyIter v) (PIE X pins σ tg R) X.xe s1) X.xe s
theorem a4u {M:Model} {A:Around} {E:Value→Shared→Prop} {s:Shared} {tg:Expr} {it:Addr} {u:Value} {o:Obj} {n:String} {vs:Array Value} {Q:Unit→Shared→Prop} (ho:s.heap.get? it=some o) (hc:o.cls=.type n) (hd:o.data=.fields vs)
    (hn:["enumerate","zip","dict_itemiterator","dict_reverseitemiterator","odict_iterator","itertools.zip_longest","itertools.pairwise"].contains n=false) (hQ:Q () s):wpAny M A (letOwnedTupleGo tg (.ref it) u) Q E s:=by
  unfold letOwnedTupleGo
  cases tg <;> first
    | exact wpAny_pure hQ
    | (cases u <;> first
        | exact wpAny_pure hQ
        | (refine wpAny_bind (wpAny_load ho ?_)
           rw [hc,hd]
           show wpAny M A (if (["enumerate","zip","dict_itemiterator","dict_reverseitemiterator","odict_iterator","itertools.zip_longest","itertools.pairwise"].contains n&&vs[0]? == some (rawInt _))=true then _ else _) Q E s
           rw [if_neg (by intro h; rw [hn,Bool.false_and] at h; cases h)]
           exact wpAny_pure hQ))
def Itl (K:PySem.W.Frag) (a:Addr):It :=
  ⟨fun i H=>∃ xs x,SqL K H a xs∧xs[i]? = some x,fun i H x H'=>H'=H∧∀ xs,SqL K H a xs→xs[i]? = some x,fun i H=>∃ xs,SqL K H a xs∧xs.length≤i⟩
def Itt (K:PySem.W.Frag) (a:Addr):It :=
  ⟨fun i H=>∃ xs x,SqT K H a xs∧xs[i]? = some x,fun i H x H'=>H'=H∧∀ xs,SqT K H a xs→xs[i]? = some x,fun i H=>∃ xs,SqT K H a xs∧xs.length≤i⟩
def Itr (lo:Int) (n:Nat):It:=⟨fun i _=>i<n,fun i H x H'=>H'=H∧x=.int (lo+i),fun i _=>n≤i⟩
theorem Yn {P:Program} {w:World} {K:PySem.W.Frag} {tg:Expr} (a it:Addr):Turn P w K tg (Itl K a) [it] it (fun i h=>h.IsListIter it a i) where
  mem:=by simp
  obj:=fun i h st b hb=>by
    have e:b=it:=by simpa using hb
    subst e
    obtain ⟨o,e,c,d⟩:=st
    exact ⟨o,e,fun v z=>by rw [d] at z; cases z⟩
  keep:=fun i h h' st k=>st.at fun o e=>k it (by simp) o e
  item:=by
    intro X hP hw hK hc i pins s σ H E I hf st hg
    subst hP hw hK
    obtain ⟨xs,x,hq,hx⟩:=hg
    obtain ⟨its,rv,p,hz⟩:=I.list hq
    obtain ⟨u,hu,ru⟩:=rv.get hx
    obtain ⟨f0,f1,f2,f3,f4,f5⟩:=hf it (by simp)
    refine wpAny_pyNext_list_item st p.isList (x:=u) (by simpa using hu) fun h' st' sb=>?_
    have I1:Inv X pins σ H { s with heap:=h' }:=I.turned (t':=s.toks) (fun b o hb e=>(sb.2 b hb).trans e) f0 f1 f3 f4 f5
    obtain ⟨o,e,c,d⟩:=id st'
    exact ⟨u,rfl,a4u (s:={ s with heap:=h' }) e c d (by decide) ⟨x,H,I1,ru,⟨rfl,fun ys hy=>by rw [I.V8 hy hq]; exact hx⟩,st',fun b hb=>(hf b hb).1⟩⟩
  done:=by
    intro X hP hw hK hc i pins s σ H E I hf st hg
    subst hP hw hK
    obtain ⟨xs,hq,hx⟩:=hg
    obtain ⟨its,rv,p,hz⟩:=I.list hq
    obtain ⟨f0,f1,f2,f3,f4,f5⟩:=hf it (by simp)
    have hl:=rv.length
    exact wpAny_pyNext_list_end (I.ok.hd hc) st p.isList (by simp; omega) fun h' eb=>⟨rfl,I.turned (t':=s.toks) (fun b o hb e=>eb b o hb e) f0 f1 f3 f4 f5⟩
  self:=fun _ _ _ _ _ st h=>wpAny_pyIter_listiter st h
theorem W5 {P:Program} {w:World} {K:PySem.W.Frag} {tg:Expr} (a it:Addr):Turn P w K tg (Itt K a) [it] it (fun i h=>h.IsTupleIter it a i) where
  mem:=by simp
  obj:=fun i h st b hb=>by
    have e:b=it:=by simpa using hb
    subst e
    obtain ⟨o,e,c,d⟩:=st
    exact ⟨o,e,fun v z=>by rw [d] at z; cases z⟩
  keep:=fun i h h' st k=>st.at fun o e=>k it (by simp) o e
  item:=by
    intro X hP hw hK hc i pins s σ H E I hf st hg
    subst hP hw hK
    obtain ⟨xs,x,hq,hx⟩:=hg
    obtain ⟨its,rv,p,hz⟩:=I.tuple hq
    obtain ⟨u,hu,ru⟩:=rv.get hx
    obtain ⟨f0,f1,f2,f3,f4,f5⟩:=hf it (by simp)
    refine wpAny_pyNext_tuple_item st (show s.heap.IsTuple a its.toArray from p) (x:=u) (by simpa using hu) fun h' st' sb=>?_
    have I1:Inv X pins σ H { s with heap:=h' }:=I.turned (t':=s.toks) (fun b o hb e=>(sb.2 b hb).trans e) f0 f1 f3 f4 f5
    obtain ⟨o,e,c,d⟩:=id st'
    exact ⟨u,rfl,a4u (s:={ s with heap:=h' }) e c d (by decide) ⟨x,H,I1,ru,⟨rfl,fun ys hy=>by rw [I.Xa hy hq]; exact hx⟩,st',fun b hb=>(hf b hb).1⟩⟩
  done:=by
    intro X hP hw hK hc i pins s σ H E I hf st hg
    subst hP hw hK
    obtain ⟨xs,hq,hx⟩:=hg
    obtain ⟨its,rv,p,hz⟩:=I.tuple hq
    obtain ⟨f0,f1,f2,f3,f4,f5⟩:=hf it (by simp)
    have hl:=rv.length
    exact wpAny_pyNext_tuple_end (I.ok.hd hc) st (show s.heap.IsTuple a its.toArray from p) (by simp; omega) fun h' eb=>⟨rfl,I.turned (t':=s.toks) (fun b o hb e=>eb b o hb e) f0 f1 f3 f4 f5⟩
  self:=fun _ _ _ _ _ st h=>wpAny_pyIter_tupleiter st h
theorem Vo {P:Program} {w:World} {K:PySem.W.Frag} {tg:Expr} (it:Addr) (lo:Int) (n:Nat):Turn P w K tg (Itr lo n) [it] it (fun i h=>IsRangeIter h it (lo+(i:Nat) * 1) ((n:Int) - (i:Nat)) 1) where
  mem:=by simp
  obj:=fun i h st b hb=>by
    have e:b=it:=by simpa using hb
    subst e
    exact ⟨_,st,fun v z=>by
      have z':Data.fields _=Data.cell v:=z
      cases z'⟩
  keep:=fun i h h' st k=>k it (by simp) _ st
  item:=by
    intro X hP hw hK hc i pins s σ H E I hf st hg
    subst hP hw hK
    obtain ⟨f0,f1,f2,f3,f4,f5⟩:=hf it (by simp)
    have W:=Walks.range (prog:=X.prog) (w:=X.w) (I.ok.hd hc) it lo 1 n
    refine W.item i s _ _ hg st fun v h' tk hv st' kk=>?_
    obtain ⟨t,rfl⟩:=hv
    have I1:Inv X pins σ H { s with heap:=h',toks:=tk }:=I.turned (fun b o hb e=>kk b o (by simpa using hb) e) f0 f1 f3 f4 f5
    refine ⟨_,rfl,a4u (s:={ s with heap:=h',toks:=tk }) (n := "range_iterator") st' rfl rfl (by decide) ⟨.int (lo+i),H,I1,⟨t,?_⟩,⟨rfl,rfl⟩,st',fun b hb=>(hf b hb).1⟩⟩
    rw [Int.mul_one]
  done:=by
    intro X hP hw hK hc i pins s σ H E I hf st hg
    subst hP hw hK
    obtain ⟨f0,f1,f2,f3,f4,f5⟩:=hf it (by simp)
    exact wpAny_pyNext_range_end (I.ok.hd hc) st (by have:n≤i:=hg; omega) fun h' eb=>⟨rfl,I.turned (t':=s.toks) (fun b o hb e=>eb b o hb e) f0 f1 f3 f4 f5⟩
  self:=fun _ _ _ _ _ st h=>wpAny_pyIter_rangeiter st h
end L2
namespace L2
open PySem PySem.Spec PyProof.Rows
section
variable {X:Cx} {tg:Expr}
theorem a0h {pins:List (Addr × Obj)} {σ:St} {H:Hp} {s:Shared} {R:It→Hp→Prop} {E:Value→Shared→Prop} {lo hi:Int} {t u v:Tok} {tk:Nat} (I:Inv X pins σ H s) (h1:-(2 ^ 62)≤lo) (h2:lo<2 ^ 62) (h3:-(2 ^ 62)≤hi) (h4:hi<2 ^ 62)
    (q:R (Itr lo (hi - lo).toNat) H):wpAny (model X.prog X.w) X.A (pyIter (.ref s.heap.objs.size)) (PIE X pins σ tg R) E { s with heap:=s.heap.push { cls:=.type "range",data:=.fields #[.int lo t,.int hi u,.int 1 v] },toks:=tk }:=by
  refine wpAny_pyIter_range (IsRange.new ..) (small_one h1 h2 h3 h4) ?_
  have I1:Inv X pins σ H { s with heap:=s.heap.push { cls:=.type "range",data:=.fields #[.int lo t,.int hi u,.int 1 v] },toks:=tk }:=I.kept fun b o e=>Heap.get?_push_of_some _ e
  refine ⟨(s.heap.push { cls:=.type "range",data:=.fields #[.int lo t,.int hi u,.int 1 v] }).objs.size,[(s.heap.push { cls:=.type "range",data:=.fields #[.int lo t,.int hi u,.int 1 v] }).objs.size],_,_,H,rfl,
    I1.kept (t':=tk) fun b o e=>Heap.get?_push_of_some _ e,Vo _ lo (hi - lo).toNat,?_,fun b hb=>?_,q⟩
  · have e1:lo+((0:Nat):Int) * 1=lo:=by simp
    have e2:(((hi - lo).toNat:Nat):Int) - ((0:Nat):Int)=Builtin.Range.rangeSize lo hi 1:=by rw [rangeSize_one]; split <;> omega
    show IsRangeIter _ _ (lo+((0:Nat):Int) * 1) ((((hi - lo).toNat:Nat):Int) - ((0:Nat):Int)) 1
    rw [e1,e2]
    exact Heap.get?_push_size _ rfl
  · have e:b=(s.heap.push { cls:=.type "range",data:=.fields #[.int lo t,.int hi u,.int 1 v] }).objs.size:=by simpa using hb
    subst e
    exact I1.a7f (Nat.le_refl _) (I1.hok.fresh (Nat.le_refl _))
def aa2 (ta:TA):TI:=fun σ H R=>ta σ H fun vs H1=>∃ j:Int,vs=[.int j]∧-(2 ^ 62)≤j∧j<2 ^ 62∧R (Itr 0 j.toNat) H1
theorem a03 {a:Expr} {ta:TA} {p pos:Pos} (hg:Gl X "range") (hm:X.mg "range" = none) (ha:PA X [a] ta) (hs:starEach [a] X.env=[(false,eval a X.env)]:=by rfl):PI X tg (.Call (.Name "range" p) [a] [] pos) (aa2 ta):=by
  intro pins s σ H R I h
  refine Call_ (Kd I hg hm boot_range (PyProof.Rows.callWith_type1 (thn (ha pos pins s σ H _ I h) fun us s1 z0=>?_) hs rfl))
  obtain ⟨vs,H1,I1,r1,q1⟩:=z0
  obtain ⟨j,e,q1,q2,q⟩:=q1
  subst e
  cases r1 with
  | cons r rr =>
    cases rr
    obtain ⟨t,rfl⟩:=r
    exact call_range_1 (a0h I1 (by omega) (by omega) q1 q2 (by simpa using q))
def ad9 (wi:TI) (g:TG) (tb:TS):TS:=fun D σ H=>wi σ H fun J H1=>∃ W:Nat→Nat→St→Hp→Prop,(∃ m,W 0 m σ H1)∧∀ i m σ H,W i m σ H →
  (J.stop i H∧D.nx σ H)∨(J.go i H∧∃ N:St→Hp→Prop,(∀ σ' H',N σ' H'→∃ m',m'<m∧W (i+1) m' σ' H')∧∀ x H',J.yld i H x H'→g x σ H' fun σ2 H2=>tb { D with nx:=N,ct:=N,bk:=D.nx } σ2 H2)
def Qn (fp:List Addr) (h:Heap):List (Addr × Obj):=fp.filterMap fun b=>(h.get? b).map fun o=>(b,o)
theorem Bm {fp:List Addr} {h:Heap} {b:Addr} {o:Obj} (hb:b∈fp) (e:h.get? b=some o):(b,o)∈Qn fp h:=List.mem_filterMap.mpr ⟨b,hb,by rw [e]; rfl⟩
theorem Yb {fp:List Addr} {h:Heap} {p:Addr × Obj} (hp:p∈Qn fp h):p.1∈fp∧h.get? p.1=some p.2:=by
  obtain ⟨b,hb,e⟩:=List.mem_filterMap.mp hp
  cases q:h.get? b with
  | none=>rw [q] at e; cases e
  | some o =>
    rw [q] at e
    have e':(b,o)=p:=Option.some.inj e
    subst e'
    exact ⟨hb,q⟩
theorem Inv.pinned {pins:List (Addr × Obj)} {σ:St} {H:Hp} {s:Shared} {fp:List Addr} (I:Inv X pins σ H s) (hf:∀ b∈fp,Ra X pins H b) (ho:∀ b∈fp,∃ o,s.heap.get? b=some o∧∀ v,o.data≠.cell v):Inv X (pins++Qn fp s.heap) σ H s :=
  I.Jt fun p hp=>(List.mem_append.mp hp).elim (fun z=>I.pin p (List.mem_append_right _ z)) fun z=>by
    obtain ⟨hb,e⟩:=Yb z
    obtain ⟨f0,f1,f2,_⟩:=hf p.1 hb
    obtain ⟨o,e',d⟩:=ho p.1 hb
    rw [e] at e'; cases e'
    exact ⟨e,f0,f1,f2,d⟩
theorem Inv.Ge {pins pl:List (Addr × Obj)} {σ:St} {H:Hp} {s:Shared} (I:Inv X (pins++pl) σ H s):Inv X pins σ H s:=I.Jt fun p hp=>I.pin p (List.mem_append_right _ (List.mem_append_left _ hp))
theorem a3z {iter:Expr} {body:List Stmt} {wi:TI} {g:TG} {tb:TS} {pos:Pos} (hp:PassesOwn (model X.prog X.w) X.A X.env X.xe) (hc:X.calm=true) (hi:PI X tg iter wi) (hg:PG X tg g) (hb:PSs X body tb)
    (hs:∀ x,foldedSetIterable iter X.env x=pure x:=by intro _; rfl):PS X (.For tg iter body [] pos) (ad9 wi g tb):=by
  intro pins s σ H D I h
  refine wpAny_For (thn (hi pins s σ H _ I h) fun v s1 h1=>thn h1 fun itv s2 h2=>?_) hs
  obtain ⟨it,fp,tn,J,H2,e,I2,T,st2,f2,W,⟨m0,w0⟩,turn⟩:=h2
  subst e
  have stat:∀ {H':Hp},(∀ b∈fp,H' b=none)→∀ b∈fp,Ra X pins H' b:=fun hn b hb=>⟨hn b hb,(f2 b hb).2⟩
  refine codeAny_forLoop_any (fun n s'=>∃ i σ' H',Inv X pins σ' H' s'∧tn i s'.heap∧(∀ b∈fp,H' b=none)∧W i n σ' H') ?_ m0 ⟨0,σ,H2,I2,st2,fun b hb=>(f2 b hb).1,w0⟩
  rintro n s3 ⟨i,σ3,H3,I3,st3,fr3,w3⟩
  rcases turn i n σ3 H3 w3 with ⟨stop,qn⟩ | ⟨go,N,hN,step⟩
  · refine wpAny_passesOwn hp (thn (T.done X rfl rfl rfl hc i pins s3 σ3 H3 X.xe I3 (stat fr3) st3 stop) fun r s4 z0=>?_)
    obtain ⟨hr,I4⟩:=z0
    subst hr
    exact wpAny_execs_nil ⟨σ3,H3,I4,qn⟩
  · refine wpAny_passesOwn hp (thn (T.item X rfl rfl rfl hc i pins s3 σ3 H3 X.xe I3 (stat fr3) st3 go) fun r s4 z0=>?_)
    obtain ⟨u,hr,h4⟩:=z0
    subst hr
    refine wpAny_passesOwn hp (thn h4 fun _ s5 z0=>?_)
    obtain ⟨x,H5,I5,r5,y5,st5,fr5⟩:=z0
    have I5':=I5.pinned (stat fr5) (T.obj _ _ st5)
    refine wpAny_passesOwn hp (thn (hg _ s5 σ3 H5 x u _ I5' r5 (step x H5 y5)) fun _ s6 z0=>?_)
    obtain ⟨σ6,H6,I6,q6⟩:=z0
    refine wpAny_passesOwn hp (thn (hb _ s6 σ6 H6 _ I6 q6) fun f s7 q7=>?_)
    have again:∀ {σ7:St} {H7:Hp},Inv X (pins++Qn fp s5.heap) σ7 H7 s7→N σ7 H7→∃ m,m<n∧∃ i σ' H',Inv X pins σ' H' s7∧tn i s7.heap∧(∀ b∈fp,H' b=none)∧W i m σ' H':=fun {σ7 H7} I7 n7=>by
      obtain ⟨m',hm,w7⟩:=hN σ7 H7 n7
      refine ⟨m',hm,i+1,σ7,H7,I7.Ge,T.keep _ _ _ st5 fun b hb o e=>(I7.pin (b,o) (List.mem_append_right _ (List.mem_append_right _ (Bm hb e)))).1,fun b hb=>?_,w7⟩
      obtain ⟨o,e,d⟩:=T.obj _ _ st5 b hb
      exact (I7.pin (b,o) (List.mem_append_right _ (List.mem_append_right _ (Bm hb e)))).2.1
    cases f with
    | next=>obtain ⟨σ7,H7,I7,n7⟩:=q7; exact again I7 n7
    | cont=>obtain ⟨σ7,H7,I7,n7⟩:=q7; exact again I7 n7
    | brk=>obtain ⟨σ7,H7,I7,q7⟩:=q7; exact ⟨σ7,H7,I7.Ge,q7⟩
    | ret v=>obtain ⟨x7,σ7,H7,I7,r7,q7⟩:=q7; exact ⟨x7,σ7,H7,I7.Ge,r7,q7⟩
end
end L2
namespace L2
open PySem PySem.Spec PyProof.Rows
abbrev R2:=V→V→Hp→VK→Prop
def OpR (X:Cx) (f:Value→Value→Sem Value) (r:R2):Prop :=
  ∀ (pins:List (Addr × Obj)) (s:Shared) (σ:St) (H:Hp) (x y:V) (v u:Value) (Q:VK),Inv X pins σ H s→RelV x v→RelV y u→r x y H Q →
    wpAny (model X.prog X.w) X.A (f v u) (EP X pins σ Q) X.xe s
def UnR (X:Cx) (f:Value→Sem Value) (r:V→Hp→VK→Prop):Prop :=
  ∀ (pins:List (Addr × Obj)) (s:Shared) (σ:St) (H:Hp) (x:V) (v:Value) (Q:VK),Inv X pins σ H s→RelV x v→r x H Q →
    wpAny (model X.prog X.w) X.A (f v) (EP X pins σ Q) X.xe s
def Eh (X:Cx) (f:Value) (r:List V→Hp→VK→Prop):Prop :=
  ∀ (pins:List (Addr × Obj)) (s:Shared) (σ:St) (H:Hp) (xs:List V) (us:List Value) (Q:VK),Inv X pins σ H s→Vals xs us→r xs H Q →
    wpAny (model X.prog X.w) X.A (call f us) (EP X pins σ Q) X.xe s
def tOp (r:R2) (ta tb:TE):TE:=fun σ H Q=>ta σ H fun x H1=>tb σ H1 fun y H2=>r x y H2 Q
def tUn (r:V→Hp→VK→Prop) (ta:TE):TE:=fun σ H Q=>ta σ H fun x H1=>r x H1 Q
def rI (C:Int→Int→Prop) (g:Int→Int→V):R2:=fun x y H Q=>∃ i j,x=.int i∧y=.int j∧C i j∧Q (g i j) H
def rI0 (g:Int→Int→V):R2:=fun x y H Q=>∃ i j,x=.int i∧y=.int j∧Q (g i j) H
def rU (g:Int→V):V→Hp→VK→Prop:=fun x H Q=>∃ i,x=.int i∧Q (g i) H
section
variable {X:Cx} {a b c:Expr} {ta tb tc:TE} {pos:Pos}
theorem abl (ha:PE X a ta) (hb:PE X b tb) {pins:List (Addr × Obj)} {s:Shared} {σ:St} {H:Hp} {R:V→V→Hp→Prop} (I:Inv X pins σ H s)
    (h:ta σ H fun x H1=>tb σ H1 fun y H2=>R x y H2) {Q:Value→Shared→Prop} {f:Value→Value→Sem Value}
    (hf:∀ v u s2 x y H2,Inv X pins σ H2 s2→RelV x v→RelV y u→R x y H2→wpAny (model X.prog X.w) X.A (f v u) Q X.xe s2) :
    wpAny (model X.prog X.w) X.A (eval a X.env) (fun v s₁=>wpAny (model X.prog X.w) X.A (eval b X.env) (fun u s₂=>wpAny (model X.prog X.w) X.A (f v u) Q X.xe s₂) X.xe s₁) X.xe s:=by
  refine thn (ha pins s σ H _ I h) fun v s1 z0=>?_
  obtain ⟨x,H1,I1,r1,q1⟩:=z0
  refine thn (hb pins s1 σ H1 _ I1 q1) fun u s2 z0=>?_
  obtain ⟨y,H2,I2,r2,q2⟩:=z0
  exact hf v u s2 x y H2 I2 r1 r2 q2
theorem a7m {op:Operator} {r:R2} (ho:OpR X (binaryOp op) r) (ha:PE X a ta) (hb:PE X b tb):PE X (.BinOp a op b pos) (tOp r ta tb):=by
  intro pins s σ H Q I h
  exact wpAny_BinOp (abl ha hb I h fun v u s2 x y H2 I2 rx ry q=>ho pins s2 σ H2 x y v u Q I2 rx ry q)
theorem abg {op:UnaryOp} {r:V→Hp→VK→Prop} (ho:UnR X (unaryOp op) r) (ha:PE X a ta):PE X (.UnaryOp op a pos) (tUn r ta):=by
  intro pins s σ H Q I h
  exact UnaryOp_ (thn (ha pins s σ H _ I h) fun v s1 z7=>by obtain ⟨x,H1,I1,r1,q1⟩:=z7; exact ho pins s1 σ H1 x v Q I1 r1 q1)
theorem opI {f:Value→Value→Sem Value} {C:Int→Int→Prop} {g:Int→Int→Int}
    (rule:∀ (i j:Int) (t u:Tok) (s:Shared) (Q:Value→Shared→Prop) (E:Value→Shared→Prop),C i j→Q (.int (g i j) s.toks) { s with toks:=s.toks+1 }→wpAny (model X.prog X.w) X.A (f (.int i t) (.int j u)) Q E s) :
    OpR X f (rI C fun i j=>.int (g i j)):=by
  intro pins s σ H x y v u Q I rx ry h
  obtain ⟨i,j,rfl,rfl,hc,q⟩:=h
  obtain ⟨t,rfl⟩:=rx
  obtain ⟨t',rfl⟩:=ry
  exact rule i j t t' s _ _ hc ⟨.int (g i j),H,I.tok _,⟨_,rfl⟩,q⟩
theorem ac8 {f:Value→Value→Sem Value} {g:Int→Int→Int}
    (rule:∀ (i j:Int) (t u:Tok) (s:Shared) (Q:Value→Shared→Prop) (E:Value→Shared→Prop),Q (.int (g i j) s.toks) { s with toks:=s.toks+1 }→wpAny (model X.prog X.w) X.A (f (.int i t) (.int j u)) Q E s) :
    OpR X f (rI0 fun i j=>.int (g i j)):=by
  intro pins s σ H x y v u Q I rx ry h
  obtain ⟨i,j,rfl,rfl,q⟩:=h
  obtain ⟨t,rfl⟩:=rx
  obtain ⟨t',rfl⟩:=ry
  exact rule i j t t' s _ _ ⟨.int (g i j),H,I.tok _,⟨_,rfl⟩,q⟩
theorem aby {f:Value→Value→Sem Value} {g:Int→Int→Bool}
    (rule:∀ (i j:Int) (t u:Tok) (s:Shared) (Q:Value→Shared→Prop) (E:Value→Shared→Prop),Q (.bool (g i j)) s→wpAny (model X.prog X.w) X.A (f (.int i t) (.int j u)) Q E s) :
    OpR X f (rI0 fun i j=>.bl (g i j)):=by
  intro pins s σ H x y v u Q I rx ry h
  obtain ⟨i,j,rfl,rfl,q⟩:=h
  obtain ⟨t,rfl⟩:=rx
  obtain ⟨t',rfl⟩:=ry
  exact rule i j t t' s _ _ ⟨.bl (g i j),H,I,rfl,q⟩
def acz (i j:Int):Prop:=0≤j∧j≤1000000∧i.natAbs<2 ^ 64
def abd (i j:Int):Prop:=(-(2 ^ 64)<i∧i<2 ^ 64)∨(-(2 ^ 64)<j∧j<2 ^ 64)
theorem abd.ok {i j:Int} (h:abd i j):IntMulOk i j:=by
  rcases h with ⟨h1,h2⟩ | ⟨h1,h2⟩
  · exact .of_left (intBits_le_64 h1 h2)
  · exact .of_right (intBits_le_64 h1 h2)
theorem a8o:OpR X (binaryOp .Add) (rI0 fun i j=>.int (i+j)):=ac8 fun _ _ _ _ _ _ _ q=>add_int q
theorem a7u:OpR X (binaryOp .Sub) (rI0 fun i j=>.int (i - j)):=ac8 fun _ _ _ _ _ _ _ q=>sub_int q
theorem a7t:OpR X (binaryOp .Mult) (rI abd fun i j=>.int (i * j)):=opI fun _ _ _ _ _ _ _ hc q=>mul_int q hc.ok
theorem a81:OpR X (binaryOp .Mod) (rI (fun _ j=>0<j) fun i j=>.int (i%j)):=opI fun i j _ _ _ _ _ hc q=>by
  have h1:(0:Int)<j:=hc
  exact mod_int' (by omega) (by rw [Int.fmod_eq_emod_of_nonneg i (by omega)]; exact q)
theorem a92:OpR X (binaryOp .Pow) (rI acz fun i j=>.int (i ^ j.toNat)):=opI fun _ _ _ _ _ _ _ hc q=>pow_int_small hc.1 hc.2.1 hc.2.2 q
theorem unI {f:Value→Sem Value} {g:Int→Int}
    (rule:∀ (i:Int) (t:Tok) (s:Shared) (Q:Value→Shared→Prop) (E:Value→Shared→Prop),Q (.int (g i) s.toks) { s with toks:=s.toks+1 }→wpAny (model X.prog X.w) X.A (f (.int i t)) Q E s) :
    UnR X f (rU fun i=>.int (g i)):=by
  intro pins s σ H x v Q I rx h
  obtain ⟨i,rfl,q⟩:=h
  obtain ⟨t,rfl⟩:=rx
  exact rule i t s _ _ ⟨.int (g i),H,I.tok _,⟨_,rfl⟩,q⟩
theorem a8e:UnR X (unaryOp .USub) (rU fun i=>.int (-i)):=unI fun _ _ _ _ _ q=>neg_int q
end
section
variable {X:Cx} {a b c:Expr} {ta tb tc:TE} {pos:Pos}
theorem a3t {pins:List (Addr × Obj)} {σ:St} {H:Hp} {s:Shared} {Q:VK} {k k':Bool} (I:Inv X pins σ H s) (q:Q (.bl k) H) (e:k=k'):EP X pins σ Q (.bool k') s:=by
  subst e
  exact ⟨.bl k,H,I,rfl,q⟩
theorem abj:OpR X (compareOp .Lt) (rI0 fun i j=>.bl (decide (i<j))):=aby fun _ _ _ _ _ _ _ q=>lt_int q
theorem a9y:OpR X (compareOp .LtE) (rI0 fun i j=>.bl (decide (i≤j))):=aby fun _ _ _ _ _ _ _ q=>le_int q
theorem aaq:OpR X (compareOp .Gt) (rI0 fun i j=>.bl (decide (j<i))):=aby fun _ _ _ _ _ _ _ q=>gt_int q
theorem a7o:OpR X (compareOp .Is) (fun x y H Q=>y=.non∧Q (.bl (decide (x=.non))) H):=by
  intro pins s σ H x y v u Q I rx ry h
  obtain ⟨rfl,q⟩:=h
  cases ry
  refine is_none_gen (a3t I q ?_)
  cases x <;> first
    | (cases rx; rfl)
    | (obtain ⟨t,rfl⟩:=rx; rfl)
theorem a5n:OpR X (compareOp .IsNot) (fun x y H Q=>y=.non∧Q (.bl (!decide (x=.non))) H):=by
  intro pins s σ H x y v u Q I rx ry h
  obtain ⟨rfl,q⟩:=h
  cases ry
  refine isnot_none_gen (a3t I q ?_)
  cases x <;> first
    | (cases rx; rfl)
    | (obtain ⟨t,rfl⟩:=rx; rfl)
theorem OpR.or {f:Value→Value→Sem Value} {r r':R2} (h:OpR X f r) (h':OpR X f r'):OpR X f (fun x y H Q=>r x y H Q∨r' x y H Q):=by
  intro pins s σ H x y v u Q I rx ry q
  rcases q with q | q
  · exact h pins s σ H x y v u Q I rx ry q
  · exact h' pins s σ H x y v u Q I rx ry q
theorem iz (b:Expr) {op:CmpOp} (h:op≠.In:=by decide) (h2:op≠.NotIn:=by decide):behindInMarks op b=false:=by
  have e1:(op==CmpOp.In)=false:=by cases op <;> first | rfl | exact absurd rfl h
  have e2:(op==CmpOp.NotIn)=false:=by cases op <;> first | rfl | exact absurd rfl h2
  cases b <;> simp [behindInMarks,e1,e2]
theorem a6p {op:CmpOp} {r:R2} (ho:OpR X (compareOp op) r) (ha:PE X a ta) (hb:PE X b tb) (hm:behindInMarks op b=false):PE X (.Compare a [op] [b] pos) (tOp r ta tb):=by
  intro pins s σ H Q I h
  exact wpAny_Compare1 (abl ha hb I h fun v u s2 x y H2 I2 rx ry q=>ho pins s2 σ H2 x y v u Q I2 rx ry q) hm
def a8l (t:TE):TT:=fun σ H Q=>t σ H fun x H'=>∃ k,x=.bl k∧Q k H'
theorem a5m {op:CmpOp} {r:R2} (ho:OpR X (compareOp op) r) (ha:PE X a ta) (hb:PE X b tb) (hm:behindInMarks op b=false):PT X (.Compare a [op] [b] pos) (a8l (tOp r ta tb)):=by
  intro pins s σ H Q I h
  refine wpAny_isTrue_Compare1 (thn (ha pins s σ H _ I h) fun v s1 ⟨x,H1,I1,r1,q1⟩=>thn (hb pins s1 σ H1 _ I1 q1) fun u s2 ⟨y,H2,I2,r2,q2⟩ =>
    thn (ho pins s2 σ H2 x y v u _ I2 r1 r2 q2) fun c s3 ⟨z,H3,I3,r3,k,e,q3⟩=>?_) hm
  subst e
  cases r3
  exact wpAny_truthy_bool ⟨H3,I3,q3⟩
theorem M5:(sizeLine:Nat)<2 ^ 63:=by rw [sizeLine_eq]; decide
theorem Vh:OpR X (binaryOp .Add) (fun x y H Q=>∃ i j,x=.str i∧y=.str j∧i.length+j.length≤sizeLine∧Q (.str (i++j)) H):=by
  intro pins s σ H x y v u Q I rx ry h
  obtain ⟨i,j,rfl,rfl,hz,q⟩:=h
  obtain ⟨t,rfl⟩:=rx
  obtain ⟨t',rfl⟩:=ry
  exact add_str (fun t' tk=>⟨.str (i++j),H,I.tok _,⟨_,rfl⟩,q⟩) hz
theorem vals1 {x:V} {us:List Value} (r:Vals [x] us):∃ u,us=[u]∧RelV x u:=by
  cases r with
  | cons r1 r2=>cases r2; exact ⟨_,rfl,r1⟩
end
end L2
namespace L2
open PySem PySem.Spec PyProof.Rows
structure abt (h:Heap) (x dx C:Addr) (mA:Str→Option Value):Prop where
  obj:h.get? x=some (PySem.W.instObj C dx)
  ns:h.Ns1 dx mA
  ne:dx≠x
theorem Zf {h:Heap} {dx:Addr} {mA:Str→Option Value} (n:h.Ns1 dx mA):∃ od,h.get? dx=some od∧∀ name,PySem.W.lookIn name od=some (mA name):=by
  obtain ⟨o,es,ep,ho,hd,hk,_,hm⟩:=n
  refine ⟨o,ho,fun name=>?_⟩
  have e:=hm name
  unfold nsFind findBy at e
  rw [← Array.find?_toList] at e
  unfold PySem.W.lookIn
  rw [hd]
  dsimp only
  split
  · rename_i y q
    rw [q] at e
    exact congrArg some e
  · rename_i q
    rw [q] at e
    have a:es.toList.any (·.refKey)=false:=by
      rw [List.any_eq_false]
      intro y hy
      obtain ⟨z,t,hkey⟩:=hk y (Array.mem_toList_iff.mp hy)
      simp [DictEntry.refKey,hkey]
    have a':¬ es.toList.any (·.refKey)=true:=by rw [a]; exact Bool.false_ne_true
    rw [if_neg a']
    exact congrArg some e
theorem abt.look {h:Heap} {x dx C:Addr} {mA:Str→Option Value} (I:abt h x dx C mA):∃ od,PySem.W.InstAt h x (PySem.W.instObj C dx) C (some od)∧∀ name,PySem.W.lookIn name od=some (mA name) :=
  let ⟨od,ho,hl⟩:=Zf I.ns
  ⟨od,⟨I.obj,rfl,rfl,ho⟩,hl⟩
section
variable {prog:Program} {w:World} {A:Around} {E:Value→Shared→Prop} {s:Shared} {K:PySem.W.Frag} {x dx C f:Addr} {mA:Str→Option Value} {name:Str} {v:Value}
end
theorem Qy.some_of {v:V} {o:Option Value} (r:Qy (some v) o):∃ u,o=some u∧RelV v u:=by
  cases o with
  | none=>exact (show False from r).elim
  | some u=>exact ⟨u,rfl,r⟩
theorem Qy.none_of {o:Option Value} (r:Qy none o):o=none:=by
  cases o with
  | none=>rfl
  | some u=>exact (show False from r).elim
section
variable {P:Program} {w:World} {H H':Hp} {h h':Heap} {a C dx:Addr} {fs fs':List (Str × V)}
theorem a68 (hok:HOk P w H h) (e:H a=some (.ins C dx fs)):∃ mA,abt h a dx C mA∧(∀ f,Qy (fs.lookup f) (mA f))∧PySem.Within mA (fs.map (·.1))∧fs.length≤1000∧H dx=some (.own a):=by
  obtain ⟨d,z,ne,ob,mA,n,r,q⟩:=(show su P w H h a (.ins C dx fs) from hok a _ e)
  exact ⟨mA,⟨ob,n,ne⟩,r,q,z,d⟩
end
structure Cls (K:PySem.W.Frag) (C:Addr):Prop where
  pg:PySem.W.plainGet K C Str.empty=true
  hd:PySem.W.hasDictIn K C=true
  po:PySem.W.plainOver K C=true
  sa:PySem.W.findIn K (.ref C) "__setattr__" = some (some (.builtin "object.__setattr__"))
theorem Cls.get {K:PySem.W.Frag} {C:Addr} (c:Cls K C) (f:Str):PySem.W.plainGet K C f=true:=c.pg
structure Con (K:PySem.W.Frag) (C:Addr) (f:Str) (v:V) (u:Value):Prop where
  at_:PySem.W.findIn K (.ref C) f=some (some u)
  rel:RelV v u
  get:PySem.W.specialIn K u "__get__" = some none
  cp:PySem.W.copiedNames.contains f=false
structure Meth (K:PySem.W.Frag) (C:Addr) (m:Str) (f:Addr):Prop where
  at_:PySem.W.findIn K (.ref C) m=some (some (.ref f))
  fn:PySem.W.isFn K (.ref f)=true
  kp:PySem.W.keepIn K (.ref f)=true
section
variable {X:Cx} {pins:List (Addr × Obj)} {σ:St} {H:Hp} {s:Shared} {a C dx:Addr} {fs:List (Str × V)} {f:Str} {v:V} {A:Around} {E:Value→Shared→Prop}
theorem a6w {prog:Program} {w:World} {env:Env} {e:Expr} {f:Str} {pos:Pos} {s:Shared} {Q:Value→Shared→Prop} (hb:attributeBase e f env (eval e env)=eval e env)
    (h:wpAny (model prog w) A (eval e env) (fun o s₁=>wpAny (model prog w) A (getAttr o f true) Q E s₁) E s):wpAny (model prog w) A (eval (.Attribute e f pos) env) Q E s :=
  Attribute_any_ h (by rw [arm_eval_Attribute,hb])
end
section
variable {X:Cx} {o e value:Expr} {f:Str} {pos pos' tpos:Pos} {ta tv:TE}
end
section
variable {X:Cx} {pins:List (Addr × Obj)} {σ:St} {H:Hp} {s:Shared} {A:Around} {E:Value→Shared→Prop} {Q:Value→Shared→Prop} {c:Value} {b:Bool}
inductive Wv (K:PySem.W.Frag) (H:Hp):V→Value→Prop where
  | non:Wv K H .non (.type "NoneType")
  | bl (x:Bool):Wv K H (.bl x) (.type "bool")
  | int (i:Int):Wv K H (.int i) (.type "int")
  | str (x:Str):Wv K H (.str x) (.type "str")
  | flt (x:UInt64):Wv K H (.flt x) (.type "float")
  | lst {a:Addr} {xs:List V} (e:H a=some (.lst xs)):Wv K H (.ref a) (.type "list")
  | frz {a:Addr} {o:Obj} {xs:List V} (e:H a=some (.frz o (.lst xs))):Wv K H (.ref a) (.type "list")
  | tup {a:Addr} {xs:List V} (e:H a=some (.tup xs)):Wv K H (.ref a) (.type "tuple")
  | dK {a:Addr} {kvs:List (Key × V)} (e:H a=some (.dK kvs)):Wv K H (.ref a) (.type "dict")
  | dT {a:Addr} {kvs:List (List Key × V)} (e:H a=some (.dT kvs)):Wv K H (.ref a) (.type "dict")
  | ins {a C dx:Addr} {fs:List (Str × V)} (e:H a=some (.ins C dx fs)) (cl:Cls K C) (ha:PySem.W.findIn K (.ref C) "__class__" = some (some (.builtin "object.__class__")))
      (hn:PySem.W.specialIn K (.builtin "object.__class__") "__get__" = some (some (.builtin "getset_descriptor.__get__"))) (htk:PySem.W.takesIn K (.builtin "object.__class__")=some true)
      (hm:PySem.W.mroIn K C (.type "object")=some true):Wv K H (.ref a) (.ref C)
theorem G9 {x:V} {u t:Value} (I:Inv X pins σ H s) (rx:RelV x u) (ty:Wv X.K H x t) (e:PySem.W.kitOne X.K t c=some b) (h:∀ tk,Q (.bool b) { s with toks:=tk }) :
    wpAny (model X.prog X.w) A (call (.builtin "isinstance") [u,c]) Q E s:=by
  cases ty with
  | non=>cases (show u=Value.none from rx); exact PySem.W.kia_one PySem.W.kitx_none I.kIn True.intro e (fun z=>nomatch z) h
  | bl y=>cases (show u=Value.bool y from rx); exact PySem.W.kia_one PySem.W.kitx_bool I.kIn True.intro e (fun z=>nomatch z) h
  | int i=>obtain ⟨t,q⟩:=(show ∃ t,u=Value.int i t from rx); cases q; exact PySem.W.kia_one PySem.W.kitx_int I.kIn True.intro e (fun z=>nomatch z) h
  | str y=>obtain ⟨t,q⟩:=(show ∃ t,u=Value.str y t from rx); cases q; exact PySem.W.kia_one PySem.W.kitx_str I.kIn True.intro e (fun z=>nomatch z) h
  | flt y=>obtain ⟨t,q⟩:=(show ∃ t,u=Value.float y t from rx); cases q; exact PySem.W.kia_one PySem.W.kitx_float I.kIn True.intro e (fun z=>nomatch z) h
  | @lst a xs ea =>
    cases (show u=Value.ref a from rx)
    obtain ⟨_,_,n,_,h1⟩:=(show su X.prog X.w H s.heap a (.lst xs) from I.hok a _ ea)
    exact PySem.W.kia_one PySem.W.kitx_list I.kIn ⟨_,h1,rfl⟩ e (fun z=>nomatch z) h
  | @frz a ob xs ea =>
    cases (show u=Value.ref a from rx)
    obtain ⟨_,_,_,n,_,h1⟩:=(show su X.prog X.w H s.heap a (.frz ob (.lst xs)) from I.hok a _ ea)
    exact PySem.W.kia_one PySem.W.kitx_list I.kIn ⟨_,h1,rfl⟩ e (fun z=>nomatch z) h
  | @tup a xs ea =>
    cases (show u=Value.ref a from rx)
    obtain ⟨_,_,_,p⟩:=(show su X.prog X.w H s.heap a (.tup xs) from I.hok a _ ea)
    obtain ⟨o,h1,h2,_⟩:=p
    exact PySem.W.kia_one PySem.W.kitx_tuple I.kIn ⟨o,h1,h2⟩ e (fun z=>nomatch z) h
  | @dK a kvs ea =>
    cases (show u=Value.ref a from rx)
    obtain ⟨_,_,vs,_,p⟩:=(show su X.prog X.w H s.heap a (.dK kvs) from I.hok a _ ea)
    obtain ⟨o,es,ep,h1,h2,_⟩:=p
    exact PySem.W.kia_one PySem.W.kitx_dict I.kIn ⟨o,h1,h2.1⟩ e (fun z=>nomatch z) h
  | @dT a kvs ea =>
    cases (show u=Value.ref a from rx)
    obtain ⟨_,_,xs,_,o,es,ep,h1,h2,_⟩:=(show su X.prog X.w H s.heap a (.dT kvs) from I.hok a _ ea)
    exact PySem.W.kia_one PySem.W.kitx_dict I.kIn ⟨o,h1,h2.1⟩ e (fun z=>nomatch z) h
  | @ins a C dx fs ea cl ha hn htk hm =>
    cases (show u=Value.ref a from rx)
    obtain ⟨mA,O,_⟩:=a68 I.hok ea
    obtain ⟨od,J,_⟩:=O.look
    exact PySem.W.kia_one (PySem.W.kitx_own (cl.get _) cl.hd ha hn htk hm) I.kIn J e (fun z=>nomatch z) h
end
end L2
namespace L2
open PySem PySem.Spec PyProof.Rows
structure Ei (k:Nat) (A:Around):Prop where
  hd:A.handled=none
  dp:A.depth+3 * k+5<recursionLimit
  un:A.units+16 * k+200<cLine
theorem Ei.mono {j k:Nat} {A:Around} (r:Ei k A) (h:j≤k):Ei j A:=⟨r.hd,by have:=r.dp; omega,by have:=r.un; omega⟩
theorem Ei.deeper {k:Nat} {A:Around} (r:Ei (k+1) A) (env:Env):Ei k (A.deeper env) :=
  ⟨r.hd,by have:=r.dp; show A.depth+1+3 * k+5<_; omega,by have:=r.un; show A.units+3+16 * k+200<_; omega⟩
theorem Wj {A:Around} {C:Addr} {us:List Value} {kw:List (Str × Value)}:(A.under (.builtin "type.__call__" ⟨.ref C::us,kw⟩)).depth=A.depth+1:=by
  first | rfl | simp [Around.under,Code.weight,Code.isCreation,Code.isGuard,Code.isCaller,Code.frames,Code.isFrame,guardIds]
theorem Wd {A:Around} {C:Addr} {us:List Value} {kw:List (Str × Value)}:(A.under (.builtin "type.__call__" ⟨.ref C::us,kw⟩)).units=A.units+1:=by
  first | rfl | simp [Around.under,Code.cUnits,Code.frames,Code.isFrame]
theorem Ei.make {k:Nat} {A:Around} (r:Ei (k+1) A) (C:Addr) (us:List Value) (kw:List (Str × Value)):Ei k (A.under (.builtin "type.__call__" ⟨.ref C::us,kw⟩)) :=
  ⟨r.hd,by have:=r.dp; rw [Wj]; omega,by have:=r.un; rw [Wd]; omega⟩
theorem Ei.depth {k:Nat} {A:Around} (r:Ei k A):A.depth<recursionLimit:=by have:=r.dp; omega
theorem Ei.units {k:Nat} {A:Around} (r:Ei k A):A.units+64<cLine:=by have:=r.un; omega
def a7e:TA:=fun _ H Q=>Q [] H
def Pj (ta:TE) (tr:TA):TA:=fun σ H Q=>ta σ H fun x H1=>tr σ H1 fun xs H2=>Q (x::xs) H2
section
variable {X:Cx} {e:Expr} {es:List Expr} {te:TE} {t:TA} {pos:Pos}
theorem wz:PA X [] a7e:=fun _ _ _ _ H Q I h=>Calls.spliced_nil ⟨[],H,I,.nil,h⟩
theorem jt (ha:PE X e te) (hr:PA X es t) (hs:starEach (e::es) X.env=(false,eval e X.env)::starEach es X.env:=by rfl):PA X (e::es) (Pj te t):=by
  intro pos pins s σ H Q I h
  rw [hs]
  show wpAny _ _ (spliced ((false,eval e X.env)::backTo pos (starEach es X.env))) _ _ s
  refine Calls.spliced_cons (thn (ha pins s σ H _ I h) fun u s1 z0=>?_)
  obtain ⟨x,H1,I1,r1,q1⟩:=z0
  exact thn (hr pos pins s1 σ H1 _ I1 q1) fun us s2 ⟨xs,H2,I2,r2,q2⟩=>⟨x::xs,H2,I2,.cons r1 r2,q2⟩
def ac7 (t:TA):TE:=fun σ H Q=>t σ H fun xs H1=>xs.length≤sizeLine∧∀ p,H1 p=none→Q (.ref p) (upd H1 p (.tup xs))
def acr (t:TA):TE:=fun σ H Q=>t σ H fun xs H1=>xs.length≤sizeLine∧∀ p,H1 p=none→Q (.ref p) (upd H1 p (.lst xs))
theorem a3q {x1} (h:PA X es t):PE X (.Tuple es x1 pos) (ac7 t):=by
  intro pins s σ H Q I hq
  refine wpAny_Tuple_spliced (thn (h pos pins s σ H _ I hq) fun us s1 ⟨xs,H1,I1,r,z,q⟩=>⟨by rw [← r.length]; exact z,?_⟩)
  have hf:H1 s1.heap.objs.size=none:=I1.hok.fresh (Nat.le_refl _)
  refine ⟨.ref s1.heap.objs.size,upd H1 s1.heap.objs.size (.tup xs),I1.laid (t':=s1.toks) (fun b u e=>Heap.get?_push_of_some _ e) (Nat.le_refl _) ?_,rfl,q _ hf⟩
  exact ⟨z,us,r,⟨_,Heap.get?_push_size _ rfl,rfl,rfl,_,rfl⟩⟩
theorem V0 (h:PA X es t):PE X (.List es pos) (acr t):=by
  intro pins s σ H Q I hq
  refine wpAny_List_spliced (thn (h pos pins s σ H _ I hq) fun us s1 ⟨xs,H1,I1,r,z,q⟩=>⟨by rw [← r.length]; exact z,?_⟩)
  have hf:H1 s1.heap.objs.size=none:=I1.hok.fresh (Nat.le_refl _)
  refine ⟨.ref s1.heap.objs.size,upd H1 s1.heap.objs.size (.lst xs),I1.laid (t':=s1.toks) (fun b u e=>Heap.get?_push_of_some _ e) (Nat.le_refl _) ?_,rfl,q _ hf⟩
  exact ⟨z,us,0,r,Heap.get?_push_size _ rfl⟩
end
abbrev Sp:=List V→Hp→VK→XK→Prop
abbrev CXT:=List Env→Hp→Shared→XK→Value→Shared→Prop
structure a5k (P:Program) (w:World) (K:PySem.W.Frag) (mg:Str→Option Value) (base:Heap) (A:Around) (outer:List Env) (s:Shared) (H:Hp):Prop where
  frames:A.frames=some outer
  mod:Mod K mg base
  bs:∀ b o,base.get? b=some o→s.heap.get? b=some o∧H b=none
  bsz:base.objs.size≤s.heap.objs.size
  Ti:s.heap.FunFrames base outer
  frf:∀ b∈frs outer,H b=none
  hok:HOk P w H s.heap
  bare:AllBare s.gens
def CE (outer:List Env) (P:Program) (w:World) (H:Hp) (s:Shared) (Q:VK) (u:Value) (s':Shared):Prop :=
  ∃ v H',s'.os=s.os∧AllBare s'.gens∧Un (frs outer) [] H H' s.heap s'.heap∧HOk P w H' s'.heap∧RelV v u∧Q v H'
def CR (CX:CXT) (outer:List Env) (P:Program) (w:World) (H:Hp) (s:Shared) (Q:VK) (E:XK) (r:Result) (s':Shared):Prop :=
  match r with
  | .ok (.ret u)=>CE outer P w H s Q u s'
  | .ok _=>False
  | .error e=>CX outer H s E e s'
structure Fg (P:Program) (w:World) (K:PySem.W.Frag) (mg:Str→Option Value) (base:Heap) (CX:CXT) (k:Nat) (f:Addr) (fd:FuncData) (ps:List Str) (sp:Sp):Prop where
  len:∀ vs H Q E,sp vs H Q E→vs.length=ps.length
  run:∀ (A:Around) (outer:List Env) (s:Shared) (H:Hp) (args:Args) (us:List Value) (vs:List V) (Q:VK) (E:XK),Ei k A→a5k P w K mg base A outer s H→BindsTo s fd args (ps.zip us)→Vals vs us→sp vs H Q E →
    codeAny (model P w) A (.call (.ref f) args) (CR CX outer P w H s Q E) s
theorem Fg.mono {P:Program} {w:World} {K:PySem.W.Frag} {mg:Str→Option Value} {base:Heap} {CX:CXT} {j k:Nat} {f:Addr} {fd:FuncData} {ps:List Str} {sp:Sp} (F:Fg P w K mg base CX j f fd ps sp) (h:j≤k) :
    Fg P w K mg base CX k f fd ps sp:=⟨F.len,fun A outer s H args us vs Q E hr=>F.run A outer s H args us vs Q E (hr.mono h)⟩
theorem Fg.imp {P:Program} {w:World} {K:PySem.W.Frag} {mg:Str→Option Value} {base:Heap} {CX:CXT} {k:Nat} {f:Addr} {fd:FuncData} {ps:List Str} {sp sp':Sp} (F:Fg P w K mg base CX k f fd ps sp)
    (h:∀ vs H Q E,sp' vs H Q E→sp vs H Q E):Fg P w K mg base CX k f fd ps sp' :=
  ⟨fun vs H Q E q=>F.len vs H Q E (h _ _ _ _ q),fun A outer s H args us vs Q E hr he hb hv hs=>F.run A outer s H args us vs Q E hr he hb hv (h _ _ _ _ hs)⟩
theorem a5k.make {P:Program} {w:World} {K:PySem.W.Frag} {mg:Str→Option Value} {base:Heap} {A:Around} {outer:List Env} {s:Shared} {H:Hp} (e:a5k P w K mg base A outer s H) (C:Addr) (us:List Value) (kw:List (Str × Value)) :
    a5k P w K mg base (A.under (.builtin "type.__call__" ⟨.ref C::us,kw⟩)) outer s H:=⟨by first | exact e.frames | (simpa [Around.under,Code.envs,Code.isFrame,pushEnvs] using e.frames),e.mod,e.bs,e.bsz,e.Ti,e.frf,e.hok,e.bare⟩
section
variable {X:Cx} {pins:List (Addr × Obj)} {σ:St} {H:Hp} {s s':Shared}
theorem Inv.env0 (I:Inv X pins σ H s):a5k X.prog X.w X.K X.mg X.base X.A X.stack s H :=
  ⟨I.ok.frames,I.ok.mod,I.bs,Nat.le_trans I.ok.bsz I.sz,I.stack,I.Rb,I.hok,I.bare⟩
theorem Inv.after {Q:VK} {u:Value} (I:Inv X pins σ H s) (h:CE X.stack X.prog X.w H s Q u s'):EP X pins σ Q u s':=by
  obtain ⟨v,H',os,bare,un,hok,r,q⟩:=h
  obtain ⟨hh,g,d,t,os'⟩:=s'
  obtain rfl:os'=s.os:=os
  exact ⟨v,H',I.call (h':=hh) (g':=g) (d':=d) (t':=t) (ch:=[]) un hok bare (fun b z=>absurd z (by simp)),r,q⟩
end
def aae (sp:Sp) (dvs:List V) (E:XK) (t:TA):TE:=fun σ H Q=>t σ H fun vs H1=>sp (vs++dvs) H1 Q E
def Binds (K:PySem.W.Frag) (fd:FuncData) (ps:List Str) (ds:List Value):Prop :=
  ∀ (s:Shared) (us:List Value),K.In s.heap→(us++ds).length=ps.length→BindsTo s fd ⟨us,[]⟩ (ps.zip (us++ds))
theorem Binds.all {K:PySem.W.Frag} {fd:FuncData} {ps:List Str} (h:∀ us:List Value,us.length=ps.length→bindArgs fd ⟨us,[]⟩=pure (ps.zip us)):Binds K fd ps []:=fun s us _ hl=>by
  rw [List.append_nil] at hl ⊢
  exact .of_eq (h us hl)
def Passes (CX:CXT) (X:Cx) (E:XK):Prop:=∀ (pins:List (Addr × Obj)) (σ:St) (H:Hp) (s:Shared) (e:Value) (s':Shared),Inv X pins σ H s→CX X.stack H s E e s'→X.xe e s'
section
variable {X:Cx} {CX:CXT} {k:Nat} {f C:Addr} {fd:FuncData} {ps:List Str} {sp:Sp} {dvs:List V} {ds:List Value} {E:XK} {x m:Str} {p pos apos:Pos} {e o:Expr} {es:List Expr} {ta:TE} {t:TA}
theorem a9p {pins:List (Addr × Obj)} {σ:St} {H:Hp} {s:Shared} {Q:VK} {us:List Value} {vs:List V} (F:Fg X.prog X.w X.K X.mg X.base CX k f fd ps sp) (hr:Ei k X.A) (hb:Binds X.K fd ps ds) (hd:Vals dvs ds) (hx:Passes CX X E)
    (I:Inv X pins σ H s) (r:Vals vs us) (h:sp (vs++dvs) H Q E):wpAny (model X.prog X.w) X.A (call (.ref f) us) (EP X pins σ Q) X.xe s:=by
  have r2:Vals (vs++dvs) (us++ds):=r.append hd
  have hl:(us++ds).length=ps.length:=by rw [← r2.length]; exact F.len _ _ _ _ h
  refine wpAny_call (codeAny_mono (F.run X.A X.stack s H ⟨us,[]⟩ (us++ds) (vs++dvs) Q E hr I.env0 (hb s us I.kIn hl) r2 h) fun r s' hq=>?_)
  cases r with
  | error e=>exact hx pins σ H s e s' I hq
  | ok fl =>
    cases fl with
    | ret u=>exact I.after hq
    | next=>exact False.elim hq
    | brk=>exact False.elim hq
    | cont=>exact False.elim hq
theorem a5h (F:Fg X.prog X.w X.K X.mg X.base CX k f fd ps sp) (hr:Ei k X.A) (hg:Gl X x) (hm:X.mg x=some (.ref f)) (hk:PySem.W.keepIn X.K (.ref f)=true) (hb:Binds X.K fd ps ds) (hd:Vals dvs ds) (hx:Passes CX X E)
    (ha:PA X (e::es) t) (hdb:(x==("__debug__" : Str))=false:=by decide) (he:starEach (e::es) X.env=(false,eval e X.env)::starEach es X.env:=by rfl) (hpl:(backTo pos (starEach es X.env)).any (·.1)=false:=by rfl) :
    PE X (.Call (.Name x p) (e::es) [] pos) (aae sp dvs E t):=by
  intro pins s σ H Q I h
  refine wpAny_Call_Name_kw (O2 I hg hm ?_ hdb)
  refine PySem.W.callWith_K (h₀:=X.base) I.ok.mod.kin hk (thn (ha pos pins s σ H _ I h) fun us s1 ⟨vs,H1,I1,r,q⟩=>⟨I1.kIn,?_⟩) he hpl
  exact a9p F hr hb hd hx I1 r q
structure Mk (K:PySem.W.Frag) (C f:Addr):Prop where
  makes:PySem.W.makesIn K C=true
  init:PySem.W.findIn K (.ref C) "__init__" = some (some (.ref f))
  fn:PySem.W.isFn K (.ref f)=true
  kp:PySem.W.keepIn K (.ref C)=true
end
section
variable {X:Cx} {CX:CXT} {k:Nat} {f C:Addr} {fd:FuncData} {ps ks:List Str} {sp:Sp} {E:XK} {x m:Str} {p pos apos kpos:Pos} {e o:Expr} {es:List Expr} {kws:List Keyword} {te ta:TE} {t tk:TA} {nm:Option Str}
structure ach (K:PySem.W.Frag) (fd:FuncData) (ps ks:List Str) (g:List Value→List Value→List Value) (gV:List V→List V→List V):Prop where
  to:∀ (s:Shared) (us ws:List Value),K.In s.heap→(g us ws).length=ps.length→BindsTo s fd ⟨us,ks.zip ws⟩ (ps.zip (g us ws))
  rel:∀ {vs:List V} {us:List Value} {zs:List V} {ws:List Value},Vals vs us→Vals zs ws→Vals (gV vs zs) (g us ws)
variable {g:List Value→List Value→List Value} {gV:List V→List V→List V}
end
structure jc (N P:List Str) (sc:Scope):Prop where
  kind:sc.kind=.function
  co:sc.isCoroutine=false
  gen:sc.isGenerator=false
  nd:N.Nodup
  pre:N.take P.length=P
  par:∀ x∈P,sc.names.lookup x=some .local∨sc.names.lookup x=some .cell
  nofree:∀ y∈sc.names,y.2≠.free
theorem Qa {kindOf:Str→Option NameKind} {x:Str}:∀ {binds:List (Str × Value)} {m:Str→Option Value},(∀ v,(x,v)∉binds)→bindL kindOf binds m x=m x
  | [],_,_=>rfl
  | (n,v)::r,m,h=>by
    unfold bindL
    rw [Qa fun w hw=>h w (List.mem_cons_of_mem _ hw)]
    split
    · have:x≠n:=by rintro rfl; exact h v List.mem_cons_self
      simp [this]
    · rfl
theorem Qx {kindOf:Str→Option NameKind} {x:Str}:∀ {binds:List (Str × Value)} {m:Str→Option Value},(∀ v,(x,v)∉binds)→bindC kindOf binds m x=m x
  | [],_,_=>rfl
  | (n,v)::r,m,h=>by
    unfold bindC
    rw [Qx fun w hw=>h w (List.mem_cons_of_mem _ hw)]
    split
    · rfl
    · have:x≠n:=by rintro rfl; exact h v List.mem_cons_self
      simp [this]
theorem P0 {kindOf:Str→Option NameKind} {x:Str} {v:Value}:∀ {P:List Str} {vs:List Value} {i:Nat} {m:Str→Option Value},P.Nodup→P[i]? = some x→vs[i]? = some v→kindOf x=some .local →
    bindL kindOf (P.zip vs) m x=some v
  | [],_,_,_,_,h,_,_=>by simp at h
  | _::_,[],_,_,_,_,h,_=>by simp at h
  | p::P,w::vs,0,m,nd,h1,h2,hk=>by
    simp at h1 h2; subst h1; subst h2
    show bindL kindOf ((p,w)::P.zip vs) m p=_
    unfold bindL
    rw [Qa fun v hv=>(List.nodup_cons.mp nd).1 (List.of_mem_zip hv).1,if_pos hk]
    simp
  | p::P,w::vs,i+1,m,nd,h1,h2,hk=>by
    show bindL kindOf ((p,w)::P.zip vs) m x=_
    unfold bindL
    exact P0 (i:=i) (List.nodup_cons.mp nd).2 (by simpa using h1) (by simpa using h2) hk
theorem Qw {kindOf:Str→Option NameKind} {x:Str} {v:Value}:∀ {P:List Str} {vs:List Value} {i:Nat} {m:Str→Option Value},P.Nodup→P[i]? = some x→vs[i]? = some v→kindOf x≠some .local →
    bindC kindOf (P.zip vs) m x=some v
  | [],_,_,_,_,h,_,_=>by simp at h
  | _::_,[],_,_,_,_,h,_=>by simp at h
  | p::P,w::vs,0,m,nd,h1,h2,hk=>by
    simp at h1 h2; subst h1; subst h2
    show bindC kindOf ((p,w)::P.zip vs) m p=_
    unfold bindC
    rw [Qx fun v hv=>(List.nodup_cons.mp nd).1 (List.of_mem_zip hv).1,if_neg hk]
    simp
  | p::P,w::vs,i+1,m,nd,h1,h2,hk=>by
    show bindC kindOf ((p,w)::P.zip vs) m x=_
    unfold bindC
    exact Qw (i:=i) (List.nodup_cons.mp nd).2 (by simpa using h1) (by simpa using h2) hk
def start (N:List Str) (vs:List V):St:=vs.map some++List.replicate (N.length - vs.length) none
def Yh (CX:CXT) (P:Program) (w:World) (K:PySem.W.Frag) (mg:Str→Option Value) (base:Heap) (N:List Str) (qual:Str) (scope:Scope) (f:Addr) (cd:Value) (A:Around) (outer:List Env) (s:Shared) (H:Hp) (E:XK):Cx where
  prog:=P
  w:=w
  K:=K
  mg:=mg
  base:=base
  A:=A.deeper (envOfC qual scope s.heap.objs.size f cd)
  N:=N
  s₀:=s
  H₀:=H
  env:=envOfC qual scope s.heap.objs.size f cd
  outer:=outer
  stack:=envOfC qual scope s.heap.objs.size f cd::outer
  ex:=[]
  calm:=true
  fn:=fun _=>true
  pn:=[]
  xe:=fun e s'=>wpAny (model P w) (A.deeper (envOfC qual scope s.heap.objs.size f cd)) (leaving (envOfC qual scope s.heap.objs.size f cd) e) (fun _ s''=>CX outer H s E e s'') (fun e' s''=>CX outer H s E e' s'') s'
theorem U8 {sc:Scope} {n:Nat} {x:Str} (h:sc.names.lookup x=some .cell):∃ c,(cellsFrom n sc.names []).lookup x=some c:=by
  have q:=PySem.W.cellsFrom_some sc.names n [] (.inl h)
  exact Option.isSome_iff_exists.mp q
theorem Yi {CX:CXT} {P:Program} {w:World} {K:PySem.W.Frag} {mg:Str→Option Value} {base:Heap} {N ps:List Str} {qual:Str} {scope:Scope} {f:Addr} {cd:Value} {A:Around} {outer:List Env} {s s1:Shared} {H:Hp} {E:XK} {us:List Value} {vs:List V}
    (S:jc N ps scope) (hd:A.handled=none) (e0:a5k P w K mg base A outer s H) (hl:vs.length=ps.length) (r:Vals vs us)
    (x:InCallC s s.heap.objs.size (bindL (envOfC qual scope s.heap.objs.size f cd).kindOf (ps.zip us) fun _=>none) (cellsFrom (s.heap.objs.size+1) scope.names []) (bindC (envOfC qual scope s.heap.objs.size f cd).kindOf (ps.zip us) fun _=>none) s1) :
    Inv (Yh CX P w K mg base N qual scope f cd A outer s H E) [] (start N vs) H s1:=by
  have hpl:ps.length≤N.length:=by have:=congrArg List.length S.pre; rw [List.length_take] at this; omega
  obtain ⟨h1,tk,rfl,hk⟩:=x.done
  have noA:∀ b:Addr,b∉(Yh CX P w K mg base N qual scope f cd A outer s H E).ex:=fun b z=>absurd (show b∈([]:List Addr) from z) (by simp)
  refine ⟨⟨e0.mod,S.kind,rfl,rfl,Nat.le_refl _,fun y z c h1 h2=>?_,fun y hy=>?_,fun y c _ h=>?_,fun _=>hd,Around.frames_deeper e0.frames,.inr ⟨rfl,rfl⟩,fun b z=>absurd z (noA b),e0.bs,e0.bsz,fun b _ _=>noA b,fun b z=>absurd z (noA b),e0.Ti,e0.frf⟩,
    rfl,e0.bare,Un.kept hk,⟨_,x.toInCall.ns,fun i y v h1 h2 h3=>?_⟩,fun y c h=>⟨_,x.cell y c h⟩,e0.hok.fresh (Nat.le_refl _),fun y c h=>?_,fun p hp=>absurd (show p∈([]:List (Addr × Obj)) from hp) (by simp),e0.hok.kept hk,?_⟩
  · exact name_of_addr x.apart (PySem.mem_of_lookup h1) (PySem.mem_of_lookup h2)
  · have hy:scope.names.lookup y=some .cell∨scope.names.lookup y=some .free:=hy
    rcases hy with hy | hy
    · exact U8 hy
    · exact absurd rfl (S.nofree _ (PySem.mem_of_lookup hy))
  · exact Nat.le_of_lt (x.above y c (PySem.mem_of_lookup h))
  · have hi:i<vs.length:=by
      unfold start at h2
      by_cases hi:i<vs.length
      · exact hi
      · rw [List.getElem?_append_right (by simpa using hi)] at h2
        rw [List.getElem?_replicate] at h2
        split at h2 <;> cases h2
    have ha:vs[i]? = some v:=by
      unfold start at h2
      rw [List.getElem?_append_left (by simpa using hi),List.getElem?_map] at h2
      cases e:vs[i]? with
      | none=>rw [e] at h2; cases h2
      | some a=>rw [e] at h2; cases h2; rfl
    obtain ⟨u,hu,rv⟩:=r.get ha
    have hp:ps[i]? = some y:=by
      rw [← S.pre,List.getElem?_take_of_lt (by omega)]; exact h1
    have ndP:ps.Nodup:=by rw [← S.pre]; exact S.nd.sublist (List.take_sublist _ _)
    refine ⟨u,rv,?_⟩
    rcases S.par y (List.mem_of_getElem? hp) with k | k
    · exact .inl ⟨k,P0 ndP hp hu k⟩
    · obtain ⟨c,e⟩:=U8 (n:=s.heap.objs.size+1) k
      refine .inr ⟨.inl k,c,e,?_⟩
      have q:=x.cell y c e
      rw [Qw ndP hp hu (by show scope.names.lookup y≠_; rw [k]; decide)] at q
      exact q
  · exact e0.hok.fresh (Nat.le_of_lt (x.above y c (PySem.mem_of_lookup h)))
  · unfold start
    show _=N.length
    rw [List.length_append,List.length_map,List.length_replicate]
    omega
theorem Wy {CX:CXT} {P:Program} {w:World} {K:PySem.W.Frag} {mg:Str→Option Value} {base:Heap} {k:Nat} {f:Addr} {name qual:Str} {params:Arguments} {body:List Stmt} {scope:Scope} {dV kV doc pm cdv ct oc:Value} {an od:Option Addr}
    {osl:Array (Option Value)} {N ps:List Str} {sp:Sp} (lk:K.lookup f=some ⟨oc,od,.func (PySem.W.fnOf name qual params body scope dV kV doc pm an cdv ct),osl⟩) (hcd:PySem.W.codeIn K cdv qual=true) (S:jc N ps scope)
    (len:∀ vs H Q E,sp vs H Q E→vs.length=ps.length)
    (hbody:∀ (A:Around) (outer:List Env) (s:Shared) (H:Hp) (vs:List V) (Q:VK) (E:XK),Ei k (A.deeper (envOfC qual scope s.heap.objs.size f cdv))→sp vs H Q E →
      ∃ t,PSs (Yh CX P w K mg base N qual scope f cdv A outer s H E) body t∧t { nx:=fun _ H'=>Q .non H',rt:=Q } (start N vs) H) :
    Fg P w K mg base CX (k+1) f (PySem.W.fnOf name qual params body scope dV kV doc pm an cdv ct) ps sp:=by
  refine ⟨len,fun A outer s H args us vs Q E hr e0 hb r hsp=>?_⟩
  have hl:=len _ _ _ _ hsp
  have KX:K.In s.heap:=e0.mod.kin.keeps fun b o e=>(e0.bs b o e).1
  have lim:s.heap.NoLimit:=e0.mod.nolimit.keeps fun b o e=>(e0.bs b o e).1
  have hkind:∀ y∈ps.zip us,scope.names.lookup y.1=some .local∨(scope.names.lookup y.1=some .cell∧((cellsFrom (s.heap.objs.size+1) scope.names []).lookup y.1).isSome=true):=fun ⟨n,v⟩ hy=>by
    rcases S.par n (List.of_mem_zip hy).1 with q | q
    · exact .inl q
    · exact .inr ⟨q,PySem.W.cellsFrom_some _ _ _ (.inl q)⟩
  refine codeAny_call_function hr.depth (KX _ _ lk) rfl S.co S.gen rfl (PySem.W.codeRec_of KX hcd) (hb _ _ _ _ ?_)
  refine wpAny_newFunctionEnv_cells S.kind hkind fun env he s1 x=>?_
  subst he
  refine ⟨lim.keeps x.toInCall.keep,codeAny_func ?_⟩
  obtain ⟨t,ht,hq⟩:=hbody A outer s H vs Q E (hr.deeper _) hsp
  have I:Inv (Yh CX P w K mg base N qual scope f cdv A outer s H E) [] (start N vs) H s1:=Yi S hr.hd e0 hl r x
  refine wpAny_mono (ht [] s1 (start N vs) H _ I hq) (fun fl s' hs=>?_) fun e s' hs=>hs
  have fin:∀ {σ':St} {H':Hp} {v:V} {u:Value},Inv (Yh CX P w K mg base N qual scope f cdv A outer s H E) [] σ' H' s'→RelV v u→Q v H'→CE outer P w H s Q u s' :=
    fun {σ' H' v u} J rv q=>⟨v,H',J.os,J.bare,J.base,J.hok,rv,q⟩
  cases fl with
  | ret u =>
    obtain ⟨v,σ',H',J,rv,q⟩:=hs
    exact fin J rv q
  | next =>
    obtain ⟨σ',H',J,q⟩:=hs
    exact fin (v:=V.non) (u:=Value.none) J rfl q
  | brk =>
    obtain ⟨_,_,_,q⟩:=hs
    exact False.elim q
  | cont =>
    obtain ⟨_,_,_,q⟩:=hs
    exact False.elim q
end L2
namespace L2
open PySem PySem.Spec PyProof.Rows
section
variable {X:Cx} {x:Str} {p pos:Pos} {e:Expr} {es:List Expr} {t:TA} {id T:String} {r:List V→Hp→VK→Prop}
def tCB (r:List V→Hp→VK→Prop) (t:TA):TE:=fun σ H Q=>t σ H fun vs H1=>r vs H1 Q
theorem u6 (hc:Eh X (.builtin id) r) (hg:Gl X x) (hm:X.mg x=none) (hv:bootBuiltins x=some (.builtin id)) (ha:PA X (e::es) t) (hn:x ≠ "__name__" := by decide) (hdb:(x==("__debug__" : Str))=false:=by decide)
    (he:starEach (e::es) X.env=(false,eval e X.env)::starEach es X.env:=by rfl) (hpl:(backTo pos (starEach es X.env)).any (·.1)=false:=by rfl):PE X (.Call (.Name x p) (e::es) [] pos) (tCB r t):=by
  intro pins s σ H Q I h
  refine wpAny_Call_Name_kw (Kd I hg hm hv ?_ hn hdb)
  exact PyProof.Rows.callWith_builtin1 (thn (ha pos pins s σ H _ I h) fun us s1 z7=>by obtain ⟨vs,H1,I1,r1,q1⟩:=z7; exact hc pins s1 σ H1 vs us Q I1 r1 q1) he hpl
theorem m8 (hc:Eh X (.type T) r) (hg:Gl X x) (hm:X.mg x=none) (hv:bootBuiltins x=some (.type T)) (ha:PA X (e::es) t) (hn:x ≠ "__name__" := by decide) (hdb:(x==("__debug__" : Str))=false:=by decide)
    (he:starEach (e::es) X.env=(false,eval e X.env)::starEach es X.env:=by rfl) (hpl:(backTo pos (starEach es X.env)).any (·.1)=false:=by rfl):PE X (.Call (.Name x p) (e::es) [] pos) (tCB r t):=by
  intro pins s σ H Q I h
  refine wpAny_Call_Name_kw (Kd I hg hm hv ?_ hn hdb)
  exact PyProof.Rows.callWith_type1 (thn (ha pos pins s σ H _ I h) fun us s1 z7=>by obtain ⟨vs,H1,I1,r1,q1⟩:=z7; exact hc pins s1 σ H1 vs us Q I1 r1 q1) he hpl
end
end L2
end
section
namespace HT
open PySem PyProof.Rows
section
open PySem.SeqAt
open PySem.AutoSeq1 (wpAny_loadPart')
open PySem.MeetsSeq PySem.MeetsSeq2 PySem.MeetsSeq3
end
section
variable {prog:Program} {w:World} {A:Around} {E:Value→Shared→Prop} {s:Shared}
theorem a6e {t b:Addr} {vs ws:List Value} {Q:Value→Shared→Prop} (ht:IsTup s.heap t vs.toArray) (hb:IsTup s.heap b ws.toArray) (hv:vs≠[])
    (h1:ws=[]→Q (.ref t) s) (h2:ws≠[]→Q (.ref s.heap.objs.size) { s with heap:=s.heap.push { cls:=.type "tuple",data:=.seq (vs++ws).toArray } })
    (hsz:vs.length+ws.length≤sizeLine):wpAny (model prog w) A (binaryOp .Add (.ref t) (.ref b)) Q E s:=by
  obtain ⟨⟨cls,dd,data,sl⟩,ho,hc,n,hd⟩:=id ht
  obtain ⟨⟨cls2,dd2,data2,sl2⟩,ho2,hc2,n2,hd2⟩:=id hb
  simp only at hc hd hc2 hd2
  subst hc hd hc2 hd2
  have e:vs.toArray++ws.toArray=(vs++ws).toArray:=by simp
  by_cases hw:ws=[]
  · exact concat_meets ⟨_,ho,rfl⟩ ⟨_,ho2,rfl⟩ noFill_tuple_add seq_tuple_add PySem.F.slot_tuple_add PySem.F.entry_tuple_add (PySem.F.args_tuple_add_2 _ _)
      (tuple_addW1 t b vs.toArray ws.toArray n n2 dd dd2 sl sl2 (by simpa using hv) (by simp [hw])) ⟨ho,ho2,h1 hw⟩
  · refine concat_meets ⟨_,ho,rfl⟩ ⟨_,ho2,rfl⟩ noFill_tuple_add seq_tuple_add PySem.F.slot_tuple_add PySem.F.entry_tuple_add (PySem.F.args_tuple_add_2 _ _)
      (tuple_addW2 t b vs.toArray ws.toArray n n2 dd dd2 sl sl2 (by simpa using hv) (by simpa using hw) (by rw [List.size_toArray,List.size_toArray]; exact hsz)) ⟨ho,ho2,?_⟩
    rw [e]
    exact h2 hw
def sIx (n d:Nat):Option Int→Nat
  | none=>d
  | some v=>if v<0 then (v+(n:Int)).toNat else min v.toNat n
theorem a8k (n d:Nat) (hd:d≤n) (o:Option Int):sIx n d o≤n:=by
  cases o with
  | none=>exact hd
  | some v =>
    show (if v<0 then (v+(n:Int)).toNat else min v.toNat n)≤n
    by_cases hv:v<0
    · rw [if_pos hv]; omega
    · rw [if_neg hv]; exact Nat.min_le_right _ _
theorem Xf (v:Int) (n d:Nat):(if v<0 then max (v+(n:Int)) 0 else min v (n:Int))=((sIx n d (some v):Nat):Int):=by
  show (if v<0 then max (v+(n:Int)) 0 else min v (n:Int))=(((if v<0 then (v+(n:Int)).toNat else min v.toNat n):Nat):Int)
  by_cases hv:v<0
  · simp only [if_pos hv]; omega
  · simp only [if_neg hv]; omega
theorem Vi (lo hi:Option Int) (n:Nat):Builtin.Slice.sliceAdjust lo hi 1 (n:Int)=(((sIx n 0 lo:Nat):Int),((sIx n n hi:Nat):Int)):=by
  have h1:¬ ((1:Int)<0):=by omega
  unfold Builtin.Slice.sliceAdjust
  simp only [h1,if_false]
  refine Prod.ext ?_ ?_
  · cases lo with
    | none=>rfl
    | some v=>exact Xf v n 0
  · cases hi with
    | none=>rfl
    | some v=>exact Xf v n n
theorem Vw (i j:Nat):Builtin.Slice.slicePlaces (i:Int) (j:Int) 1=j - i:=by
  unfold Builtin.Slice.slicePlaces
  have h1:(1:Int) > 0:=by omega
  simp only [h1,if_true,Int.ediv_one]
  split <;> omega
theorem Ml {v:Value} {o:Option Int} {Q:Option Int→Shared→Prop} (p:IsPart v o) (h:Q o s):wpAny (model prog w) A (Builtin.Slice.slicePartIndex v) Q E s:=by
  cases p with
  | none=>exact slicePart_none h
  | int i t=>exact slicePart_int h
theorem Io {sl:Addr} {vl vu:Value} {lo hi:Option Int} {n:Nat} {Q:Int × Int × Nat→Shared→Prop} (hs:s.heap.IsSliceOf sl vl vu .none) (pl:IsPart vl lo) (pu:IsPart vu hi)
    (h:Q (((sIx n 0 lo:Nat):Int),1,sIx n n hi - sIx n 0 lo) s):wpAny (model prog w) A (Builtin.Slice.sliceApplied (.ref sl) (pure (n:Int))) Q E s:=by
  obtain ⟨os,hos,hcs,hds⟩:=id hs
  unfold Builtin.Slice.sliceApplied Builtin.Slice.sliceFields
  refine wpAny_bind (wpAny_bind (wpAny_field hos hds (x:=vl) rfl (wpAny_bind (wpAny_field hos hds (x:=vu) rfl (wpAny_bind (wpAny_field hos hds (x:=.none) rfl (wpAny_pure ?_)))))))
  refine wpAny_bind (slicePart_none ?_)
  show wpAny _ _ (if ((1:Int)==0)=true then _ else _) _ _ s
  rw [if_neg (by decide)]
  refine wpAny_bind (Ml pl (wpAny_bind (Ml pu (wpAny_bind (wpAny_pure ?_)))))
  show wpAny _ _ (match Builtin.Slice.sliceAdjust lo hi 1 (n:Int) with | (lo,hi)=>pure (lo,(1:Int),Builtin.Slice.slicePlaces lo hi 1)) _ _ s
  rw [Vi lo hi n]
  show wpAny _ _ (pure (((sIx n 0 lo:Nat):Int),(1:Int),Builtin.Slice.slicePlaces ((sIx n 0 lo:Nat):Int) ((sIx n n hi:Nat):Int) 1)) _ _ s
  rw [Vw]
  exact wpAny_pure h
theorem a2a (xs:Array Value) (i k:Nat):((List.range k).filterMap fun (m:Nat)=>xs[((i:Int)+(m:Int) * 1).toNat]?).toArray=((xs.toList.drop i).take k).toArray:=by
  have e:(fun (m:Nat)=>xs[((i:Int)+(m:Int) * 1).toNat]?)=fun m=>xs[i+m]?:=by
    funext m
    have:((i:Int)+(m:Int) * 1).toNat=i+m:=by omega
    rw [this]
  rw [e]
  have:=pick_run xs i k
  rw [List.filterMap_map] at this
  have e2:((fun x=>xs[x]?) ∘ fun x=>i+x)=fun m=>xs[i+m]?:=rfl
  rw [e2] at this
  rw [this]
theorem Gy {t sl:Addr} {items:Array Value} {vl vu:Value} {lo hi:Option Int} {Q:Value→Shared→Prop} (ht:IsTup s.heap t items) (hs:s.heap.IsSliceOf sl vl vu .none) (pl:IsPart vl lo) (pu:IsPart vu hi)
    (hw:¬ (sIx items.size 0 lo=0∧sIx items.size items.size hi=items.size))
    (h:Q (.ref s.heap.objs.size) { s with heap:=s.heap.push { cls:=.type "tuple",data:=.seq ((items.toList.drop (sIx items.size 0 lo)).take (sIx items.size items.size hi - sIx items.size 0 lo)).toArray } })
    (hsz:items.size≤sizeLine):wpAny (model prog w) A (getItem (.ref t) (.ref sl)) Q E s:=by
  have htake:sizeOk (.seq ((items.toList.drop (sIx items.size 0 lo)).take (sIx items.size items.size hi - sIx items.size 0 lo)).toArray):=by
    show ((items.toList.drop (sIx items.size 0 lo)).take (sIx items.size items.size hi - sIx items.size 0 lo)).toArray.size≤sizeLine
    rw [List.size_toArray,List.length_take,List.length_drop,Array.length_toList]
    omega
  have hj:sIx items.size items.size hi≤items.size:=a8k _ _ (Nat.le_refl _) hi
  obtain ⟨os,hos,hcs,hds⟩:=id hs
  have hTs:s.TypeIs (.ref sl) "slice" := ⟨os,hos,hcs⟩
  unfold getItem
  try with_reducible refine wpAny_holding ?_
  first | refine wpAny_bind (wpAny_pure ?_) | skip
  refine wpAny_bind (wpAny_sequenceKey ht.typeIs (by decide) ?_)
  refine wpAny_bind (wpAny_callSpecial?_slot (name:=Str.ofString "__getitem__") ht.typeIs PyProof.Rows.slot_tuple_getitem
    (wpAny_call_entry PyProof.Rows.slot_tuple_getitem ht.typeIs entry_tuple_getitem ?_ (args_tuple_getitem _ _)))
  show wpAny _ _ (Builtin.Tuple.tupleItemsOf (.ref t) >>= _) _ _ s
  refine wpAny_bind (tupleItemsOf_ ht ?_)
  refine wpAny_bind (wpAny_typeOf hTs ?_)
  rw [if_pos (by decide)]
  refine wpAny_bind (Io hs pl pu ?_)
  have hno:¬ ((((sIx items.size 0 lo:Nat):Int)==0&&(1:Int)==1&&(sIx items.size items.size hi - sIx items.size 0 lo)==items.size)=true):=by
    intro q
    rw [Bool.and_eq_true,Bool.and_eq_true] at q
    have q1:((sIx items.size 0 lo:Nat):Int)=0:=eq_of_beq q.1.1
    have q2:sIx items.size items.size hi - sIx items.size 0 lo=items.size:=eq_of_beq q.2
    exact hw ⟨by omega,by omega⟩
  show wpAny _ _ (if (((sIx items.size 0 lo:Nat):Int)==0&&(1:Int)==1&&(sIx items.size items.size hi - sIx items.size 0 lo)==items.size)=true then _ else _) _ _ s
  rw [if_neg hno,a2a]
  first
    | exact wpAny_bind (m:=Builtin.Tuple.tupleExact _) (wpAny_newObj_type (wpAny_pure ⟨_,rfl,wpAny_pure h⟩) htake)
    | exact wpAny_bind (m:=Builtin.Tuple.tupleExact _) (wpAny_newObj_type (wpAny_bind (wpAny_pure (wpAny_pure ⟨_,rfl,wpAny_pure h⟩))) htake)
    | exact wpAny_bind (wpAny_bind (m:=Builtin.Tuple.tupleExact _) (wpAny_newObj_type (wpAny_pure (wpAny_pure ⟨_,rfl,wpAny_pure h⟩)) htake))
    | exact wpAny_bind (wpAny_bind (m:=Builtin.Tuple.tupleExact _) (wpAny_newObj_type (wpAny_pure ⟨_,rfl,wpAny_pure h⟩) htake))
end
end HT
namespace L2
open PySem PySem.Spec PyProof.Rows
abbrev TO:=St→Hp→(Option Int→Hp→Prop)→Prop
def PO (X:Cx) (e:Option Expr) (t:TO):Prop :=
  ∀ (pins:List (Addr × Obj)) (s:Shared) (σ:St) (H:Hp) (Q:Option Int→Hp→Prop),Inv X pins σ H s→t σ H Q →
    wpAny (model X.prog X.w) X.A (evalPart e X.env) (fun u s'=>∃ o H',Inv X pins σ H' s'∧IsPart u o∧Q o H') X.xe s
def a6v:TO:=fun _ H Q=>Q none H
def aaj (t:TE):TO:=fun σ H Q=>t σ H fun x H1=>∃ i,x=.int i∧Q (some i) H1
section
variable {X:Cx} {e:Expr} {te:TE} {lo hi:Option Expr} {tl th:TO} {pos p2:Pos}
theorem a5s:PO X none a6v:=by
  intro pins s σ H Q I h
  rw [evalPart_none]
  exact wpAny_pure ⟨none,H,I,.none,h⟩
theorem a6d (h:PE X e te):PO X (some e) (aaj te):=by
  intro pins s σ H Q I hw
  rw [evalPart_some]
  refine thn (h pins s σ H _ I hw) fun u s1 z0=>?_
  obtain ⟨x,H1,I1,r1,q1⟩:=z0
  obtain ⟨i,rfl,q⟩:=q1
  obtain ⟨t,rfl⟩:=r1
  exact ⟨some i,H1,I1,.int i t,q⟩
def SlR (X:Cx) (r:V→Option Int→Option Int→Hp→VK→Prop):Prop :=
  ∀ (pins:List (Addr × Obj)) (s:Shared) (σ:St) (H:Hp) (x:V) (v vl vu:Value) (lo hi:Option Int) (sl:Addr) (Q:VK),Inv X pins σ H s→RelV x v→s.heap.IsSliceOf sl vl vu .none→IsPart vl lo→IsPart vu hi→r x lo hi H Q →
    ∃ T id,typeLookup (.type T) "__getitem__" = pure (some (.builtin id))∧s.TypeIs v T∧wpAny (model X.prog X.w) X.A (getItem v (.ref sl)) (EP X pins σ Q) X.xe s
theorem SlR.or {r r':V→Option Int→Option Int→Hp→VK→Prop} (h:SlR X r) (h':SlR X r'):SlR X (fun x lo hi H Q=>r x lo hi H Q∨r' x lo hi H Q):=by
  intro pins s σ H x v vl vu lo hi sl Q I rx hs pl pu q
  rcases q with q | q
  · exact h pins s σ H x v vl vu lo hi sl Q I rx hs pl pu q
  · exact h' pins s σ H x v vl vu lo hi sl Q I rx hs pl pu q
def tSl (r:V→Option Int→Option Int→Hp→VK→Prop) (te:TE) (tl th:TO):TE:=fun σ H Q=>te σ H fun x H1=>tl σ H1 fun l H2=>th σ H2 fun u H3=>r x l u H3 Q
theorem a1t {r:V→Option Int→Option Int→Hp→VK→Prop} (hr:SlR X r) (he:PE X e te) (hl:PO X lo tl) (hu:PO X hi th):PE X (.Subscript e (.Slice lo hi none p2) pos) (tSl r te tl th):=by
  intro pins s σ H Q I h
  refine Subscript_ (thn (he pins s σ H _ I h) fun v s1 z0=>?_)
  obtain ⟨x,H1,I1,r1,q1⟩:=z0
  refine wpAny_Slice (thn (hl pins s1 σ H1 _ I1 q1) fun vl s2 ⟨l,H2,I2,pl,q2⟩=>thn (hu pins s2 σ H2 _ I2 q2) fun vu s3 ⟨u,H3,I3,pu,q3⟩=>?_)
  rw [evalPart_none]
  refine wpAny_pure ?_
  have I4:Inv X pins σ H3 { s3 with heap:=s3.heap.push { cls:=.type "slice",data:=.fields #[vl,vu,.none] } }:=I3.kept (t':=s3.toks) fun b ob q=>Heap.get?_push_of_some _ q
  obtain ⟨T,id,hT,ht,hg⟩:=hr pins { s3 with heap:=s3.heap.push { cls:=.type "slice",data:=.fields #[vl,vu,.none] } } σ H3 x v vl vu l u s3.heap.objs.size Q I4 r1 (Heap.IsSliceOf.new ..) pl pu q3
  show wpAny (model X.prog X.w) X.A (subscriptTail e (.Slice lo hi none p2) v (.ref s3.heap.objs.size)) (EP X pins σ Q) X.xe { s3 with heap:=s3.heap.push { cls:=.type "slice",data:=.fields #[vl,vu,.none] } }
  exact tail_any (ops:=[.ref s3.heap.objs.size,v]) ht hT hg (by with_unfolding_all rfl)
def a0a (xs:List V) (lo hi:Option Int):List V:=(xs.drop (HT.sIx xs.length 0 lo)).take (HT.sIx xs.length xs.length hi - HT.sIx xs.length 0 lo)
theorem Jg (xs:List V) (lo hi:Option Int):(a0a xs lo hi).length≤xs.length:=by
  unfold a0a
  rw [List.length_take,List.length_drop]
  omega
def ad7 (K:PySem.W.Frag):V→Option Int→Option Int→Hp→VK→Prop:=fun x lo hi H Q=>∃ a xs,x=.ref a∧SqT K H a xs ∧
  ¬ (HT.sIx xs.length 0 lo=0∧HT.sIx xs.length xs.length hi=xs.length)∧∀ p,H p=none→Q (.ref p) (upd H p (.tup (a0a xs lo hi)))
theorem a8f:SlR X (ad7 X.K):=by
  intro pins s σ H x v vl vu lo hi sl Q I rx hs pl pu h
  obtain ⟨a,xs,rfl,hx,hw,q⟩:=h
  cases rx
  obtain ⟨its,r,ht,hz⟩:=I.tuple hx
  have hlen:its.toArray.size=xs.length:=by rw [List.size_toArray]; exact r.length.symm
  refine ⟨"tuple",_,PyProof.Rows.slot_tuple_getitem.lookup,ht.typeIs,?_⟩
  refine HT.Gy ht hs pl pu (by rw [hlen]; exact hw) ?_ (by rw [hlen]; exact hz)
  rw [hlen]
  refine ⟨.ref s.heap.objs.size,_,I.laid (t':=s.toks) (o:=.tup (a0a xs lo hi)) (fun b ob q=>Heap.get?_push_of_some _ q) (Nat.le_refl _) ?_,rfl,q _ (I.hok.fresh (Nat.le_refl _))⟩
  exact ⟨Nat.le_trans (Jg xs lo hi) hz,_,(r.drop (HT.sIx xs.length 0 lo)).take (HT.sIx xs.length xs.length hi - HT.sIx xs.length 0 lo),a0j.new _ _⟩
def aak (K:PySem.W.Frag):R2:=fun x y H Q=>∃ a b xs ys,x=.ref a∧y=.ref b∧SqT K H a xs∧SqT K H b ys∧xs≠[]∧xs.length+ys.length≤sizeLine ∧
  (ys=[]→Q (.ref a) H)∧(ys≠[]→∀ p,H p=none→Q (.ref p) (upd H p (.tup (xs++ys))))
theorem Vals.Tf {xs:List V} {us:List Value} (r:Vals xs us):us=[]↔xs=[]:=by
  cases r with
  | nil=>simp
  | cons _ _=>simp
theorem a5j:OpR X (binaryOp .Add) (aak X.K):=by
  intro pins s σ H x y v u Q I rx ry h
  obtain ⟨a,b,xs,ys,rfl,rfl,ha,hb,hx,hz,q1,q2⟩:=h
  cases rx
  cases ry
  obtain ⟨its,r1,p1,_⟩:=I.tuple ha
  obtain ⟨its2,r2,p2,_⟩:=I.tuple hb
  refine HT.a6e p1 p2 (fun z=>hx (r1.Tf.mp z)) (fun z=>⟨.ref a,H,I,rfl,q1 (r2.Tf.mp z)⟩) (fun z=>?_) (by rw [← r1.length,← r2.length]; exact hz)
  refine ⟨.ref s.heap.objs.size,_,I.laid (t':=s.toks) (o:=.tup (xs++ys)) (fun b ob q=>Heap.get?_push_of_some _ q) (Nat.le_refl _) ?_,rfl,q2 (fun w=>z (r2.Tf.mpr w)) _ (I.hok.fresh (Nat.le_refl _))⟩
  exact ⟨by rw [List.length_append]; exact hz,_,r1.append r2,a0j.new _ _⟩
end
end L2
namespace L2
open PySem PySem.Spec PyProof.Rows
def ixN (n:Nat) (i:Int):Option Nat:=if 0≤i then (if i<n then some i.toNat else none) else if -(n:Int)≤i then some (i+n).toNat else none
def atI {α:Type} (xs:List α) (i:Int):Option α:=(ixN xs.length i).bind fun j=>xs[j]?
theorem Xr {n:Nat} {i:Int} {j:Nat} (h:ixN n i=some j):seqIndex? i n=some j∧j<n∧-(n:Int)≤i∧i<n:=by
  unfold ixN at h
  by_cases h0:0≤i
  · rw [if_pos h0] at h
    by_cases h1:i<n
    · rw [if_pos h1] at h
      have e:i.toNat=j:=Option.some.inj h
      exact ⟨by rw [seqIndex_of h0 h1,e],by omega,by omega,h1⟩
    · rw [if_neg h1] at h; cases h
  · rw [if_neg h0] at h
    by_cases h1:-(n:Int)≤i
    · rw [if_pos h1] at h
      have e:(i+n).toNat=j:=Option.some.inj h
      exact ⟨by rw [seqIndex_neg (by omega) h1,e],by omega,h1,by omega⟩
    · rw [if_neg h1] at h; cases h
theorem Rt {α:Type} {xs:List α} {i:Int} {v:α} (h:atI xs i=some v):∃ j,seqIndex? i xs.length=some j∧xs[j]? = some v∧j<xs.length∧-(xs.length:Int)≤i∧i<xs.length:=by
  unfold atI at h
  cases e:ixN xs.length i with
  | none=>rw [e] at h; cases h
  | some j =>
    rw [e] at h
    obtain ⟨h1,h2,h3,h4⟩:=Xr e
    exact ⟨j,h1,h,h2,h3,h4⟩
def Nm (b:Expr):Prop:=∀ o i,subscripted b false o i=operate [o,i] (getItem o i)
def IxR (X:Cx) (r:R2):Prop :=
  ∀ (value slice:Expr) (pins:List (Addr × Obj)) (s:Shared) (σ:St) (H:Hp) (x y:V) (v u:Value) (Q:VK),Inv X pins σ H s→RelV x v→RelV y u→r x y H Q →
    subscripted slice false v u=operate [v,u] (getItem v u)→wpAny (model X.prog X.w) X.A (subscriptTail value slice v u) (EP X pins σ Q) X.xe s
def MtR (X:Cx) (id:String) (r:V→List V→Hp→VK→Prop):Prop :=
  ∀ (pins:List (Addr × Obj)) (s:Shared) (σ:St) (H:Hp) (x:V) (xs:List V) (v:Value) (us:List Value) (Q:VK),Inv X pins σ H s→RelV x v→Vals xs us→r x xs H Q →
    wpAny (model X.prog X.w) X.A (call (.builtin id) (v::us)) (EP X pins σ Q) X.xe s
section
variable {X:Cx} {a b:Expr} {ta tb:TE} {pos:Pos}
theorem IxR.or {r r':R2} (h:IxR X r) (h':IxR X r'):IxR X (fun x y H Q=>r x y H Q∨r' x y H Q):=by
  intro value slice pins s σ H x y v u Q I rx ry q hs
  rcases q with q | q
  · exact h value slice pins s σ H x y v u Q I rx ry q hs
  · exact h' value slice pins s σ H x y v u Q I rx ry q hs
theorem MtR.or {id:String} {r r':V→List V→Hp→VK→Prop} (h:MtR X id r) (h':MtR X id r'):MtR X id (fun x xs H Q=>r x xs H Q∨r' x xs H Q):=by
  intro pins s σ H x xs v us Q I rx rs q
  rcases q with q | q
  · exact h pins s σ H x xs v us Q I rx rs q
  · exact h' pins s σ H x xs v us Q I rx rs q
theorem a5x {r:R2} (hr:IxR X r) (ha:PE X a ta) (hb:PE X b tb) (hs:Nm b):PE X (.Subscript a b pos) (tOp r ta tb):=by
  intro pins s σ H Q I h
  exact Subscript_ (abl ha hb I h fun v u s2 x y H2 I2 rx ry q=>hr a b pins s2 σ H2 x y v u Q I2 rx ry q (hs _ _))
def ad5 (K:PySem.W.Frag):R2:=fun x y H Q=>∃ p xs i v,x=.ref p∧y=.int i∧SqL K H p xs∧atI xs i=some v∧Q v H
def aco (K:PySem.W.Frag):R2:=fun x y H Q=>∃ p xs i v,x=.ref p∧y=.int i∧SqT K H p xs∧atI xs i=some v∧Q v H
def acq:R2:=fun x y H Q=>∃ z i c,x=.str z∧y=.int i∧z.length≤sizeLine∧atI z.cps.toList i=some c∧Q (.str ⟨#[c]⟩) H
theorem Sh:IxR X (ad5 X.K):=by
  intro value slice pins s σ H x y v u Q I rx ry h hs
  obtain ⟨p,xs,i,z,rfl,rfl,hq,he,q⟩:=h
  cases rx
  obtain ⟨t,rfl⟩:=ry
  obtain ⟨its,r,pl,hz⟩:=I.list hq
  obtain ⟨j,h1,h2,h3,h4,h5⟩:=Rt he
  obtain ⟨w,ew,rw'⟩:=r.get h2
  have hl:=r.length
  have hn:=M5
  have fin:EP X pins σ Q w s:=⟨z,H,I,rw',q⟩
  by_cases h0:0≤i
  · have hj:i.toNat=j:=by
      rw [seqIndex_of h0 h5] at h1
      exact Option.some.inj h1
    exact item_listR pl.isList h0 (by omega) (by rw [hj]; simpa using ew) fin hs
  · have hj:(i+(its.toArray.size:Int)).toNat=j:=by
      rw [seqIndex_neg (by omega) h4] at h1
      rw [List.size_toArray,← hl]
      exact Option.some.inj h1
    exact subscriptTail_builtinR (x:=w) pl.isList.typeIs slot_list_getitem.lookup
      (wpAny_getItem_list_neg (Q:=fun r s'=>r=w∧EP X pins σ Q r s') pl.isList (by omega) (by rw [List.size_toArray] <;> omega) (by omega) (by rw [hj]; simpa using ew) ⟨rfl,fin⟩) hs
theorem a8v:IxR X (aco X.K):=by
  intro value slice pins s σ H x y v u Q I rx ry h hs
  obtain ⟨p,xs,i,z,rfl,rfl,hq,he,q⟩:=h
  cases rx
  obtain ⟨t,rfl⟩:=ry
  obtain ⟨its,r,pl,hz⟩:=I.tuple hq
  obtain ⟨j,h1,h2,h3,h4,h5⟩:=Rt he
  obtain ⟨w,ew,rw'⟩:=r.get h2
  have hl:=r.length
  have hn:=M5
  have fin:EP X pins σ Q w s:=⟨z,H,I,rw',q⟩
  exact subscriptTail_builtinR (x:=w) pl.typeIs slot_tuple_getitem.lookup
    (getItem_tuple (j:=j) (Q:=fun r s'=>r=w∧EP X pins σ Q r s') pl (by omega) (by omega) (by rw [List.size_toArray,← hl]; exact h1) (by simpa using ew) ⟨rfl,fin⟩) hs
theorem a8n:IxR X acq:=by
  intro value slice pins s σ H x y v u Q I rx ry h hs
  obtain ⟨z,i,c,rfl,rfl,hz,he,q⟩:=h
  obtain ⟨t,rfl⟩:=rx
  obtain ⟨t',rfl⟩:=ry
  obtain ⟨j,h1,h2,h3,h4,h5⟩:=Rt he
  have hl:z.cps.toList.length=z.length:=by simp [Str.length]
  rw [hl] at h1 h4 h5
  have hn:=M5
  exact tail_any (typeIs_str s z t) slot_str_getitem.lookup (getItem_str (c:=c) (by
    have e1:decide (i < -(2 ^ 63:Int))=false:=decide_eq_false (by omega)
    have e2:decide (i ≥ 2 ^ 63)=false:=decide_eq_false (by omega)
    rw [e1,e2,Bool.or_false]) (by rw [h1]; simpa using h2) ⟨.str ⟨#[c]⟩,H,I.tok _,⟨_,rfl⟩,q⟩) hs
theorem Vf (its:List Value) (n j:Nat) (u:Value):Obj.mapSeq (·.setIfInBounds j u) { cls:=.type "list",data:=.seq its.toArray n } = { cls:=.type "list",data:=.seq (its.set j u).toArray n }:=by
  simp [Obj.mapSeq]
theorem Inv.lst {pins:List (Addr × Obj)} {σ:St} {H:Hp} {s:Shared} {p:Addr} {xs:List V} (I:Inv X pins σ H s) (h:H p=some (.lst xs)) :
    ∃ (its:List Value) (n:Nat),Vals xs its∧s.heap.get? p=some { cls:=.type "list",data:=.seq its.toArray n }∧xs.length≤sizeLine:=by
  obtain ⟨z,its,n,r,e⟩:=I.hok p _ h
  exact ⟨its,n,r,e,z⟩
theorem Inv.a9f {pins:List (Addr × Obj)} {σ:St} {H:Hp} {s:Shared} {p:Addr} {xs ys:List V} {its its':List Value} {n n':Nat} {f:Obj→Obj} (I:Inv X pins σ H s) (h:H p=some (.lst xs))
    (ho:s.heap.get? p=some { cls:=.type "list",data:=.seq its.toArray n }) (hf:f { cls:=.type "list",data:=.seq its.toArray n } = { cls:=.type "list",data:=.seq its'.toArray n' }) (r:Vals ys its') (hz:ys.length≤sizeLine) (t:Nat) :
    Inv X pins σ (upd H p (.lst ys)) { s with heap:=s.heap.update p f,toks:=t }:=by
  have e:(s.heap.update p f).get? p=some { cls:=.type "list",data:=.seq its'.toArray n' }:=by
    rw [Heap.get?_update_self f ho (by rw [hf] <;> rfl),hf]
  refine I.write (x:=p) (e:=p) (by rw [h]; trivial) (.inl rfl) (fun b u hb q=>(Heap.get?_update_other _ _ (Ne.symm hb)).trans q) ⟨_,e⟩ ?_
  exact ⟨hz,its',n',r,e⟩
def a7y:V→V→V→Hp→(Hp→Prop)→Prop:=fun o i v H Q=>∃ p xs k j,o=.ref p∧i=.int k∧H p=some (.lst xs)∧ixN xs.length k=some j∧Q (upd H p (.lst (xs.set j v)))
theorem set_list:acd X a7y:=by
  intro pins s σ H o i v ov iv u Q I ro ri rv h
  obtain ⟨p,xs,k,j,rfl,rfl,hp,hj,q⟩:=h
  cases ro
  obtain ⟨t,rfl⟩:=ri
  obtain ⟨its,n,r,ho,hz⟩:=I.lst hp
  obtain ⟨h1,h2,h3,h4⟩:=Xr hj
  have hl:=r.length
  have hn:=M5
  have I':Inv X pins σ (upd H p (.lst (xs.set j v))) { s with heap:=s.heap.update p (Obj.mapSeq (·.setIfInBounds j u)) } :=
    I.a9f hp ho (Vf its n j u) (r.set rv j) (by rw [List.length_set]; exact hz) s.toks
  by_cases h0:0≤k
  · have hk:k.toNat=j:=by
      rw [seqIndex_of h0 h4] at h1
      exact Option.some.inj h1
    exact PySem.W.ki_setAt ho h0 (by omega) (by rw [List.size_toArray,← hl]; exact h4) (by rw [hk]; exact ⟨_,I',q⟩)
  · have hk:(k+(its.toArray.size:Int)).toNat=j:=by
      rw [seqIndex_neg (by omega) h3] at h1
      rw [List.size_toArray,← hl]
      exact Option.some.inj h1
    exact PySem.W.ki_setBack ho (by omega) (by rw [List.size_toArray,← hl]; exact h3) (by omega) (by rw [hk]; exact ⟨_,I',q⟩)
theorem Qd (lo hi:Option Int) (n:Nat):(sliceBounds lo hi none n).1=((HT.sIx n 0 lo:Nat):Int)∧(sliceBounds lo hi none n).2.1=((HT.sIx n n hi:Nat):Int)∧(sliceBounds lo hi none n).2.2=1:=by
  refine ⟨?_,?_,rfl⟩
  · cases lo with
    | none=>simp [sliceBounds,HT.sIx]
    | some i =>
      simp only [sliceBounds,HT.sIx,Option.getD_none,show (1:Int) > 0 by decide,if_true]
      by_cases h:i<0
      · simp only [h,if_true] <;> omega
      · simp only [h,if_false] <;> omega
  · cases hi with
    | none=>simp [sliceBounds,HT.sIx]
    | some i =>
      simp only [sliceBounds,HT.sIx,Option.getD_none,show (1:Int) > 0 by decide,if_true]
      by_cases h:i<0
      · simp only [h,if_true] <;> omega
      · simp only [h,if_false] <;> omega
theorem Mx (its:List Value) (lo hi:Option Int):slicePick its.toArray lo hi none=((its.drop (HT.sIx its.length 0 lo)).take (HT.sIx its.length its.length hi - HT.sIx its.length 0 lo)).toArray:=by
  obtain ⟨h1,h2,h3⟩:=Qd lo hi its.toArray.size
  unfold slicePick
  rw [h1,h2,h3]
  simp only [sliceRange_one,pick_run,List.size_toArray] <;> rfl
def ad0 (K:PySem.W.Frag):V→Option Int→Option Int→Hp→VK→Prop:=fun x lo hi H Q=>∃ a xs,x=.ref a∧SqL K H a xs∧∀ p,H p=none→Q (.ref p) (upd H p (.lst (a0a xs lo hi)))
theorem a4y:SlR X (ad0 X.K):=by
  intro pins s σ H x v vl vu lo hi sl Q I rx hs pl pu h
  obtain ⟨a,xs,rfl,hx,q⟩:=h
  cases rx
  obtain ⟨its,r,ht,hz⟩:=I.list hx
  have hlen:=r.length
  refine ⟨"list",_,slot_list_getitem.lookup,ht.isList.typeIs,?_⟩
  refine wpAny_getItem_list_slice ht.isList hs pl pu .none (by simp) ?_ (by rw [List.size_toArray] <;> omega)
  rw [Mx,← hlen]
  refine ⟨.ref s.heap.objs.size,_,I.laid (t':=s.toks) (o:=.lst (a0a xs lo hi)) (fun b ob q=>Heap.get?_push_of_some _ q) (Nat.le_refl _) ?_,rfl,q _ (I.hok.fresh (Nat.le_refl _))⟩
  exact ⟨Nat.le_trans (Jg xs lo hi) hz,_,0,(r.drop (HT.sIx xs.length 0 lo)).take (HT.sIx xs.length xs.length hi - HT.sIx xs.length 0 lo),Heap.get?_push_size _ rfl⟩
theorem Az:Eh X (.builtin "len") (fun xs H Q=>∃ p ys,xs=[.ref p]∧(SqL X.K H p ys∨SqT X.K H p ys)∧Q (.int ys.length) H):=by
  intro pins s σ H xs us Q I r h
  obtain ⟨p,ys,rfl,hq,q⟩:=h
  obtain ⟨u,rfl,rx⟩:=vals1 r
  cases rx
  have hn:=M5
  rcases hq with hq | hq
  · obtain ⟨its,r',pl,hz⟩:=I.list hq
    have hlen:=r'.length
    exact Calls.call_len_list pl.isList (by simp only [List.size_toArray] <;> omega) ⟨.int ys.length,H,I.tok _,⟨s.toks+1,by rw [List.size_toArray,hlen]⟩,q⟩
  · obtain ⟨its,r',pl,hz⟩:=I.tuple hq
    have hlen:=r'.length
    exact len_tuple pl (by simp only [List.size_toArray] <;> omega) ⟨.int ys.length,H,I.tok _,⟨s.toks+1,by rw [List.size_toArray,hlen]⟩,q⟩
theorem Pu:Eh X (.builtin "len") (fun xs H Q=>∃ z,xs=[.str z]∧z.length≤sizeLine∧Q (.int z.length) H):=by
  intro pins s σ H xs us Q I r h
  obtain ⟨z,rfl,hz,q⟩:=h
  obtain ⟨u,rfl,t,rfl⟩:=vals1 r
  have hn:=M5
  exact len_str (by omega) ⟨.int z.length,H,I.tok _,⟨_,rfl⟩,q⟩
theorem Eh.or {f:Value} {r r':List V→Hp→VK→Prop} (h:Eh X f r) (h':Eh X f r'):Eh X f (fun xs H Q=>r xs H Q∨r' xs H Q):=by
  intro pins s σ H xs us Q I rs q
  rcases q with q | q
  · exact h pins s σ H xs us Q I rs q
  · exact h' pins s σ H xs us Q I rs q
theorem Ia:Eh X (.type "list") (fun xs H Q=>∃ p ys,xs=[.ref p]∧(SqL X.K H p ys∨SqT X.K H p ys)∧∀ l,H l=none→Q (.ref l) (upd H l (.lst ys))):=by
  intro pins s σ H xs us Q I r h
  obtain ⟨p,ys,rfl,hq,q⟩:=h
  obtain ⟨u,rfl,rx⟩:=vals1 r
  cases rx
  have fin:∀ (its:List Value),Vals ys its→ys.length≤sizeLine→∀ (h':Heap) (c':Nat),(∀ b o',s.heap.get? b=some o'→h'.get? b=some o') →
      h'.get? s.heap.objs.size=some { cls:=.type "list",dict:=none,data:=.seq its.toArray c',slots:=#[] }→EP X pins σ Q (.ref s.heap.objs.size) { s with heap:=h' }:=fun its r' hz h' c' kp e =>
    ⟨.ref s.heap.objs.size,_,I.laid (t':=s.toks) kp (Nat.le_refl _) (show su X.prog X.w _ h' _ (.lst ys) from ⟨hz,its,c',r',e⟩),rfl,q _ (I.hok.fresh (Nat.le_refl _))⟩
  rcases hq with hq | hq
  · obtain ⟨its,r',pl,hz⟩:=I.list hq
    have hlen:=r'.length
    obtain ⟨o,ho,hc,n,hd⟩:=pl.isList
    exact call_list_seq p (.inl rfl) ho hc hd (fun h' c' kp e=>fin its r' hz h' c' kp e) (by simp only [List.size_toArray] <;> omega)
  · obtain ⟨its,r',pl,hz⟩:=I.tuple hq
    have hlen:=r'.length
    obtain ⟨o,ho,hc,n,hd⟩:=pl
    exact call_list_seq p (.inr rfl) ho hc hd (fun h' c' kp e=>fin its r' hz h' c' kp e) (by simp only [List.size_toArray] <;> omega)
theorem Gg:Eh X (.type "tuple") (fun xs H Q=>∃ p ys,xs=[.ref p]∧((SqL X.K H p ys∧∀ l,H l=none→Q (.ref l) (upd H l (.tup ys)))∨(SqT X.K H p ys∧Q (.ref p) H))):=by
  intro pins s σ H xs us Q I r h
  obtain ⟨p,ys,rfl,h⟩:=h
  obtain ⟨u,rfl,rx⟩:=vals1 r
  cases rx
  rcases h with ⟨hq,q⟩ | ⟨hq,q⟩
  · obtain ⟨its,r',pl,hz⟩:=I.list hq
    have hlen:=r'.length
    refine call_tuple_list pl.isList (fun h' kp=>?_) (by simp only [List.size_toArray] <;> omega)
    have I1:Inv X pins σ H { s with heap:=h' }:=I.kept (t':=s.toks) kp
    have I2:Inv X pins σ (upd H h'.objs.size (.tup ys)) { s with heap:=h'.push { cls:=.type "tuple",data:=.seq its.toArray } } :=
      I1.laid (t':=s.toks) (fun b o e=>Heap.get?_push_of_some _ e) (Nat.le_refl _) (show su X.prog X.w _ _ _ (.tup ys) from ⟨hz,its,r',a0j.new _ _⟩)
    exact ⟨.ref h'.objs.size,_,I2,rfl,q _ (I1.hok.fresh (Nat.le_refl _))⟩
  · obtain ⟨its,r',pl,hz⟩:=I.tuple hq
    exact call_tuple_same pl ⟨.ref p,H,I,rfl,q⟩
def tyV (K:PySem.W.Frag) (T:String) (x:V) (H:Hp):Prop:=match x with
  | .str _=>T = "str"
  | .int _=>T = "int"
  | .ref p=>(T = "list" ∧ ∃ xs,SqL K H p xs)∨(T = "tuple" ∧ ∃ o,K.lookup p=some o∧o.cls=.type "tuple" ∧ o.dict=none) ∨
      (T = "dict" ∧ ((∃ kvs,H p=some (.dK kvs))∨∃ kvs,H p=some (.dT kvs)))∨(T = "set" ∧ ∃ S n,H p=some (.set S n))
  | _=>False
theorem a89 {pins:List (Addr × Obj)} {σ:St} {H:Hp} {s:Shared} {T:String} {x:V} {v:Value} (I:Inv X pins σ H s) (r:RelV x v) (ty:tyV X.K T x H) :
    s.TypeIs v T∧∀ a,v=.ref a→∃ ob,s.heap.get? a=some ob∧ob.dict=none:=by
  cases x with
  | str z =>
    obtain ⟨t,rfl⟩:=r
    cases (show T = "str" from ty)
    exact ⟨typeIs_str s z t,fun _ e=>nomatch e⟩
  | int i =>
    obtain ⟨t,rfl⟩:=r
    cases (show T = "int" from ty)
    exact ⟨typeIs_int s i t,fun _ e=>nomatch e⟩
  | ref p =>
    cases r
    rcases ty with ⟨rfl,xs,hq⟩ | ⟨rfl,o,hk,hc,hd⟩ | ⟨rfl,hk⟩ | ⟨rfl,S,n,hk⟩
    · obtain ⟨its,_,pl,_⟩:=I.list hq
      refine ⟨pl.isList.typeIs,fun a e=>?_⟩
      cases e
      obtain ⟨o,n,e,c,hd,_⟩:=pl
      exact ⟨o,e,hd⟩
    · refine ⟨⟨o,I.kIn p o hk,hc⟩,fun a e=>?_⟩
      cases e
      exact ⟨o,I.kIn _ o hk,hd⟩
    · have z:∃ o,s.heap.get? p=some o∧o.ExactDict:=by
        rcases hk with ⟨kvs,hk⟩ | ⟨kvs,hk⟩
        · obtain ⟨_,_,_,_,o,_,_,e,ex,_⟩:=I.hok p _ hk
          exact ⟨o,e,ex⟩
        · obtain ⟨_,_,_,_,o,_,_,e,ex,_⟩:=I.hok p _ hk
          exact ⟨o,e,ex⟩
      obtain ⟨o,e,ex⟩:=z
      refine ⟨⟨o,e,ex.1⟩,fun a e2=>?_⟩
      cases e2
      exact ⟨o,e,ex.2.1⟩
    · obtain ⟨o,_,_,_,e,ex,_⟩:=I.hok p _ hk
      refine ⟨⟨o,e,ex.1⟩,fun a e2=>?_⟩
      cases e2
      exact ⟨o,e,ex.2.1⟩
  | _=>exact False.elim ty
def tBM (K:PySem.W.Frag) (T:String) (r:V→List V→Hp→VK→Prop) (to:TE) (t:TA):TE:=fun σ H Q=>to σ H fun x H1=>tyV K T x H1∧t σ H1 fun xs H2=>r x xs H2 Q
variable {o e:Expr} {es:List Expr} {to:TE} {t:TA} {name:Str} {apos cpos:Pos} {T id:String} {r:V→List V→Hp→VK→Prop}
theorem Ka (pa:PlainAttrs T) (slot:Slot T name id) (hty:typeOf (.builtin id)=pure (.type "method_descriptor")) (hm:MtR X id r) (ho:PE X o to) (ha:PA X (e::es) t)
    (hbase:attributeBase o name X.env (eval o X.env)=eval o X.env:=by rfl)
    (hfew:((backTo cpos (starEach (e::es) X.env)).all (fun x=>!x.1)&&(backToKw cpos (keywordEach [] X.env)).all (fun x=>x.1.isSome)
      && decide ((e::es).length+([]:List Keyword).length+(if ([]:List Keyword).isEmpty then 0 else 1)<30))=true:=by rfl)
    (hline:(apos.endLine==cpos.line)=true:=by rfl) (hs:starEach (e::es) X.env=(false,eval e X.env)::starEach es X.env:=by rfl) (hplain:(backTo cpos (starEach es X.env)).any (·.1)=false:=by rfl) :
    PE X (.Call (.Attribute o name apos) (e::es) [] cpos) (tBM X.K T r to t):=by
  intro pins s σ H Q I h
  refine wpAny_Call_method_late hbase hfew hline rfl (thn (ho pins s σ H _ I h) fun v s1 z0=>?_)
  obtain ⟨x,H1,I1,r1,ty,q1⟩:=z0
  obtain ⟨h1,h2⟩:=a89 I1 r1 ty
  refine ⟨T,id,pa,slot,hty,h1,h2,?_⟩
  have hA:=ha cpos pins s1 σ H1 _ I1 q1
  rw [hs] at hA ⊢
  refine Calls.callWith_builtin (by show (false||(backTo cpos (starEach es X.env)).any (·.1))=false; rw [hplain] <;> rfl) (Calls.evalArgs_plain ?_)
  exact thn hA fun us s2 ⟨vs,H2,I2,r2,q2⟩=>hm pins s2 σ H2 x vs v us Q I2 r1 r2 q2
end
end L2
namespace L2
open PySem PySem.Spec PyProof.Rows
def MtM (X:Cx) (id:String) (r:V→List V→Hp→VK→Prop):Prop :=
  ∀ (pins:List (Addr × Obj)) (s:Shared) (σ:St) (H:Hp) (x:V) (xs:List V) (v:Value) (us:List Value) (Q:VK),Inv X pins σ H s→RelV x v→Vals xs us→r x xs H Q →
    wpAny (model X.prog X.w) X.A (call (.builtin id) (v::us)) (EP X pins σ Q) X.xe s
theorem Vals.one {x:V} {us:List Value} (h:Vals [x] us):∃ u,us=[u]∧RelV x u:=by
  cases h with
  | cons r t=>cases t; exact ⟨_,rfl,r⟩
theorem Vals.two {x y:V} {us:List Value} (h:Vals [x,y] us):∃ u v,us=[u,v]∧RelV x u∧RelV y v:=by
  cases h with
  | cons r t=>obtain ⟨v,e,q⟩:=Vals.one t; exact ⟨_,v,congrArg _ e,r,q⟩
theorem Vals.zero:∀ {us:List Value},Vals [] us→us=[]
  | _,.nil=>rfl
theorem Vals.rep {xs:List V} {us:List Value} (h:Vals xs us):∀ k:Nat,Vals (List.replicate k xs).flatten (List.replicate k us).flatten
  | 0=>.nil
  | k+1=>by
    rw [List.replicate_succ,List.replicate_succ,List.flatten_cons,List.flatten_cons]
    exact Vals.append h (Vals.rep h k)
theorem foldl_rep (its:List Value):∀ (k:Nat) (acc:List Value),
    List.foldl (fun x1 x2=>x1++x2) acc.toArray (List.replicate k its.toArray)=(acc++(List.replicate k its).flatten).toArray
  | 0,acc=>by simp
  | k+1,acc=>by
    have e:acc.toArray++its.toArray=(acc++its).toArray:=by simp
    have e2:(acc++its)++(List.replicate k its).flatten=acc++(List.replicate (k+1) its).flatten:=by
      rw [List.replicate_succ,List.flatten_cons,List.append_assoc]
    rw [← e2,← foldl_rep its k (acc++its),← e,List.replicate_succ,List.foldl_cons]
section
variable {X:Cx} {pins:List (Addr × Obj)} {σ:St} {H:Hp} {s:Shared} {l b:Addr} {xs ys zs:List V}
theorem Inv.ad1 {its its':List Value} {n:Nat} {f:Array Value→Array Value} {t':Nat} (I:Inv X pins σ H s) (hH:H l=some (.lst xs))
    (e:s.heap.get? l=some { cls:=.type "list",data:=.seq its.toArray n }) (hf:f its.toArray=its'.toArray) (hv:Vals ys its') (hz:ys.length≤sizeLine) :
    Inv X pins σ (upd H l (.lst ys)) { s with heap:=s.heap.update l (Obj.mapSeq f),toks:=t' }:=by
  have q:=PySem.IsL.update e f
  rw [hf] at q
  refine I.write (x:=l) (e:=l) (by rw [hH]; exact trivial) (.inl rfl) (fun b' u hb hu=>(Heap.get?_update_other s.heap (Obj.mapSeq f) (Ne.symm hb)).trans hu) ⟨_,q⟩ ?_
  exact ⟨hz,its',_,hv,q⟩
theorem Inv.ac6 {its:List Value} {t':Nat} (I:Inv X pins σ H s) (hv:Vals ys its) (hz:ys.length≤sizeLine) :
    Inv X pins σ (upd H s.heap.objs.size (.lst ys)) { s with heap:=s.heap.push { cls:=.type "list",data:=.seq its.toArray },toks:=t' } :=
  I.laid (fun _ _ q=>Heap.get?_push_of_some _ q) (Nat.le_refl _) ⟨hz,its,0,hv,Heap.get?_push_size _ rfl⟩
theorem Inv.fresh (I:Inv X pins σ H s):H s.heap.objs.size=none:=I.hok.fresh (Nat.le_refl _)
theorem Inv.ac0 (I:Inv X pins σ H s) (hH:H l=some (.lst xs)):xs.length≤sizeLine∧∃ (its:List Value) (n:Nat),Vals xs its∧xs.length=its.length∧s.heap.get? l=some { cls:=.type "list",data:=.seq its.toArray n }:=by
  obtain ⟨z,its,n,r,e⟩:=I.hok l _ hH
  exact ⟨z,its,n,r,r.length,e⟩
theorem a2r {n:Nat} (h:n≤sizeLine):Builtin.List.listTooLong n=false:=by
  unfold Builtin.List.listTooLong
  exact decide_eq_false (by omega)
end
section
variable {X:Cx}
def Sx:V→List V→Hp→VK→Prop:=fun x vs H Q=>∃ l xs y,x=.ref l∧vs=[y]∧H l=some (.lst xs)∧xs.length<sizeLine∧Q .non (upd H l (.lst (xs++[y])))
theorem uq:MtM X "list.append" Sx:=by
  intro pins s σ H x vs v us Q I rx rv h
  obtain ⟨l,xs,y,rfl,rfl,hH,hz,q⟩:=h
  cases rx
  obtain ⟨u,rfl,ru⟩:=rv.one
  obtain ⟨z,its,n,r,hl,e⟩:=I.ac0 hH
  refine call_meets F.slot_list_append ⟨_,e,rfl⟩ F.entry_list_append (F.args_list_append_2 _ _) (PySem.list_append l its.toArray n u (by rw [List.size_toArray]; omega)) ⟨e,?_⟩
  refine ⟨.non,_,I.ad1 (its':=its++[u]) hH e (by simp) (r.append (.cons ru .nil)) ?_,rfl,q⟩
  rw [List.length_append,List.length_singleton]
  omega
def acw:R2:=fun x y H Q=>∃ l k xs,x=.ref l∧y=.int k∧H l=some (.lst xs)∧-(2 ^ 63)≤k∧k<2 ^ 63∧xs.length * k.toNat≤sizeLine ∧
  ∀ p,H p=none→Q (.ref p) (upd H p (.lst (List.replicate k.toNat xs).flatten))
theorem len_rep {α:Type} (xs:List α) (k:Nat):(List.replicate k xs).flatten.length=k * xs.length:=by
  induction k with
  | zero=>simp
  | succ k ih=>rw [List.replicate_succ,List.flatten_cons,List.length_append,ih,Nat.succ_mul,Nat.add_comm]
theorem a85:OpR X (binaryOp .Mult) acw:=by
  intro pins s σ H x y v u Q I rx ry h
  obtain ⟨l,k,xs,rfl,rfl,hH,h1,h2,hz,q⟩:=h
  cases rx
  obtain ⟨t,rfl⟩:=ry
  obtain ⟨z,its,n,r,hl,e⟩:=I.ac0 hH
  have hlen:its.toArray.size * k.toNat≤sizeLine:=by rw [List.size_toArray,← hl]; exact hz
  have hcap:¬ its.toArray.size * k.toNat > (2 ^ 63 - 1) / 8:=by
    have:(sizeLine:Nat)≤(2 ^ 63 - 1) / 8:=by decide
    omega
  have hfit:¬ (!Builtin.List.listFitsIndex k)=true:=by
    rw [fitsIndex_both h1 h2]
    exact Bool.false_ne_true
  have hlong:¬ Builtin.List.listTooLong (its.toArray.size * k.toNat)=true:=by
    rw [a2r hlen]
    exact Bool.false_ne_true
  have hnew:List.foldl (fun x1 x2=>x1++x2) #[] (List.replicate (if its.toArray.isEmpty=true then 0 else k.toNat) its.toArray)=(List.replicate k.toNat its).flatten.toArray:=by
    have f0:∀ m:Nat,List.foldl (fun x1 x2=>x1++x2) #[] (List.replicate m its.toArray)=(List.replicate m its).flatten.toArray:=fun m=>by
      have:=foldl_rep its m []
      rw [List.nil_append] at this
      exact this
    rw [f0]
    cases its with
    | nil=>simp
    | cons a r'=>rw [if_neg (by simp)]
  refine wpAny_binaryOp_repeat_ref (T := "list") (U := "int") (by decide) ⟨_,e,rfl⟩ (fun s'=>typeIs_int s' k t) noFill_list_mul F.fills_int_mul F.slot_int_rmul repeat_list F.slot_int_index.lookup
    (call_meets F.slot_int_rmul (typeIs_int s k t) F.entry_int_rmul (F.args_int_rmul_2 _ _) (int___rmul___int_list k t l its.toArray n)
      ⟨e,rfl,⟨_,e,rfl⟩,call_meets F.slot_list_mul ⟨_,e,rfl⟩ F.entry_list_mul (F.args_list_mul_2 _ _) (AutoListH.list___mul___list_int_3 l its.toArray n k t hfit hcap hlong) ⟨e,?_⟩⟩)
  rw [hnew]
  exact ⟨.ref _,_,I.ac6 (t':=s.toks) (r.rep k.toNat) (by rw [len_rep,Nat.mul_comm]; exact hz),rfl,q _ I.fresh⟩
end
section
variable {prog:Program} {w:World} {A:Around} {E:Value→Shared→Prop} {s:Shared}
end
section
variable {X:Cx}
end
end L2
end
section
namespace L2
open PySem PySem.Spec PyProof.Rows
section
variable {κ:Type} [DecidableEq κ]
def R9 (kvs:List (κ × V)) (k:κ):Option V:=(kvs.find? fun kv=>decide (kv.1=k)).map (·.2)
def putK (kvs:List (κ × V)) (k:κ) (v:V):List (κ × V) :=
  if (kvs.any fun kv=>decide (kv.1=k))=true then kvs.map (fun kv=>if kv.1=k then (kv.1,v) else kv) else kvs++[(k,v)]
def a7r (kvs:List (κ × V)) (k:κ):List (κ × V):=kvs.filter fun kv=>decide (kv.1≠k)
theorem J6 {p:κ × V} {r:List (κ × V)} {k:κ} (e:p.1=k):R9 (p::r) k=some p.2:=by simp [R9,List.find?_cons,e]
theorem J1 {p:κ × V} {r:List (κ × V)} {k:κ} (e:¬ p.1=k):R9 (p::r) k=R9 r k:=by simp [R9,List.find?_cons,e]
theorem Ub (k:κ):∀ kvs:List (κ × V),(kvs.any fun kv=>decide (kv.1=k))=(R9 kvs k).isSome
  | []=>rfl
  | p::r=>by
    rw [List.any_cons]
    by_cases e:p.1=k
    · simp only [J6 e,decide_eq_true e,Bool.true_or,Option.isSome_some]
    · rw [J1 e,decide_eq_false e,Bool.false_or]; exact Ub k r
theorem Kv (kvs:List (κ × V)) (k:κ) (v:V):(putK kvs k v).length≤kvs.length+1:=by
  unfold putK
  split
  · rw [List.length_map]; omega
  · rw [List.length_append,List.length_cons,List.length_nil]; omega
theorem Qy.Dh {o:Option V} {u:Option Value} (r:Qy o u):o.isSome=u.isSome:=by
  cases o with
  | none=>cases u with
    | none=>rfl
    | some _=>exact (show False from r).elim
  | some _=>cases u with
    | none=>exact (show False from r).elim
    | some _=>rfl
theorem Qy.getD {o:Option V} {u:Option Value} {d:V} {d':Value} (r:Qy o u) (rd:RelV d d'):RelV (o.getD d) (u.getD d'):=by
  cases o with
  | none=>cases u with
    | none=>exact rd
    | some _=>exact (show False from r).elim
  | some _=>cases u with
    | none=>exact (show False from r).elim
    | some _=>exact r
theorem KV.val {kvs:List (κ × V)} {vs:List (κ × Value)} (r:KV kvs vs) (k:κ):Qy (R9 kvs k) (valueAt vs k):=by
  unfold KV at r
  induction r with
  | nil=>exact True.intro
  | @cons p q ps qs h t ih =>
    obtain ⟨h1,h2⟩:=h
    by_cases e:p.1=k
    · have e':q.1=k:=h1.symm.trans e
      have b:valueAt (q::qs) k=some q.2:=by simp [valueAt,List.find?_cons,e']
      rw [J6 e,b]; exact h2
    · have e':¬ q.1=k:=fun z=>e (h1.trans z)
      have b:valueAt (q::qs) k=valueAt qs k:=by simp [valueAt,List.find?_cons,e']
      rw [J1 e,b]; exact ih
theorem KV.any {kvs:List (κ × V)} {vs:List (κ × Value)} (r:KV kvs vs) (k:κ):(kvs.any fun kv=>decide (kv.1=k))=vs.any fun kv=>decide (kv.1=k):=by
  unfold KV at r
  induction r with
  | nil=>rfl
  | cons h t ih=>rw [List.any_cons,List.any_cons,ih,h.1]
theorem KV.repl {kvs:List (κ × V)} {vs:List (κ × Value)} (r:KV kvs vs) (k:κ) {y:V} {u:Value} (ry:RelV y u) :
    KV (kvs.map fun kv=>if kv.1=k then (kv.1,y) else kv) (vs.map fun kv=>if kv.1=k then (kv.1,u) else kv):=by
  unfold KV at r ⊢
  induction r with
  | nil=>exact .nil
  | @cons p q ps qs h t ih =>
    rw [List.map_cons,List.map_cons]
    refine .cons ?_ ih
    obtain ⟨h1,h2⟩:=h
    by_cases e:p.1=k
    · rw [if_pos e,if_pos (h1.symm.trans e)]; exact ⟨h1,ry⟩
    · rw [if_neg e,if_neg (fun z=>e (h1.trans z))]; exact ⟨h1,h2⟩
theorem KV.put {kvs:List (κ × V)} {vs:List (κ × Value)} (r:KV kvs vs) (k:κ) {y:V} {u:Value} (ry:RelV y u):KV (putK kvs k y) (stored vs k u):=by
  unfold putK stored
  rw [r.any k]
  by_cases e:(vs.any fun kv=>decide (kv.1=k))=true
  · rw [if_pos e,if_pos e]; exact r.repl k ry
  · rw [if_neg e,if_neg e]; exact Paired.snoc r ⟨rfl,ry⟩
theorem KV.drop {kvs:List (κ × V)} {vs:List (κ × Value)} (r:KV kvs vs) (k:κ):KV (a7r kvs k) (without vs k):=by
  unfold KV at r ⊢
  unfold a7r without
  induction r with
  | nil=>exact .nil
  | @cons p q ps qs h t ih =>
    obtain ⟨h1,h2⟩:=h
    rw [List.filter_cons,List.filter_cons]
    by_cases e:p.1=k
    · have a:¬ decide (p.1≠k)=true:=by simp [e]
      have b:¬ decide (q.1≠k)=true:=by simp [h1.symm.trans e]
      rw [if_neg a,if_neg b]; exact ih
    · have e':¬ q.1=k:=fun z=>e (h1.trans z)
      have a:decide (p.1≠k)=true:=by simp [e]
      have b:decide (q.1≠k)=true:=by simp [e']
      rw [if_pos a,if_pos b]; exact .cons ⟨h1,h2⟩ ih
theorem KV.keys {kvs:List (κ × V)} {vs:List (κ × Value)} (r:KV kvs vs):kvs.map (·.1)=vs.map (·.1):=by
  unfold KV at r
  induction r with
  | nil=>rfl
  | cons h t ih=>rw [List.map_cons,List.map_cons,ih,h.1]
theorem KV.length {kvs:List (κ × V)} {vs:List (κ × Value)} (r:KV kvs vs):kvs.length=vs.length:=Paired.length r
end
theorem Tg {P:Program} {w:World} {k:Key} {u:Value} (r:RelV (kV k) u):(lg P w).is k u=true:=by
  cases k with
  | inl i=>obtain ⟨t,e⟩:=(show ∃ t,u=Value.int i t from r); subst e; exact Rf P w i t
  | inr x=>obtain ⟨t,e⟩:=(show ∃ t,u=Value.str x t from r); subst e; exact Rx P w x t
theorem Ox {P:Program} {w:World}:∀ {ks:List Key} {us:List Value},Vals (ks.map kV) us→ItemsAre (lg P w) ks us
  | [],_,r=>by rw [List.map_nil] at r; cases r; exact .nil
  | k::ks,_,r=>by
    rw [List.map_cons] at r
    cases r with
    | cons h t=>exact .cons (Tg h) (Ox t)
abbrev KT (H:Hp):List (List Key × V)→List (List Key × Addr × Value)→Prop:=Paired fun p q=>p.1=q.1∧H q.2.1=some (.tup (p.1.map kV))∧RelV p.2 q.2.2
theorem KT.val {H:Hp} {kvs:List (List Key × V)} {xs:List (List Key × Addr × Value)} (r:KT H kvs xs) (k:List Key):Qy (R9 kvs k) ((atKey xs k).map (·.2)):=by
  induction r with
  | nil=>exact True.intro
  | @cons p q ps qs h t ih =>
    obtain ⟨h1,_,h2⟩:=h
    by_cases e:p.1=k
    · have e':q.1=k:=h1.symm.trans e
      have b:atKey (q::qs) k=some q.2:=by simp [atKey,List.find?_cons,e']
      rw [J6 e,b]; exact h2
    · have e':¬ q.1=k:=fun z=>e (h1.trans z)
      have b:atKey (q::qs) k=atKey qs k:=by simp [atKey,List.find?_cons,e']
      rw [J1 e,b]; exact ih
theorem KT.repl {H:Hp} {kvs:List (List Key × V)} {xs:List (List Key × Addr × Value)} (r:KT H kvs xs) (k:List Key) {y:V} {u:Value} (ry:RelV y u) :
    KT H (kvs.map fun kv=>if kv.1=k then (kv.1,y) else kv) (xs.map (putAt k u)):=by
  induction r with
  | nil=>exact .nil
  | @cons p q ps qs h t ih =>
    rw [List.map_cons,List.map_cons]
    refine .cons ?_ ih
    obtain ⟨h1,h2,h3⟩:=h
    unfold putAt
    by_cases e:p.1=k
    · rw [if_pos e,if_pos (h1.symm.trans e)]; exact ⟨h1,h2,ry⟩
    · rw [if_neg e,if_neg (fun z=>e (h1.trans z))]; exact ⟨h1,h2,h3⟩
theorem KT.put {H:Hp} {kvs:List (List Key × V)} {xs:List (List Key × Addr × Value)} (r:KT H kvs xs) (k:List Key) {b:Addr} {y:V} {u:Value} (hb:H b=some (.tup (k.map kV))) (ry:RelV y u) :
    KT H (putK kvs k y) (storedH xs k b u):=by
  have e:(kvs.any fun kv=>decide (kv.1=k))=(atKey xs k).isSome:=by
    rw [Ub,(r.val k).Dh,Option.isSome_map]
  unfold putK storedH
  rw [e]
  by_cases q:(atKey xs k).isSome=true
  · rw [if_pos q,if_pos q]; exact r.repl k ry
  · rw [if_neg q,if_neg q]; exact Paired.snoc r ⟨rfl,hb,ry⟩
theorem KT.keeps {H H':Hp} {kvs:List (List Key × V)} {xs:List (List Key × Addr × Value)} (r:KT H kvs xs) (ht:∀ b ys,H b=some (.tup ys)→H' b=some (.tup ys)):KT H' kvs xs :=
  Paired.ac1 r fun _ _ z=>⟨z.1,ht _ _ z.2.1,z.2.2⟩
section
variable {P:Program} {w:World} {H:Hp} {h:Heap} {a:Addr}
theorem a90 {u:HO} (ok:HOk P w H h) (e:Rd H a u):su P w H h a u:=e.ok ok
theorem Kz {kvs:List (Key × V)} (ok:HOk P w H h) (e:Rd H a (.dK kvs)):kvs.length≤sizeLine∧(a==sysModules)=false∧∃ vs,KV kvs vs∧h.DictOf (lg P w) a vs :=
  show su P w H h a (.dK kvs) from a90 ok e
theorem abb {kvs:List (Key × V)} (ok:HOk P w H h) (e:H a=some (.dK kvs)):kvs.length≤sizeLine∧(a==sysModules)=false∧∃ vs,KV kvs vs∧h.DictOf (lg P w) a vs:=Kz ok (.inl e)
theorem Qj {ks:List Key} (ok:HOk P w H h) (e:H a=some (.tup (ks.map kV))):(tupleKind (lg P w)).is h ks a:=by
  obtain ⟨_,its,r,o,h1,h2,_,n,h3⟩:=(show su P w H h a (.tup (ks.map kV)) from ok a _ e)
  exact ⟨o,its.toArray,n,h1,h2,h3,by simpa using Ox r⟩
theorem Zt {kvs:List (List Key × V)} (ok:HOk P w H h) (e:Rd H a (.dT kvs)):kvs.length≤sizeLine∧(a==sysModules)=false ∧
    ∃ xs,KT H kvs xs∧h.DictOfH (tupleKind (lg P w)) a xs:=by
  obtain ⟨z,y,xs,r,o,es,ep,h1,h2,h3,h4,h5⟩:=(show su P w H h a (.dT kvs) from a90 ok e)
  refine ⟨z,y,xs,r,o,es,ep,h1,h2,h3,h4,fun x hx=>?_,h5⟩
  have all:∀ {l:List (List Key × V)} {m:List (List Key × Addr × Value)},KT H l m→∀ x∈m,(tupleKind (lg P w)).is h x.1 x.2.1:=by
    intro l m q
    induction q with
    | nil=>intro x hx; exact nomatch hx
    | @cons p q ps qs hq t ih =>
      intro x hx
      rcases List.mem_cons.mp hx with e | hx
      · subst e
        exact Qj ok (by rw [← hq.1]; exact hq.2.1)
      · exact ih x hx
  exact all r x hx
theorem aa3 {kvs:List (List Key × V)} (ok:HOk P w H h) (e:H a=some (.dT kvs)):kvs.length≤sizeLine∧(a==sysModules)=false ∧
    ∃ xs,KT H kvs xs∧h.DictOfH (tupleKind (lg P w)) a xs:=Zt ok (.inl e)
end
def Xm (H:Hp) (a:Addr) (y:V) (r:Option V):Prop :=
  (∃ kvs k,Rd H a (.dK kvs)∧y=kV k∧r=R9 kvs k)∨∃ kvs k b,Rd H a (.dT kvs)∧y=.ref b∧H b=some (.tup (k.map kV))∧r=R9 kvs k
def a7a (H:Hp) (a:Addr) (y v:V) (H':Hp):Prop :=
  (∃ kvs k,H a=some (.dK kvs)∧y=kV k∧kvs.length<sizeLine∧H'=upd H a (.dK (putK kvs k v))) ∨
  ∃ kvs k b,H a=some (.dT kvs)∧y=.ref b∧H b=some (.tup (k.map kV))∧kvs.length<sizeLine∧H'=upd H a (.dT (putK kvs k v))
theorem Xm.k {H:Hp} {a:Addr} {kvs:List (Key × V)} {k:Key} (e:H a=some (.dK kvs)):Xm H a (kV k) (R9 kvs k):=.inl ⟨kvs,k,.inl e,rfl,rfl⟩
theorem Xm.t {H:Hp} {a b:Addr} {kvs:List (List Key × V)} {k:List Key} (e:H a=some (.dT kvs)) (eb:H b=some (.tup (k.map kV))):Xm H a (.ref b) (R9 kvs k):=.inr ⟨kvs,k,b,.inl e,rfl,eb,rfl⟩
theorem a7a.k {H:Hp} {a:Addr} {kvs:List (Key × V)} {k:Key} {v:V} (e:H a=some (.dK kvs)) (hl:kvs.length<sizeLine):a7a H a (kV k) v (upd H a (.dK (putK kvs k v))):=.inl ⟨kvs,k,e,rfl,hl,rfl⟩
theorem a7a.t {H:Hp} {a b:Addr} {kvs:List (List Key × V)} {k:List Key} {v:V} (e:H a=some (.dT kvs)) (eb:H b=some (.tup (k.map kV))) (hl:kvs.length<sizeLine) :
    a7a H a (.ref b) v (upd H a (.dT (putK kvs k v))):=.inr ⟨kvs,k,b,e,rfl,eb,hl,rfl⟩
section
variable {X:Cx} {pins:List (Addr × Obj)} {σ:St} {H:Hp} {s:Shared} {a:Addr} {y v:V} {u r:Value} {o:Option V} {A:Around} {E:Value→Shared→Prop}
theorem Inv.big (I:Inv X pins σ H s):sysModules<s.heap.objs.size:=by
  have h:mainGlobals<s.heap.objs.size:=(I.mod.glob.keeps I.bk).lt
  exact Nat.lt_trans (by decide) h
theorem Q0 {Q:Value→Shared→Prop} (hu:A.units+1<cLine) (I:Inv X pins σ H s) (g:Xm H a y (some v)) (ry:RelV y u) (h:∀ w' s',Inv X pins σ H s'→RelV v w'→Q w' s') :
    wpAny (model X.prog X.w) A (getItem (.ref a) u) Q E s:=by
  rcases g with ⟨kvs,k,e,ey,l⟩ | ⟨kvs,k,b,e,ey,eb,l⟩
  · subst ey
    obtain ⟨z,hd,vs,rel,dd⟩:=Kz I.hok e
    obtain ⟨w',hw,rw'⟩:=Qy.some_of (v:=v) (o:=valueAt vs k) (by rw [l]; exact rel.val k)
    exact wpAny_getItem_of (Tg ry) dd.mapOf hw (h w' _ (I.tok _) rw')
  · subst ey
    cases (show u=Value.ref b from ry)
    obtain ⟨z,hd,xs,rel,dd⟩:=Zt I.hok e
    obtain ⟨w',hw,rw'⟩:=Qy.some_of (v:=v) (o:=(atKey xs k).map (·.2)) (by rw [l]; exact rel.val k)
    obtain ⟨p,hp,hp2⟩:=Option.map_eq_some_iff.mp hw
    refine wpAny_getItem_heap (tupleKind_room_in1 hu) (Qj I.hok eb) dd hp ?_
    rw [hp2]
    exact h w' _ (I.tok _) rw'
theorem adf {Q:Value→Shared→Prop} (hu:A.units+1<cLine) (I:Inv X pins σ H s) (g:Xm H a y o) (ry:RelV y u) (h:∀ s',Inv X pins σ H s'→Q (.bool o.isSome) s') :
    wpAny (model X.prog X.w) A (compareOp .In u (.ref a)) Q E s:=by
  rcases g with ⟨kvs,k,e,ey,l⟩ | ⟨kvs,k,b,e,ey,eb,l⟩
  · subst ey
    obtain ⟨z,hd,vs,rel,dd⟩:=Kz I.hok e
    refine wpAny_in_of (Tg ry) hd dd.mapOf ?_
    rw [← (rel.val k).Dh,← l]
    exact h _ (I.tok _)
  · subst ey
    cases (show u=Value.ref b from ry)
    obtain ⟨z,hd,xs,rel,dd⟩:=Zt I.hok e
    refine wpAny_in_heap (tupleKind_room_in1 hu) (Qj I.hok eb) hd dd ?_
    have q:=(rel.val k).Dh
    rw [Option.isSome_map] at q
    rw [← q,← l]
    exact h _ (I.tok _)
theorem a6r {Q:Value→Shared→Prop} (hu:A.units+1<cLine) (I:Inv X pins σ H s) (g:Xm H a y o) (ry:RelV y u) (h:∀ s',Inv X pins σ H s'→Q (.bool (!o.isSome)) s') :
    wpAny (model X.prog X.w) A (compareOp .NotIn u (.ref a)) Q E s:=by
  rcases g with ⟨kvs,k,e,ey,l⟩ | ⟨kvs,k,b,e,ey,eb,l⟩
  · subst ey
    obtain ⟨z,hd,vs,rel,dd⟩:=Kz I.hok e
    refine wpAny_notIn_of (Tg ry) hd dd.mapOf ?_
    rw [← (rel.val k).Dh,← l]
    exact h _ (I.tok _)
  · subst ey
    cases (show u=Value.ref b from ry)
    obtain ⟨z,hd,xs,rel,dd⟩:=Zt I.hok e
    refine wpAny_notIn_heap (tupleKind_room_in1 hu) (Qj I.hok eb) hd dd ?_
    have q:=(rel.val k).Dh
    rw [Option.isSome_map] at q
    rw [← q,← l]
    exact h _ (I.tok _)
theorem Xc {h':Heap} {t':Nat} {ob:HO} (I:Inv X pins σ H s) (mu:Mut (H a)) (hs:Heap.SameBut a s.heap h') (he:∃ q,h'.get? a=some q) (new:su X.prog X.w (upd H a ob) h' a ob) :
    Inv X pins σ (upd H a ob) { s with heap:=h',toks:=t' } :=
  I.write (x:=a) (e:=a) mu (.inl rfl) (fun b q hb z=>(hs.2 b hb).trans z) he new
theorem Ol {P:Program} {w:World} {H':Hp} {h':Heap} {kvs:List (Key × V)} {vs:List (Key × Value)} (z:kvs.length≤sizeLine) (hd:(a==sysModules)=false) (rel:KV kvs vs) (dd:h'.DictOf (lg P w) a vs) :
    su P w H' h' a (.dK kvs):=⟨z,hd,vs,rel,dd⟩
theorem Xu {H':Hp} {Q:Unit→Shared→Prop} (hu:A.units+1<cLine) (I:Inv X pins σ H s) (g:a7a H a y v H') (ry:RelV y u) (rv:RelV v r) (h:∀ s',Inv X pins σ H' s'→Q () s') :
    wpAny (model X.prog X.w) A (setItem (.ref a) u r) Q E s:=by
  rcases g with ⟨kvs,k,e,ey,l,eH⟩ | ⟨kvs,k,b,e,ey,eb,l,eH⟩
  · subst ey eH
    obtain ⟨z,hd,vs,rel,dd⟩:=abb I.hok e
    have hz:vs.length≤sizeLine:=by rw [← rel.length]; exact z
    have hl:(putK kvs k v).length≤sizeLine:=by have:=Kv kvs k v; omega
    refine wpAny_setItem_pairs (hsz:=hz) (Tg ry) dd fun h' dd' hs=>h _ ?_
    have he:∃ q,h'.get? a=some q:=let ⟨q,_,_,hq,_⟩:=dd'; ⟨q,hq⟩
    exact Xc I (by rw [e]; exact True.intro) hs he (Ol hl hd (rel.put k rv) dd')
  · subst ey eH
    cases (show u=Value.ref b from ry)
    obtain ⟨z,hd,xs,rel,dd⟩:=aa3 I.hok e
    have hz:xs.length≤sizeLine:=by rw [← Paired.length rel]; exact z
    have hl:(putK kvs k v).length≤sizeLine:=by have:=Kv kvs k v; omega
    refine wpAny_setItem_heap (hsz:=hz) (tupleKind_room_in1 hu) (Qj I.hok eb) dd fun h' dd' hs=>h _ ?_
    obtain ⟨q,es,ep,hq,h2,h3,h4,_,h5⟩:=dd'
    refine Xc I (by rw [e]; exact True.intro) hs ⟨q,hq⟩ ⟨hl,hd,_,(rel.put k eb rv).keeps fun c ys ec=>?_,q,es,ep,hq,h2,h3,h4,h5⟩
    rw [dw (aa1 ec e (fun z=>nomatch z))]
    exact ec
end
section
variable {X:Cx} {pins:List (Addr × Obj)} {σ:St} {H:Hp} {s:Shared} {a:Addr} {kvs:List (Key × V)} {k:Key} {u:Value} {A:Around} {E:Value→Shared→Prop}
theorem a98 {Q:Value→Shared→Prop} (I:Inv X pins σ H s) (e:Rd H a (.dK kvs)) (h:∀ t s',Inv X pins σ H s'→Q (.int kvs.length t) s'):wpAny (model X.prog X.w) A (call (.builtin "len") [.ref a]) Q E s:=by
  obtain ⟨z,hd,vs,rel,dd⟩:=Kz I.hok e
  refine call_len_dict hd dd (by rw [← rel.length]; rw [sizeLine_eq] at z; omega) ?_
  rw [← rel.length]
  exact h _ _ (I.tok _)
end
def aaw (i:Expr):Prop:=∀ ov iv,subscripted i false ov iv=operate [ov,iv] (getItem ov iv)
theorem a70 {prog:Program} {w:World} {A:Around} {E:Value→Shared→Prop} {s:Shared} {env:Env} {value slice:Expr} {pos:Pos} {T id:String} {Q:Value→Shared→Prop}
    (hl:typeLookup (.type T) "__getitem__" = pure (some (.builtin id))) (hs:aaw slice)
    (h:wpAny (model prog w) A (eval value env) (fun o s₁=>wpAny (model prog w) A (eval slice env) (fun i s₂=>s₂.TypeIs o T∧wpAny (model prog w) A (getItem o i) Q E s₂) E s₁) E s) :
    wpAny (model prog w) A (eval (.Subscript value slice pos) env) Q E s:=by
  refine Subscript_ (wpAny_mono h (fun o s₁ h₁=>wpAny_mono h₁ (fun i s₂ h₂=>?_) fun _ _ x=>x) fun _ _ x=>x)
  obtain ⟨hT,h₂⟩:=h₂
  unfold subscriptTail
  refine wpAny_bind ?_
  rw [getitemInPython_of_ne hT.not_modules]
  refine wpAny_bind (wpAny_specialOf hT hl ?_)
  have fin:wpAny (model prog w) A (subscripted slice false o i) (fun r s₃=>wpAny (model prog w) A (letTemporaryGo value o r >>= fun _=>pure r) Q E s₃) E s₂:=by
    rw [hs o i]
    exact wpAny_operating (wpAny_mono h₂ (fun r s₃ h₃=>wpAny_bind (wpAny_letTemporaryGo (wpAny_pure h₃))) fun _ _ x=>x)
  first
    | exact wpAny_pure (wpAny_bind fin)
    | exact wpAny_bind (wpAny_pure (wpAny_bind fin))
    | exact wpAny_bind fin
theorem Jv {X:Cx} {pins:List (Addr × Obj)} {σ:St} {H:Hp} {s:Shared} {a:Addr} {y:V} {o:Option V} (I:Inv X pins σ H s) (g:Xm H a y o):s.TypeIs (.ref a) "dict" := by
  rcases g with ⟨kvs,k,e,_,_⟩ | ⟨kvs,k,b,e,_,_,_⟩
  · obtain ⟨_,_,vs,_,dd⟩:=Kz I.hok e
    exact dd.typeIs
  · obtain ⟨_,_,xs,_,dd⟩:=Zt I.hok e
    exact dd.typeIs
def aaf (td ty:TE):TE:=fun σ H Q=>td σ H fun x H1=>ty σ H1 fun y H2=>∃ a v,x=.ref a∧Xm H2 a y (some v)∧Q v H2
def aad (td ty tv:TE):TS:=fun D σ H=>tv σ H fun v H1=>td σ H1 fun x H2=>ty σ H2 fun y H3=>∃ a H4,x=.ref a∧a7a H3 a y v H4∧D.nx σ H4
section
variable {X:Cx} {o i e value:Expr} {pos pos' tpos:Pos} {td ty tv:TE}
theorem a4n (hu:X.A.units+1<cLine) (ho:PE X o td) (hi:PE X i ty) (hs:aaw i):PE X (.Subscript o i pos) (aaf td ty):=by
  intro pins s σ H Q I h
  refine a70 PySem.F.slot_dict_getitem.lookup hs (thn (ho pins s σ H _ I h) fun u s1 ⟨x,H1,I1,rx,q1⟩=>thn (hi pins s1 σ H1 _ I1 q1) fun iv s2 ⟨y,H2,I2,ry,a,v,ex,g,q2⟩=>?_)
  subst ex
  obtain rfl:u=Value.ref a:=rx
  exact ⟨Jv I2 g,Q0 hu I2 g ry fun w' s3 I3 rw'=>⟨v,H2,I3,rw',q2⟩⟩
theorem a5c (hu:X.A.units+1<cLine) (ho:PE X o td) (hi:PE X i ty) (hv:PE X value tv) (hs:swapsWith value (some (.Subscript o i pos')) pos.line X.env=pure false) :
    PS X (.Assign [.Subscript o i pos'] value pos) (aad td ty tv):=by
  intro pins s σ H D I h
  refine wpAny_Assign_Subscript (thn (hv pins s σ H _ I h) fun r s1 ⟨v,H1,I1,rv,q1⟩=>thn (ho pins s1 σ H1 _ I1 q1) fun u s2 ⟨x,H2,I2,rx,q2⟩=>thn (hi pins s2 σ H2 _ I2 q2) fun iv s3 ⟨y,H3,I3,ry,a,H4,ex,g,q3⟩=>?_) hs
  subst ex
  obtain rfl:u=Value.ref a:=rx
  exact Xu hu I3 g ry rv fun s4 I4=>⟨σ,H4,I4,q3⟩
end
section
variable {X:Cx} {pos:Pos}
end
structure M1 (X:Cx) (o:Expr) (m:Str) (apos:Pos) (e:Expr) (cpos:Pos):Prop where
  base:attributeBase o m X.env (eval o X.env)=eval o X.env
  few:((backTo cpos (starEach [e] X.env)).all (fun x=>!x.1)&&(backToKw cpos (keywordEach [] X.env)).all (fun x=>x.1.isSome)
    && decide (([e]:List Expr).length+([]:List Keyword).length+(if ([]:List Keyword).isEmpty then 0 else 1)<30))=true
  line:(apos.endLine==cpos.line)=true
  trees:backTo cpos (starEach [e] X.env)=[(false,eval e X.env)]
structure M2 (X:Cx) (o:Expr) (m:Str) (apos:Pos) (e f:Expr) (cpos:Pos):Prop where
  base:attributeBase o m X.env (eval o X.env)=eval o X.env
  few:((backTo cpos (starEach [e,f] X.env)).all (fun x=>!x.1)&&(backToKw cpos (keywordEach [] X.env)).all (fun x=>x.1.isSome)
    && decide (([e,f]:List Expr).length+([]:List Keyword).length+(if ([]:List Keyword).isEmpty then 0 else 1)<30))=true
  line:(apos.endLine==cpos.line)=true
  trees:backTo cpos (starEach [e,f] X.env)=[(false,eval e X.env),(false,eval f X.env)]
section
variable {X:Cx} {pins:List (Addr × Obj)} {σ:St} {H:Hp} {s:Shared} {a:Addr} {y d:V} {u r:Value} {o:Option V} {A:Around} {E:Value→Shared→Prop}
end
section
variable {X:Cx} {o e f:Expr} {apos cpos:Pos} {td ty tx:TE}
end
section
variable {X:Cx} {pins:List (Addr × Obj)} {σ:St} {H:Hp} {s:Shared} {a:Addr} {kvs:List (Key × V)} {A:Around} {E:Value→Shared→Prop}
theorem V4 {Q:Value→Shared→Prop} (I:Inv X pins σ H s) (e:Rd H a (.dK kvs)) (h:∀ p s',H p=none→Inv X pins σ (upd H p (.dK kvs)) s'→Q (.ref p) s'):wpAny (model X.prog X.w) A (call (.type "dict") [.ref a]) Q E s:=by
  obtain ⟨z,hd,vs,rel,dd⟩:=Kz I.hok e
  refine kt_call_dict hd dd (by rw [← rel.length]; exact z) fun h' dd' hs=>?_
  refine h _ _ (I.hok.fresh (Nat.le_refl _)) (I.laid (a:=s.heap.objs.size) (o:=.dK kvs) (t':=s.toks) (fun b q hq=>?_) (Nat.le_refl _) (Ol z (beq_eq_false_iff_ne.mpr (Ne.symm (Nat.ne_of_lt I.big))) rel dd'))
  exact (hs.2 b (Nat.ne_of_lt (Heap.lt_size hq))).trans (Heap.get?_push_of_some _ hq)
end
section
variable {X:Cx} {pins:List (Addr × Obj)} {σ:St} {H:Hp} {s:Shared} {a:Addr} {y:V} {u:Value} {A:Around} {E:Value→Shared→Prop}
end
end L2
end
section
namespace Att
open PySem PySem.W PySem.Calls PyProof.Rows
theorem Ke {P:Params} {h:Heap}:∀ (ns:List Int) (vs:List Value),WellAll P h vs (ns.map WData.int)→IntsAre vs ns:=by
  intro ns
  induction ns with
  | nil =>
    intro vs w
    rw [List.map_nil] at w
    cases w
    exact .nil
  | cons n ns ih =>
    intro vs w
    rw [List.map_cons] at w
    cases w with
    | cons a b =>
      cases a
      exact .cons _ _ (ih _ b)
theorem a01 {l:OpenLaw} {n:Nat} (hn:l.most=some n) {P:Params} {h:Heap} {args:List WData} {vals:List Value}
    (hpre:l.row.toRowW.claim.pre args=true) (hwl:WellAll P h vals args) :
    ∃ a vs ns,vals=[Value.ref a]∧args=[WData.list (ns.map WData.int)]∧h.get? a=some { cls:=.type "list",data:=.seq vs.toArray }∧IntsAre vs ns∧ns.length≤n:=by
  have hsh:WShape.hasAll [] args [.list .int]=true:=(pre_splitW hpre).1
  have hc:l.pre.holds [] { args:=args } = true:=(pre_splitW hpre).2
  obtain ⟨d,r,rfl,h1,h2⟩:=hasAllW_cons hsh
  obtain rfl:=hasAllW_nil h2
  obtain ⟨xs,rfl,h3⟩:=hasW_list h1
  obtain ⟨ns,rfl⟩:=items_int h3
  have hlen:ns.length≤n:=by
    unfold OpenLaw.pre at hc
    have h4:(WTm.not (.lt (.lit (.int (n:Int))) (.len (.arg 0)))).holds [] { args:=[.list (ns.map .int)] } = true:=by
      have h4:=(holds_andW hc).1
      rw [hn] at h4
      exact h4
    have h5:=condW_of h4 (w_not (w_lt w_lit (w_len_list (w_arg rfl))))
    rw [List.length_map] at h5
    refine Nat.le_of_not_lt fun q=>?_
    have q':(n:Int)<((ns.length:Nat):Int):=by omega
    first
      | (rw [decide_eq_true q'] at h5; exact absurd h5 (by decide))
      | (simp at h5; omega)
  cases hwl with
  | cons w1 w2 =>
    cases w2
    cases w1 with
    | list ho hall=>exact ⟨_,_,ns,rfl,rfl,ho,Ke ns _ hall,hlen⟩
theorem Yt (l:OpenLaw) (args:List WData):l.row.toRowW.claim.post args (.bool true) args=true :=
  postW_of (r:=l.row.toRowW) (X:=(true==true))
    (show WShape.has [] (.bool true) .bool=true by first | rfl | decide | simp [WShape.has,WShape.arms,WShape.armsAll])
    (show (WTm.eq .res (.lit (.bool true))).value [] { args:=args,res:=some (.bool true),after:=args } = some (.bool (true==true)) from w_eq_bool (w_res rfl) w_lit) rfl
theorem S7 {l:OpenLaw} {n:Nat} {q:Program} {loose:List Str} {XP:(Str→Option Value)→Heap→Prop} {YP:World→Heap→Prop} {d:DefRec}
    (hn:l.most=some n) (hdf:d.params.defaults=[])
    (call:∀ (w:World) (s₀ s₁:Shared) (mg mb:Str→Option Value) (fa:Addr) (o:Obj) (pm cd doc:Value) (a:Addr) (vs:List Value) (ns:List Int),
      Ground q loose [] XP w s₀ mg mb s₁.heap→YP w s₁.heap →
      s₁.heap.get? fa=some o→o.data=.func (docDef d.name d.params d.body d.scope pm cd doc)→s₁.heap.CodeRec cd d.name→mg d.name=some (.ref fa) →
      s₁.heap.get? a=some { cls:=.type "list",data:=.seq vs.toArray }→IntsAre vs ns→ns.length≤n→s₁.gens = #[] →
      codeAny (model l.prog w) callerA (.call (.ref fa) ⟨[.ref a],[]⟩) (fun r s'=>r=.ok (.ret (.bool true))∧OldK s₁.heap s'.heap∧s'.os=s₁.os∧AllBare s'.gens) s₁) :
    WalkO q loose XP YP l.row.toRowW d [] (fun f vs=>PySem.call f vs):=by
  intro w s₀ s₁ mg mb G Y fa o pm cd doc dV kV ho hd hcd hD hmg hg args vals as hpre hlay hrd hwl hlo
  obtain rfl:dV=.none:=Dflts.none hD hdf
  obtain rfl:kV=.none:=Dflts.noKw hD
  obtain ⟨a,vs,ns,rfl,rfl,hobj,hints,hlen⟩:=a01 hn hpre hwl
  refine enter_call (codeAny_mono (call w s₀ s₁ mg mb fa o pm cd doc a vs ns G Y ho (fd_plain hd) hcd hmg hobj hints hlen hg) fun r s' hq=>?_)
  obtain ⟨rfl,h2,h3,h4⟩:=hq
  exact ⟨.inl ⟨.bool true,.bool true,[],rfl,fun _=>rfl,.bool true,Yt l _,fun _=>⟨List.Pairwise.nil,fun _ hm=>(nomatch hm)⟩⟩,h2,h3,h4⟩
section
variable {prog:Program} {w:World} {A:Around} {E:Value→Shared→Prop} {s:Shared} {K:Frag}
def Hw (h:Heap):Heap:={ h with objs:=#[] }
end
end Att
namespace L2
open PySem PySem.Spec PyProof.Rows
theorem Oe:∀ {vs:List Value} {ns:List Int},IntsAre vs ns→Vals (ns.map V.int) vs
  | _,_,.nil=>.nil
  | _,_,.cons n t h=>.cons ⟨t,rfl⟩ (Oe h)
def Only (H:Hp):Prop:=∀ b,H b=none∨∃ o xs,H b=some (.frz o (.lst xs))
theorem a1w {P:Program} {w:World} {K:PySem.W.Frag} {mg mb:Str→Option Value} {CX:CXT} {k:Nat} {fa a:Addr} {fd:FuncData} {x:Str} {sp:Sp} {s₁:Shared} {vs:List Value} {ns:List Int}
    (KX:K.In s₁.heap) (hns:s₁.heap.Ns mainGlobals mg) (hb:s₁.heap.Ns builtinsNs mb) (hbb:∀ x:Str,x ≠ "__name__" → mb x=bootBuiltins x) (hlim:s₁.heap.NoLimit) (hg:s₁.gens = #[])
    (ha:s₁.heap.get? a=some { cls:=.type "list",data:=.seq vs.toArray }) (hi:IntsAre vs ns) (hl:ns.length≤sizeLine) (hr:Ei k callerA)
    (F:∀ base:Heap,K.In base→base.Ns mainGlobals mg→Fg P w K mg base CX k fa fd [x] sp) (hbind:∀ (s:Shared) (u:Value),BindsTo s fd ⟨[u],[]⟩ [(x,u)])
    (hsp:∀ H:Hp,Only H→SqL K H a (ns.map V.int)→sp [.ref a] H (fun v _=>v=.bl true) fun _ _ _=>False)
    (hCX:∀ H e s',CX [] H s₁ (fun _ _ _=>False) e s'→False) :
    codeAny (model P w) callerA (.call (.ref fa) ⟨[.ref a],[]⟩) (fun r s'=>r=.ok (.ret (.bool true))∧OldK s₁.heap s'.heap∧s'.os=s₁.os∧AllBare s'.gens) s₁:=by
  have rv:=Oe hi
  have lenV:=hi.length
  have core:∀ H:Hp,Only H→SqL K H a (ns.map V.int)→HOk P w H s₁.heap→(∀ b,H b≠none→b=a)→(H a≠none→K.lookup a=none) →
      codeAny (model P w) callerA (.call (.ref fa) ⟨[.ref a],[]⟩) (fun r s'=>r=.ok (.ret (.bool true))∧OldK s₁.heap s'.heap∧s'.os=s₁.os∧AllBare s'.gens) s₁:=by
    intro H hO hS hok hA hK
    have base_of:∀ {b:Addr} {o:Obj},s₁.heap.get? b=some o→H b=none→(a1s s₁.heap H).get? b=some o:=fun e n=>a1r e n
    have noA:∀ {b:Addr} {o:Obj} {es:Array DictEntry} {ep:Nat},s₁.heap.get? b=some o→o.data=.dict es ep→H b=none:=fun {b o es ep} e d=>by
      cases q:H b with
      | none=>rfl
      | some u =>
        have e':b=a:=hA b (by rw [q]; simp)
        subst e'
        rw [ha] at e; cases e
        have d':Data.seq vs.toArray _=Data.dict es ep:=d
        cases d'
    have nsK:∀ {b:Addr} {m:Str→Option Value},s₁.heap.Ns b m→(a1s s₁.heap H).Ns b m:=fun {b m} ⟨o,es,ep,e,d,r⟩=>⟨o,es,ep,base_of e (noA e d),d,r⟩
    have hKb:K.In (a1s s₁.heap H):=fun b o e=>base_of (KX b o e) (by
      cases q:H b with
      | none=>rfl
      | some u =>
        have e':b=a:=hA b (by rw [q]; simp)
        subst e'
        rw [hK (by rw [q]; simp)] at e; cases e)
    have hM:Mod K mg (a1s s₁.heap H):=⟨hKb,nsK hns,⟨mb,nsK hb,hbb⟩,let ⟨mc,h1,h2⟩:=hlim; ⟨mc,nsK h1,h2⟩⟩
    have e0:a5k P w K mg (a1s s₁.heap H) callerA [] s₁ H:=⟨rfl,hM,fun b o e=>a7b e,Nat.le_of_eq (Wx _ _),trivial,fun b hb=>absurd (show b∈([]:List Addr) from hb) (by simp),hok,.of_eq hg⟩
    refine codeAny_mono ((F _ hKb (nsK hns)).run callerA [] s₁ H ⟨[.ref a],[]⟩ [.ref a] [.ref a] _ _ hr e0 (hbind s₁ (.ref a)) (.cons rfl .nil) (hsp H hO hS)) fun r s' h=>?_
    cases r with
    | error e=>exact (hCX H e s' h).elim
    | ok fl =>
      cases fl with
      | next=>exact False.elim h
      | brk=>exact False.elim h
      | cont=>exact False.elim h
      | ret u =>
        obtain ⟨v,H',os,bare,un,hok',r',q⟩:=h
        have q':v=.bl true:=q
        subst q'
        obtain rfl:u=Value.bool true:=r'
        refine ⟨rfl,OldK.of_keep fun b o e=>?_,os,bare⟩
        cases q:H b with
        | none=>exact un.keep b o e q (by intro z; exact absurd (show b∈([]:List Addr) from z) (by simp)) (by simp)
        | some u =>
          rcases hO b with z | ⟨ob,xs,z⟩
          · rw [q] at z; cases z
          · have z2:=un.frzs b ob _ z
            obtain ⟨e1,_⟩:=hok b _ z
            obtain ⟨e2,_⟩:=hok' b _ z2
            rw [e] at e1; cases e1
            exact e2
  cases hk:K.lookup a with
  | some o =>
    have e:=KX a o hk
    rw [ha] at e
    cases e
    refine core (fun _=>none) (fun _=>.inl rfl) (.inr ⟨_,vs.toArray,_,hk,rfl,rfl,rfl,by rw [List.size_toArray,lenV]; exact hl,by simpa using rv⟩) (fun b u z=>by have z':(none:Option HO)=some u:=z; cases z') (fun b z=>absurd rfl z) fun z=>absurd rfl z
  | none =>
    refine core (fun b=>if b=a then some (.frz { cls:=.type "list",data:=.seq vs.toArray } (.lst (ns.map V.int))) else none) (fun b=>?_) (.inl (.inr ⟨{ cls:=.type "list",data:=.seq vs.toArray },if_pos rfl⟩)) (fun b u z=>?_) (fun b z=>?_) fun _=>hk
    · by_cases hb:b=a
      · exact .inr ⟨_,_,if_pos hb⟩
      · exact .inl (if_neg hb)
    · by_cases hb:b=a
      · have z':=(if_pos hb).symm.trans z
        cases z'
        subst hb
        exact ⟨ha,by rw [List.length_map]; exact hl,vs,_,rv,ha⟩
      · have z':=(if_neg hb).symm.trans z
        cases z'
    · by_cases hb:b=a
      · exact hb
      · exact absurd (if_neg hb) z
end L2
namespace L2
open PySem PySem.Spec PyProof.Rows
theorem a72 {l:PySem.W.OpenLaw} {n k:Nat} {q:Program} {loose:List Str} {XP:(Str→Option Value)→Heap→Prop} {YP:World→Heap→Prop} {d:DefRec} {K:Params→PySem.W.Frag} {CX:World→CXT} {sp:World→Sp} {x:Str}
    (hn:l.most=some n) (hn2:n≤sizeLine) (hdf:d.params.defaults=[]) (hr:Ei k callerA)
    (hY:∀ (w:World) (h:Heap),YP w h→(K w.params).In h)
    (F:∀ (w:World) (mg:Str→Option Value) (fa:Addr) (h:Heap),(K w.params).In h→h.Ns mainGlobals mg→mg d.name=some (.ref fa) →
      ∃ fd:FuncData,(∀ (s:Shared) (u:Value),BindsTo s fd ⟨[u],[]⟩ [(x,u)]) ∧
        ∀ base:Heap,(K w.params).In base→base.Ns mainGlobals mg→Fg l.prog w (K w.params) mg base (CX w) k fa fd [x] (sp w))
    (hsp:∀ (w:World) (H:Hp) (a:Addr) (ns:List Int),ns.length≤n→Only H→SqL (K w.params) H a (ns.map V.int)→sp w [.ref a] H (fun v _=>v=.bl true) fun _ _ _=>False)
    (hCX:∀ (w:World) (H:Hp) (s:Shared) (e:Value) (s':Shared),CX w [] H s (fun _ _ _=>False) e s'→False) :
    PySem.W.WalkO q loose XP YP l.row.toRowW d [] (fun f vs=>PySem.call f vs):=by
  refine Att.S7 hn hdf fun w s₀ s₁ mg mb fa o pm cd doc a vs ns G Y ho hd hcd hmg hobj hints hlen hg=>?_
  have KX:=hY w _ Y
  obtain ⟨fd,hb,hF⟩:=F w mg fa _ KX G.T.g hmg
  exact a1w KX G.T.g G.T.b G.T.builtins G.T.nolimit hg hobj hints (Nat.le_trans hlen hn2) hr hF hb (fun H hO hS=>hsp w H a ns hlen hO hS) fun H e s'=>hCX w H s₁ e s'
end L2
namespace L2
open PySem PySem.Spec PyProof.Rows
def Dr (s:Stmt):Arguments:=match s with
  | .FunctionDef _ a _ _ _ _ _ _ _ _=>a
  | _=>{ posonlyargs:=[],args:=[],vararg:=none,kwonlyargs:=[],kw_defaults:=[],kwarg:=none,defaults:=[] }
def zy (s:Stmt):List Stmt:=match s with
  | .FunctionDef _ _ b _ _ _ _ _ _ _=>b
  | _=>[]
def dz (s:Stmt):Scope:=match s with
  | .FunctionDef _ _ _ _ _ _ sc _ _ _=>sc
  | _=>{ kind:=.function,names:=[],isGenerator:=false,isCoroutine:=false }
abbrev CX0:CXT:=fun _ _ _ _ _ _=>False
abbrev E0:XK:=fun _ _ _=>False
theorem aay {X:Cx}:Passes CX0 X E0:=fun _ _ _ _ _ _ _ h=>h.elim
structure Fun (K:PySem.W.Frag) (x qual:Str) (st:Stmt) (f:Addr) (fd:FuncData):Prop where
  ex:∃ (oc:Value) (od:Option Addr) (kV doc pm:Value) (an:Option Addr) (cdv ct:Value) (osl:Array (Option Value)),
    fd=PySem.W.fnOf x qual (Dr st) (zy st) (dz st) .none kV doc pm an cdv ct∧K.lookup f=some ⟨oc,od,.func fd,osl⟩∧PySem.W.codeIn K cdv qual=true
  kp:PySem.W.keepIn K (.ref f)=true
section
variable {P:Program} {w:World} {K:PySem.W.Frag} {mg:Str→Option Value} {base:Heap}
theorem Fun.ok {x qual:Str} {st:Stmt} {f:Addr} {fd:FuncData} {N ps:List Str} {k:Nat} {sp:Sp} (F:Fun K x qual st f fd) (S:jc N ps (dz st)) (len:∀ vs H Q E,sp vs H Q E→vs.length=ps.length)
    (hbody:∀ (cdv:Value) (A:Around) (outer:List Env) (s:Shared) (H:Hp) (vs:List V) (Q:VK) (E:XK),Ei k (A.deeper (envOfC qual (dz st) s.heap.objs.size f cdv))→sp vs H Q E →
      ∃ t,PSs (Yh CX0 P w K mg base N qual (dz st) f cdv A outer s H E).nox (zy st) t∧t { nx:=fun _ H'=>Q .non H',rt:=Q } (start N vs) H):Fg P w K mg base CX0 (k+1) f fd ps sp:=by
  obtain ⟨oc,od,kV,doc,pm,an,cdv,ct,osl,rfl,lk,hcd⟩:=F.ex
  refine Wy lk hcd S len fun A outer s H vs Q E hr hsp=>?_
  obtain ⟨t,h,q⟩:=hbody cdv A outer s H vs Q E hr hsp
  exact ⟨t,h.nox,q⟩
theorem Fun.binds {x qual:Str} {st:Stmt} {f:Addr} {fd:FuncData} {ps:List Str} (F:Fun K x qual st f fd)
    (h:∀ (kV doc pm:Value) (an:Option Addr) (cdv ct:Value) (us:List Value),us.length=ps.length→bindArgs (PySem.W.fnOf x qual (Dr st) (zy st) (dz st) .none kV doc pm an cdv ct) ⟨us,[]⟩=pure (ps.zip us)):Binds K fd ps []:=by
  obtain ⟨oc,od,kV,doc,pm,an,cdv,ct,osl,rfl,lk,hcd⟩:=F.ex
  exact .all (h kV doc pm an cdv ct)
theorem bd1 {fd:FuncData} {ps:List Str} (h:∀ a,bindArgs fd ⟨[a],[]⟩=pure (ps.zip [a])) (us:List Value) (hl:us.length=1):bindArgs fd ⟨us,[]⟩=pure (ps.zip us):=by
  cases us with
  | nil=>exact nomatch hl
  | cons a us =>
  cases us with
  | cons _ _=>simp at hl
  | nil=>exact h a
theorem bd2 {fd:FuncData} {ps:List Str} (h:∀ a b,bindArgs fd ⟨[a,b],[]⟩=pure (ps.zip [a,b])) (us:List Value) (hl:us.length=2):bindArgs fd ⟨us,[]⟩=pure (ps.zip us):=by
  cases us with
  | nil=>exact nomatch hl
  | cons a us =>
  cases us with
  | nil=>exact nomatch hl
  | cons b us =>
  cases us with
  | cons _ _=>simp at hl
  | nil=>exact h a b
theorem bd3 {fd:FuncData} {ps:List Str} (h:∀ a b c,bindArgs fd ⟨[a,b,c],[]⟩=pure (ps.zip [a,b,c])) (us:List Value) (hl:us.length=3):bindArgs fd ⟨us,[]⟩=pure (ps.zip us):=by
  cases us with
  | nil=>exact nomatch hl
  | cons a us =>
  cases us with
  | nil=>exact nomatch hl
  | cons b us =>
  cases us with
  | nil=>exact nomatch hl
  | cons c us =>
  cases us with
  | cons _ _=>simp at hl
  | nil=>exact h a b c
theorem bd4 {fd:FuncData} {ps:List Str} (h:∀ a b c d,bindArgs fd ⟨[a,b,c,d],[]⟩=pure (ps.zip [a,b,c,d])) (us:List Value) (hl:us.length=4):bindArgs fd ⟨us,[]⟩=pure (ps.zip us):=by
  cases us with
  | nil=>exact nomatch hl
  | cons a us =>
  cases us with
  | nil=>exact nomatch hl
  | cons b us =>
  cases us with
  | nil=>exact nomatch hl
  | cons c us =>
  cases us with
  | nil=>exact nomatch hl
  | cons d us =>
  cases us with
  | cons _ _=>simp at hl
  | nil=>exact h a b c d
theorem bd5 {fd:FuncData} {ps:List Str} (h:∀ a b c d e,bindArgs fd ⟨[a,b,c,d,e],[]⟩=pure (ps.zip [a,b,c,d,e])) (us:List Value) (hl:us.length=5):bindArgs fd ⟨us,[]⟩=pure (ps.zip us):=by
  cases us with
  | nil=>exact nomatch hl
  | cons a us =>
  cases us with
  | nil=>exact nomatch hl
  | cons b us =>
  cases us with
  | nil=>exact nomatch hl
  | cons c us =>
  cases us with
  | nil=>exact nomatch hl
  | cons d us =>
  cases us with
  | nil=>exact nomatch hl
  | cons e us =>
  cases us with
  | cons _ _=>simp at hl
  | nil=>exact h a b c d e
theorem Zm {x qual:Str} {st:Stmt} {f:Addr} {oc:Value} {od an:Option Addr} {osl:Array (Option Value)} {kV doc pm cdv ct:Value} (l:K.lookup f=some ⟨oc,od,.func (PySem.W.fnOf x qual (Dr st) (zy st) (dz st) .none kV doc pm an cdv ct),osl⟩)
    (c:PySem.W.codeIn K cdv qual=true) (k:PySem.W.keepIn K (.ref f)=true):Fun K x qual st f (PySem.W.fnOf x qual (Dr st) (zy st) (dz st) .none kV doc pm an cdv ct):=⟨⟨oc,od,kV,doc,pm,an,cdv,ct,osl,rfl,l,c⟩,k⟩
end
theorem yx {A:Around} {k:Nat} (hr:Ei k A):A.units+1<cLine:=Nat.lt_of_le_of_lt (Nat.add_le_add_left (by decide:1≤64) _) hr.units
theorem Dw {n:Nat} (h:n≤1000):n<sizeLine:=Nat.lt_of_le_of_lt h (by decide)
section
variable {X:Cx}
theorem pv (i:Nat) {x:Str} {pos:Pos} (hN:X.N[i]? = some x:=by rfl) (hv:Vis X.env.scope x:=by first | exact Or.inl rfl | exact Or.inr (Or.inl rfl) | exact Or.inr (Or.inr rfl)) (hd:(x==("__debug__" : Str))=false:=by decide)
    (hcd:(x==("__classdict__" : Str))=false:=by decide):PE X (.Name x pos) (W9 i):=Y6 hN hv hd hcd
end
theorem a5g {A B:Prop} (h:B):if false=true then A else B:=by
  rw [if_neg Bool.false_ne_true]
  exact h
theorem a6f {A B:Prop} (h:A):if true=true then A else B:=by
  rw [if_pos rfl]
  exact h
def Same (H H':Hp):Prop:=∀ b o,H b=some o→H' b=some o
theorem Same.refl (H:Hp):Same H H:=fun _ _ h=>h
theorem Same.trans {H H1 H2:Hp} (a:Same H H1) (b:Same H1 H2):Same H H2:=fun c o h=>b c o (a c o h)
theorem Same.free {H H':Hp} (e:Same H H') {l:Addr} (h:H' l=Option.none):H l=Option.none:=by
  cases q:H l with
  | none=>rfl
  | some o =>
    rw [e l o q] at h
    cases h
theorem Same.seq {K:PySem.W.Frag} {H H':Hp} {a:Addr} {xs:List V} (e:Same H H') (h:SqL K H a xs):SqL K H' a xs:=by
  rcases h with (h | ⟨o,h⟩) | h
  · exact .inl (.inl (e _ _ h))
  · exact .inl (.inr ⟨o,e _ _ h⟩)
  · exact .inr h
end L2
end
section
namespace L2
open PySem PySem.Spec PyProof.Rows
section
variable {X:Cx}
end
section
variable {κ:Type} [DecidableEq κ]
end
end L2
end
section
namespace C
open PySem
theorem jm {α:Type} {w:α} {P:Prop} (h:none=some w):P:=nomatch h
theorem zf {α:Type} {c:Prop} [Decidable c] {o:Option α} {w:α} (h:(if c then o else none)=some w):c∧o=some w:=by
  by_cases z:c
  · rw [if_pos z] at h; exact ⟨z,h⟩
  · rw [if_neg z] at h; exact jm h
abbrev Key:=Sum Int Str
inductive T where
  | non | bl (b:Bool) | int (i:Int) | str (x:Str)
  | tup (xs:List T) | lst (xs:List T) | dic (kvs:List (Key × T)) | obj (n:Nat)
instance:Inhabited T:=⟨.non⟩
inductive SO where
  | dic (kvs:List (Key × T)) | lst (xs:List T) | dit (kvs:List (List Key × T))
abbrev Slot:=Option (T × Bool)
structure Sta where
  env:List Slot
  sto:List SO
abbrev M (α:Type):=Sta→Option (α × Sta)
def Cm (k:Key):List (Key × T)→Option T
  | []=>none
  | (q,t)::r=>if q=k then some t else Cm k r
def La (k:Key) (t:T) (kvs:List (Key × T)):List (Key × T) :=
  if kvs.any fun p=>decide (p.1=k) then kvs.map fun p=>if p.1=k then (p.1,t) else p else kvs++[(k,t)]
def keyOf:T→Option Key
  | .int i=>some (.inl i)
  | .str x=>some (.inr x)
  | _=>none
def W3:Key→T
  | .inl i=>.int i
  | .inr x=>.str x
mutual
def dat:T→Option PyData
  | .non=>some .none
  | .bl b=>some (.bool b)
  | .int i=>some (.int i)
  | .str x=>if PyData.canLay0 (.str x) then some (.str x) else none
  | .tup xs=>(Fz xs).map .tuple
  | .lst xs=>(Fz xs).map .list
  | .dic _=>none
  | .obj _=>none
def Fz:List T→Option (List PyData)
  | []=>some []
  | x::r=>match dat x with
    | some a=>(Fz r).map (a :: ·)
    | none=>none
end
def eqD (a b:T):Option Bool:=match dat a with
  | some x=>match dat b with
    | some y=>if x.depth≤40 then some (PyData.eqv x y) else none
    | none=>none
  | none=>none
def a7j:List (Key × T)→List (Key × T)→Option Bool
  | [],_=>some true
  | (k,x)::r,ys=>match Cm k ys with
    | none=>some false
    | some y=>match eqD x y with
      | some e=>(a7j r ys).map (e && ·)
      | none=>none
def eqT:T→T→Option Bool
  | .dic a,.dic b=>if a.length=b.length then a7j a b else some false
  | x,y=>eqD x y
def aq (t:T):M T:=fun s=>some (t,s)
def bh (i:Nat):M T:=fun s=>match s.env[i]? with
  | some (some (t,false))=>some (t,s)
  | some (some (t,true))=>some (t,{ s with env:=s.env.set i (some (t,false)) })
  | _=>none
def fu:M (List T):=fun s=>some ([],s)
def ao (a:M T) (r:M (List T)):M (List T):=fun s=>match a s with
  | some (t,s1)=>match r s1 with
    | some (ts,s2)=>some (t::ts,s2)
    | none=>none
  | none=>none
def a09:List Str→M (List T)
  | []=>fu
  | x::r=>ao (aq (.str x)) (a09 r)
def jo (f:List T→Option T) (a:M (List T)):M T:=fun s=>match a s with
  | some (ts,s1)=>match f ts with
    | some t=>some (t,s1)
    | none=>none
  | none=>none
def mUn (f:T→Option T) (a:M T):M T:=fun s=>match a s with
  | some (t,s1)=>match f t with
    | some u=>some (u,s1)
    | none=>none
  | none=>none
def mOp (f:T→T→Option T) (a b:M T):M T:=fun s=>match a s with
  | some (t,s1)=>match b s1 with
    | some (u,s2)=>match f t u with
      | some v=>some (v,s2)
      | none=>none
    | none=>none
  | none=>none
abbrev Fn:=List T→List SO→Option (T × List SO)
def gb (F:Fn) (a:M (List T)):M T:=fun s=>match a s with
  | some (ts,s1)=>match F ts s1.sto with
    | some (t,sto)=>some (t,{ s1 with sto:=sto })
    | none=>none
  | none=>none
def gn (a:M T):M Bool:=fun s=>match a s with
  | some (.bl b,s1)=>some (b,s1)
  | _=>none
def Ws (a:M Bool):M Bool:=fun s=>match a s with
  | some (b,s1)=>some (!b,s1)
  | none=>none
def Lq (a b:M Bool):M Bool:=fun s=>match a s with
  | some (true,s1)=>b s1
  | some (false,s1)=>some (false,s1)
  | none=>none
def mOr (a b:M Bool):M Bool:=fun s=>match a s with
  | some (true,s1)=>some (true,s1)
  | some (false,s1)=>b s1
  | none=>none
def Gd (a:M Bool):M T:=fun s=>match a s with
  | some (b,s1)=>some (.bl b,s1)
  | none=>none
def mIf (c:M Bool) (a b:M T):M T:=fun s=>match c s with
  | some (true,s1)=>a s1
  | some (false,s1)=>b s1
  | none=>none
abbrev lim:Nat:=1000000
def Lg (i:Int):Bool:=decide (-(2 ^ 64)<i∧i<2 ^ 64)
def Hh:T→T→Option T
  | .int i,.int j=>some (.int (i+j))
  | .str x,.str y=>if x.length+y.length<lim then some (.str (x++y)) else none
  | .tup x,.tup y=>if x.length+y.length<lim then some (.tup (x++y)) else none
  | .lst x,.lst y=>if x.length+y.length<lim then some (.lst (x++y)) else none
  | _,_=>none
def Gm:T→T→Option T
  | .int i,.int j=>some (.int (i - j))
  | _,_=>none
def Ja:T→T→Option T
  | .int i,.int j=>if Lg i||Lg j then some (.int (i * j)) else none
  | .str x,.int j=>if 0≤j∧j≤1000∧x.length≤100 then some (.str ⟨((List.replicate j.toNat x.cps.toList).flatten).toArray⟩) else none
  | _,_=>none
def Kc:T→T→Option T
  | .int i,.int j=>if 0<j then some (.int (i%j)) else none
  | _,_=>none
def fdl:Nat:=2 ^ 200
def Hi:T→T→Option T
  | .int i,.int j=>if 0<j∧(j<1073741824∨j.natAbs<fdl) then some (.int (i / j)) else none
  | _,_=>none
def Vr:T→T→Option T
  | .int i,.int j=>if 0≤j∧j≤1000∧i.natAbs<1000 then some (.int (i ^ j.toNat)) else none
  | _,_=>none
def S9:T→Option T
  | .int i=>some (.int (-i))
  | _=>none
def ltT:T→T→Option T
  | .int i,.int j=>some (.bl (decide (i<j)))
  | _,_=>none
def leT:T→T→Option T
  | .int i,.int j=>some (.bl (decide (i≤j)))
  | _,_=>none
def gtT:T→T→Option T
  | .int i,.int j=>some (.bl (decide (j<i)))
  | _,_=>none
def eqO (x y:T):Option T:=match eqT x y with
  | some b=>some (.bl b)
  | none=>none
def neO (x y:T):Option T:=match eqT x y with
  | some b=>some (.bl (!b))
  | none=>none
def ixI (n:Nat) (i:Int):Option Nat:=if 0≤i then (if i<n then some i.toNat else none) else if -(n:Int)≤i then some (i+n).toNat else none
def cu:T→T→Option T
  | .tup xs,.int i=>(ixI xs.length i).bind (xs[·]?)
  | .lst xs,.int i=>(ixI xs.length i).bind (xs[·]?)
  | .str x,.int i=>if x.length<lim then (ixI x.cps.toList.length i).bind fun j=>(x.cps.toList[j]?).map fun c=>.str ⟨#[c]⟩ else none
  | .dic kvs,k=>(keyOf k).bind (Cm · kvs)
  | _,_=>none
def Nb:List T→Option T
  | [.tup xs]=>some (.int xs.length)
  | [.lst xs]=>some (.int xs.length)
  | [.str x]=>if x.length<lim then some (.int x.length) else none
  | [.dic kvs]=>some (.int kvs.length)
  | _=>none
def inL (x:T):List T→Option Bool
  | []=>some false
  | y::r=>match eqD y x with
    | some e=>(inL x r).map (e || ·)
    | none=>none
def inT (x y:T):Option T:=match y with
  | .dic kvs=>(keyOf x).map fun q=>.bl (Cm q kvs).isSome
  | _=>if (dat x).isSome then (match y with
    | .tup ys=>(inL x ys).map .bl
    | .lst ys=>(inL x ys).map .bl
    | _=>none) else none
def Cj (x y:T):Option T:=match inT x y with
  | some (.bl b)=>some (.bl (!b))
  | _=>none
def qu:List T→Option T
  | [.lst xs]=>some (.tup xs)
  | [.tup xs]=>some (.tup xs)
  | _=>none
def Nz:List T→Option T
  | [.lst xs]=>some (.lst xs)
  | [.tup xs]=>some (.lst xs)
  | _=>none
def vf:List T→Option (List (Key × T))
  | []=>some []
  | .tup [k,v]::r=>match keyOf k,vf r with
    | some q,some l=>some ((q,v)::l)
    | _,_=>none
  | _=>none
def G6:List T→Option T
  | [.lst xs]=>if xs.length<lim then (vf xs).map fun l=>.dic (l.foldl (fun d p=>La p.1 p.2 d) []) else none
  | [.tup xs]=>if xs.length<lim then (vf xs).map fun l=>.dic (l.foldl (fun d p=>La p.1 p.2 d) []) else none
  | [.dic kvs]=>some (.dic kvs)
  | _=>none
theorem Wg {k v:T} {r:List T} {q:Key} {l:List (Key × T)} (hk:keyOf k=some q) (hr:vf r=some l):vf (.tup [k,v]::r)=some ((q,v)::l):=by
  show (match keyOf k,vf r with | some q,some l=>some ((q,v)::l) | _,_=>none)=_
  rw [hk,hr]
def Zg:List T→Option (List Int)
  | []=>some []
  | .int i::r=>(Zg r).map (i :: ·)
  | _=>none
def a7w:List T→Option T
  | [.lst xs]=>(Zg xs).map fun l=>.int l.sum
  | _=>none
def Kh:List T→Option (List Str)
  | []=>some []
  | .str x::r=>(Kh r).map (x :: ·)
  | _=>none
def O7 (x:Str):List Str→List Str
  | []=>[x]
  | y::r=>if decide (x.cps.toList<y.cps.toList) then x::y::r else y::O7 x r
def Ae (l:List Str):List Str:=l.foldl (fun acc x=>O7 x acc) []
def K4:List T→Option T
  | [.lst xs]=>if xs.length<64 then (Kh xs).map fun l=>.lst ((Ae l).map .str) else none
  | [.dic kvs]=>if kvs.length<64 then (Kh (kvs.map fun p=>W3 p.1)).map fun l=>.lst ((Ae l).map .str) else none
  | _=>none
def O5:List T→Option T
  | [.lst _]=>some (.bl true)
  | [.obj _]=>none
  | [_]=>some (.bl false)
  | _=>none
def Vg:T→Bool
  | .non=>true
  | _=>false
def Zq (x y:T):Option T:=if Vg y then some (.bl (Vg x)) else none
def Bj (x y:T):Option T:=if Vg y then some (.bl (!Vg x)) else none
def ad3:List T→Option T
  | [.int i]=>some (.int (if i<0 then -i else i))
  | _=>none
def Gw (i:Nat):M T:=fun s=>match s.env[i]? with
  | some (some (.lst xs,_))=>some (.int xs.length,s)
  | some (some (.dic xs,_))=>some (.int xs.length,s)
  | _=>none
def G8 (i:Nat) (s:Sta):Bool:=match s.env[i]? with
  | some (some (.dic _,_))=>true
  | _=>false
def Hg (i:Nat) (s:Sta):Bool:=match s.env[i]? with
  | some (some (.lst _,_))=>true
  | _=>false
def rm (i:Nat) (k:M T):M T:=fun s=>if G8 i s then (match k s with
  | some (kt,s1)=>match s1.env[i]? with
    | some (some (.dic kvs,_))=>match (keyOf kt).bind (Cm · kvs) with
      | some t=>some (t,s1)
      | none=>none
    | _=>none
  | none=>none) else none
def Ab (o k:M T):M T:=fun s=>match o s with
  | some (.obj n,s1)=>match k s1 with
    | some (.int i,s2)=>match s2.sto[n]? with
      | some (.lst xs)=>match (ixI xs.length i).bind (xs[·]?) with
        | some t=>some (t,s2)
        | none=>none
      | _=>none
    | _=>none
  | _=>none
def Dz (o:M T):M T:=fun s=>match o s with
  | some (.obj n,s1)=>match s1.sto[n]? with
    | some (.lst xs)=>some (.int xs.length,s1)
    | _=>none
  | _=>none
def Ec (a:M (List T)):M T:=fun s=>match a s with
  | some (ts,s1)=>some (.obj s1.sto.length,{ s1 with sto:=s1.sto++[.lst ts] })
  | none=>none
inductive Flow where
  | next | ret (t:T) | brk | cont
abbrev S:=Sta→Option (Flow × Sta)
def zj:S:=fun s=>some (.next,s)
def j7 (a b:S):S:=fun s=>match a s with
  | some (.next,s1)=>b s1
  | r=>r
def v9 (e:M T):S:=fun s=>match e s with
  | some (t,s1)=>some (.ret t,s1)
  | none=>none
def sIf (c:M Bool) (a b:S):S:=fun s=>match c s with
  | some (true,s1)=>a s1
  | some (false,s1)=>b s1
  | none=>none
def jf (i:Nat) (t:T) (own:Bool) (s:Sta):Sta:={ s with env:=s.env.set i (some (t,own)) }
def vg (i:Nat) (e:M T):S:=fun s=>match e s with
  | some (t,s1)=>some (.next,jf i t false s1)
  | none=>none
def sNew (i:Nat) (e:M T):S:=fun s=>match e s with
  | some (t,s1)=>some (.next,jf i t true s1)
  | none=>none
def mz (i:Nat) (e:M T):S:=fun s=>if Hg i s then (match e s with
  | some (t,s1)=>match s1.env[i]? with
    | some (some (.lst xs,true))=>if xs.length<lim then some (.next,jf i (.lst (xs++[t])) true s1) else none
    | _=>none
  | none=>none) else none
def N8:T→Option (List T)
  | .lst xs=>some xs
  | .tup xs=>some xs
  | _=>none
def a6g (i:Nat) (e:M T):S:=fun s=>if Hg i s then (match e s with
  | some (t,s1)=>match N8 t,s1.env[i]? with
    | some ys,some (some (.lst xs,true))=>if xs.length+ys.length<lim then some (.next,jf i (.lst (xs++ys)) true s1) else none
    | _,_=>none
  | none=>none) else none
def Du (i:Nat) (k v:M T):S:=fun s=>match v s with
  | some (t,s1)=>if G8 i s1 then (match k s1 with
    | some (kt,s2)=>match s2.env[i]?,keyOf kt with
      | some (some (.dic kvs,true)),some q=>if kvs.length<lim then some (.next,jf i (.dic (La q t kvs)) true s2) else none
      | _,_=>none
    | none=>none) else none
  | none=>none
def a1l (i:Nat):S:=fun s=>match s.env[i]? with
  | some (some (.lst xs,true))=>some (.next,jf i (.lst xs.reverse) true s)
  | _=>none
def sNx (u:S):S:=fun s=>match u s with
  | some (.next,s1)=>some (.next,s1)
  | _=>none
def a5p (i:Nat):S:=fun s=>match s.env[i]? with
  | some (some (t,true))=>some (.ret t,s)
  | _=>none
def En (o k v:M T):S:=fun s=>match v s with
  | some (t,s1)=>match o s1 with
    | some (.obj n,s2)=>match k s2 with
      | some (.int i,s3)=>match s3.sto[n]? with
        | some (.lst xs)=>match ixI xs.length i with
          | some j=>some (.next,{ s3 with sto:=s3.sto.set n (.lst (xs.set j t)) })
          | none=>none
        | _=>none
      | _=>none
    | _=>none
  | none=>none
def K9 (i:Nat) (v:M T):S:=fun s=>match s.env[i]? with
  | some (some (.obj n,false))=>match s.sto[n]? with
    | some (.lst _)=>match v s with
      | some (t,s1)=>match s1.sto[n]? with
        | some (.lst xs)=>if xs.length<lim then some (.next,{ s1 with sto:=s1.sto.set n (.lst (xs++[t])) }) else none
        | _=>none
      | none=>none
    | _=>none
  | _=>none
abbrev G:=T→Sta→Option Sta
def hName (i:Nat):G:=fun t s=>some (jf i t false s)
def Ej (is:List Nat):G:=fun t s=>match t with
  | .tup xs=>if xs.length=is.length then some ((is.zip xs).foldl (fun s p=>jf p.1 p.2 false s) s) else none
  | _=>none
def sGo (g:G) (m:M T):S:=fun s=>match m s with
  | some (t,s1)=>match g t s1 with
    | some s2=>some (.next,s2)
    | none=>none
  | none=>none
def forL (g:G) (b:S):List T→S
  | []=>fun s=>some (.next,s)
  | t::r=>fun s=>match g t s with
    | some s1=>match b s1 with
      | some (.next,s2)=>forL g b r s2
      | some (.cont,s2)=>forL g b r s2
      | some (.brk,s2)=>some (.next,s2)
      | some (.ret v,s2)=>some (.ret v,s2)
      | none=>none
    | none=>none
def Hj (g:G) (it:M (List T)) (b:S):S:=fun s=>match it s with
  | some (ts,s1)=>forL g b ts s1
  | none=>none
def rangeT (n:Nat):List T:=(List.range n).map fun (k:Nat)=>.int (k:Int)
def Cz (a:M T):M (List T):=fun s=>match a s with
  | some (.int n,s1)=>if n.natAbs<lim then some (rangeT n.toNat,s1) else none
  | _=>none
def Aa (a:M T):M (List T):=fun s=>match a s with
  | some (.lst xs,s1)=>if xs.length<lim then some (xs,s1) else none
  | some (.tup xs,s1)=>if xs.length<lim then some (xs,s1) else none
  | _=>none
def lend (is:List Nat) (env:List Slot):List Slot:=env.mapIdx fun j x=>match x with
  | some (t,f)=>if f then (if j∈is then some (t,false) else none) else some (t,false)
  | none=>none
def Oz (s:Slot):Slot:=match s with
  | some (t,_)=>some (t,false)
  | none=>none
def kh (s:Sta):Sta:={ s with env:=s.env.map Oz }
def Bp (g:G) (c:M Bool) (e:M T):List T→Sta→List T→Option (List T × Sta)
  | [],s,acc=>some (acc,s)
  | t::r,s,acc=>match g t s with
    | some s1=>match c s1 with
      | some (true,s2)=>match e s2 with
        | some (u,s3)=>if acc.length<lim then Bp g c e r (kh s3) (acc++[u]) else none
        | none=>none
      | some (false,s2)=>Bp g c e r (kh s2) acc
      | none=>none
    | none=>none
def uz:M Bool:=fun s=>some (true,s)
def jg (is:List Nat) (env:List Slot):List Slot:=is.foldl (fun e i=>match e[i]? with
  | some (some (t,_))=>e.set i (some (t,false))
  | _=>e) env
def uy (nv:Nat) (cap:List Nat) (g:G) (it:M (List T)) (c:M Bool) (e:M T):M T:=fun s=>match it s with
  | some (ts,s1) =>
    let env:=jg cap s1.env
    match Bp g c e ts ⟨List.replicate nv none++cap.map (fun i=>(env[i]?).getD none),s1.sto⟩ [] with
    | some (us,s2)=>some (.lst us,⟨env,s2.sto⟩)
    | none=>none
  | none=>none
def qt (n:Nat) (b:S):Fn:=fun ts sto=>match b ⟨ts.map (fun t=>some (t,false))++List.replicate (n - ts.length) none,sto⟩ with
  | some (.ret t,s)=>some (t,s.sto)
  | some (.next,s)=>some (.non,s.sto)
  | _=>none
section
variable {s s':Sta} {t v:T} {a b:M T}
theorem Ks {f:T→T→Option T} (h:mOp f a b s=some (v,s')):∃ t s1 u,a s=some (t,s1)∧b s1=some (u,s')∧f t u=some v:=by
  unfold mOp at h
  cases ha:a s with
  | none=>rw [ha] at h; cases h
  | some p =>
    obtain ⟨t,s1⟩:=p; rw [ha] at h; dsimp only at h
    cases hb:b s1 with
    | none=>rw [hb] at h; cases h -- here
    | some p =>
      obtain ⟨u,s2⟩:=p; rw [hb] at h; dsimp only at h
      cases hf:f t u with
      | none=>rw [hf] at h; cases h
      | some w=>rw [hf] at h; cases h; exact ⟨t,s1,u,rfl,hb,hf⟩
theorem a5v {f:T→Option T} (h:mUn f a s=some (v,s')):∃ t,a s=some (t,s')∧f t=some v:=by
  unfold mUn at h
  cases ha:a s with
  | none=>rw [ha] at h; cases h
  | some p =>
    obtain ⟨t,s1⟩:=p; rw [ha] at h; dsimp only at h
    cases hf:f t with
    | none=>rw [hf] at h; cases h
    | some w=>rw [hf] at h; cases h; exact ⟨t,rfl,hf⟩
theorem Bq {f:List T→Option T} {a:M (List T)} (h:jo f a s=some (v,s')):∃ ts,a s=some (ts,s')∧f ts=some v:=by
  unfold jo at h
  cases ha:a s with
  | none=>rw [ha] at h; cases h
  | some p =>
    obtain ⟨t,s1⟩:=p; rw [ha] at h; dsimp only at h
    cases hf:f t with
    | none=>rw [hf] at h; cases h
    | some w=>rw [hf] at h; cases h; exact ⟨t,rfl,hf⟩
theorem Dv {r:M (List T)} {ts:List T} (h:ao a r s=some (ts,s')):∃ t s1 us,a s=some (t,s1)∧r s1=some (us,s')∧ts=t::us:=by
  unfold ao at h
  cases ha:a s with
  | none=>rw [ha] at h; cases h
  | some p =>
    obtain ⟨t,s1⟩:=p; rw [ha] at h; dsimp only at h
    cases hb:r s1 with
    | none=>rw [hb] at h; cases h -- here
    | some p=>obtain ⟨u,s2⟩:=p; rw [hb] at h; cases h; exact ⟨t,s1,u,rfl,hb,rfl⟩
theorem Zi {F:Fn} {a:M (List T)} (h:gb F a s=some (v,s')):∃ ts s1 sto,a s=some (ts,s1)∧F ts s1.sto=some (v,sto)∧s' = { s1 with sto:=sto }:=by
  unfold gb at h
  cases ha:a s with
  | none=>rw [ha] at h; cases h
  | some p =>
    obtain ⟨t,s1⟩:=p; rw [ha] at h; dsimp only at h
    cases hf:F t s1.sto with
    | none=>rw [hf] at h; cases h
    | some w=>obtain ⟨w,sto⟩:=w; rw [hf] at h; cases h; exact ⟨t,s1,sto,rfl,hf,rfl⟩
theorem Dt {b:Bool} (h:gn a s=some (b,s')):a s=some (.bl b,s'):=by
  unfold gn at h
  cases ha:a s with
  | none=>rw [ha] at h; cases h
  | some p =>
    obtain ⟨t,s1⟩:=p; rw [ha] at h
    cases t <;> first | (cases h; rfl) | (cases h)
theorem O9 {c:M Bool} (h:Gd c s=some (v,s')):∃ b,c s=some (b,s')∧v=.bl b:=by
  unfold Gd at h
  cases ha:c s with
  | none=>rw [ha] at h; cases h
  | some p=>obtain ⟨t,s1⟩:=p; rw [ha] at h; cases h; exact ⟨t,rfl,rfl⟩
theorem Tp {c:M Bool} {b:Bool} (h:Ws c s=some (b,s')):∃ k,c s=some (k,s')∧b=!k:=by
  unfold Ws at h
  cases ha:c s with
  | none=>rw [ha] at h; cases h
  | some p=>obtain ⟨t,s1⟩:=p; rw [ha] at h; cases h; exact ⟨t,rfl,rfl⟩
theorem Uu {c d:M Bool} {b:Bool} (h:Lq c d s=some (b,s')):(∃ s1,c s=some (true,s1)∧d s1=some (b,s'))∨(c s=some (false,s')∧b=false):=by
  unfold Lq at h
  cases ha:c s with
  | none=>rw [ha] at h; cases h
  | some p =>
    obtain ⟨k,s1⟩:=p; rw [ha] at h
    cases k with
    | true=>exact .inl ⟨s1,rfl,h⟩
    | false=>cases h; exact .inr ⟨rfl,rfl⟩
theorem a5y {c d:M Bool} {b:Bool} (h:mOr c d s=some (b,s')):(∃ s1,c s=some (false,s1)∧d s1=some (b,s'))∨(c s=some (true,s')∧b=true):=by
  unfold mOr at h
  cases ha:c s with
  | none=>rw [ha] at h; cases h
  | some p =>
    obtain ⟨k,s1⟩:=p; rw [ha] at h
    cases k with
    | false=>exact .inl ⟨s1,rfl,h⟩
    | true=>cases h; exact .inr ⟨rfl,rfl⟩
theorem a6s {c:M Bool} (h:mIf c a b s=some (v,s')):(∃ s1,c s=some (true,s1)∧a s1=some (v,s'))∨(∃ s1,c s=some (false,s1)∧b s1=some (v,s')):=by
  unfold mIf at h
  cases ha:c s with
  | none=>rw [ha] at h; cases h
  | some p =>
    obtain ⟨k,s1⟩:=p; rw [ha] at h
    cases k with
    | true=>exact .inl ⟨s1,rfl,h⟩
    | false=>exact .inr ⟨s1,rfl,h⟩
theorem U0 {i:Nat} (h:bh i s=some (v,s')):(s.env[i]? = some (some (v,false))∧s'=s)∨(s.env[i]? = some (some (v,true))∧s' = { s with env:=s.env.set i (some (v,false)) }):=by
  unfold bh at h
  split at h
  · rename_i t e; cases h; exact .inl ⟨e,rfl⟩
  · rename_i t e; cases h; exact .inr ⟨e,rfl⟩
  · cases h
end
end C
end
section
namespace L2
open PySem PySem.Spec PyProof.Rows
section
variable {pr:Program} {wd:World} {Ar:Around} {Rs:Result→Shared→Prop} {s:Shared}
theorem Qz {el tgt itr:Expr} {cs:List Expr} {scp:Scope} {ps:Pos} {itv accv:Value} {en:Env} (J:Nat→Shared→Prop)
    (turn:∀ n z,J n z→wpAny (model pr wd) Ar (pyNext itv) (fun nx z1=>match nx with
      | none=>Rs (.ok .next) z1
      | some v=>wpAny (model pr wd) Ar (letOwnedTupleGo tgt itv v) (fun _ z2=>wpAny (model pr wd) Ar (assign tgt en v) (fun _ z3 =>
          wpAny (model pr wd) Ar (forIn cs true fun c go=>if go=true then do let ok ← isTrue c en (eval c en); pure (ForInStep.yield ok) else pure (ForInStep.yield go)) (fun ok z4 =>
            if ok=true then wpAny (model pr wd) Ar (eval el en) (fun x z5 =>
              wpAny (model pr wd) Ar (call (.builtin "list.append") [accv,x]) (fun _ z6=>∃ m,m<n∧J m z6) (fun _ _=>False) z5) (fun _ _=>False) z4
            else ∃ m,m<n∧J m z4) (fun _ _=>False) z3) (fun _ _=>False) z2) (fun _ _=>False) z1) (fun _ _=>False) z)
    (n:Nat) (h:J n s) :
    codeAny (model pr wd) Ar (.compLoop (.ListComp el [⟨tgt,itr,cs,0⟩] scp ps) 0 itv accv en) Rs s:=by
  refine codeAny_loop rfl J (fun k z hz=>?_) n h
  show wpAny _ Ar ((compTurn (.ListComp el [⟨tgt,itr,cs,0⟩] scp ps) 0 itv accv en).onRaise (fun ex=>do noteFrame ex en; theTreesLotGoes ex)) _ _ z
  refine wpAny_noted ?_
  rw [compTurn_list]
  refine wpAny_bind (wpAny_standAt (wpAny_bind (wpAny_mono (turn k z hz) (fun nx z1 g1=>?_) fun _ _ no=>no.elim)))
  cases nx with
  | none=>exact wpAny_pure g1
  | some v =>
    refine wpAny_bind (wpAny_mono g1 (fun _ z2 g2=>?_) fun _ _ no=>no.elim)
    refine wpAny_bind (wpAny_mono g2 (fun _ z3 g3=>wpAny_bind (wpAny_mono g3 (fun ok z4 g4=>?_) fun _ _ no=>no.elim)) fun _ _ no=>no.elim)
    cases ok with
    | false=>exact wpAny_pure (And.intro rfl g4)
    | true =>
      exact wpAny_bind (wpAny_bind (wpAny_mono g4 (fun x z5 g5=>wpAny_bind (wpAny_mono g5 (fun _ z6 g6=>wpAny_pure (wpAny_pure (And.intro rfl g6))) fun _ _ no=>no.elim)) fun _ _ no=>no.elim))
end
def Vp (env:Env):List (Str × NameKind)→List (Str × Addr)→List (Str × Addr)
  | [],cs=>cs
  | (n,k)::r,cs=>Vp env r (if (k==NameKind.free)=true then (match env.cells.lookup n with | some c=>(n,c)::cs | none=>cs) else cs)
def Ed (env:Env) (names:List (Str × NameKind)):Bool:=names.all fun y=>!(y.2==NameKind.free)||(env.cells.lookup y.1).isSome
theorem G5 {scope:Scope} {env:Env} (h:Ed env scope.names=true):closureFor scope env=pure (Vp env scope.names []):=by
  have key:∀ (l:List (Str × NameKind)) (cs:List (Str × Addr)),Ed env l=true →
      (forIn (m:=Sem) l cs fun x r=>(do
        if (x.2==NameKind.free)=true then
          let c ← cellOf env x.1
          pure (ForInStep.yield ((x.1,c)::r))
        else pure (ForInStep.yield r)))=pure (Vp env l cs):=by
    intro l
    induction l with
    | nil=>intro cs _; rfl
    | cons x r ih =>
      intro cs h
      obtain ⟨n,k⟩:=x
      unfold Ed at h
      rw [List.all_cons,Bool.and_eq_true] at h -- here
      obtain ⟨h1,h2⟩:=h
      rw [List.forIn_cons]
      by_cases hk:(k==NameKind.free)=true
      · have h1':(env.cells.lookup n).isSome=true:=by simpa [hk] using h1
        obtain ⟨c,hc⟩:=Option.isSome_iff_exists.mp h1'
        have e:cellOf env n=pure c:=by unfold cellOf; rw [hc]
        simp only [hk,if_true,e,pure_bind]
        rw [ih _ h2]
        simp only [Vp,hk,if_true,hc]
      · simp only [hk,if_false,pure_bind,Bool.false_eq_true]
        rw [ih _ h2]
        simp only [Vp,hk,if_false,Bool.false_eq_true]
  have:=key scope.names [] h
  unfold closureFor
  simpa using this
def qz (X:Cx) (scope:Scope) (N:List Str) (C:Addr) (s₀:Shared) (H₀:Hp) (ex:List Addr) (pn:List (Addr × Obj)):Cx :=
  { X with N:=N,s₀:=s₀,H₀:=H₀,env:=compEnvC scope (Vp X.env scope.names []) C X.env,outer:=X.stack,ex:=ex,fn:=fun _=>false,pn:=pn,xe:=fun _ _=>False }
structure Ht (X:Cx) (scope:Scope) (N:List Str):Prop where
  has:Ed X.env scope.names=true
  kind:scope.kind=.function
  nocell:∀ y∈scope.names,y.2≠.cell
  names:∀ y∈scope.names,y.2=.local→scope.names.lookup y.1=some .local
def a9q (X:Cx) (scope:Scope) (x:Str):Prop :=
  (X.env.kindOf x=some .cell∨X.env.kindOf x=some .free)∧Vis X.env.scope x∧((relabel scope X.env).names.lookup x=some .cell∨(relabel scope X.env).names.lookup x=some .free)
theorem Kf {env:Env}:∀ (l:List (Str × NameKind)) (cs:List (Str × Addr)),(∀ x c,cs.lookup x=some c→env.cells.lookup x=some c) →
    ∀ x c,(Vp env l cs).lookup x=some c→env.cells.lookup x=some c
  | [],cs,h,x,c,e=>h x c e
  | (n,k)::r,cs,h,x,c,e=>by
    rw [Vp] at e
    refine Kf r _ (fun y d q=>?_) x c e
    split at q
    · split at q
      · rename_i c' hc'
        rw [List.lookup_cons] at q
        split at q
        · rename_i hb
          cases q
          have hyn:=eq_of_beq hb
          rw [hyn]; exact hc'
        · exact h y d q
      · exact h y d q
    · exact h y d q
theorem X3 {env:Env}:∀ (l:List (Str × NameKind)) (cs:List (Str × Addr)) (x:Str),(∃ c,cs.lookup x=some c)→∃ c,(Vp env l cs).lookup x=some c
  | [],cs,x,h=>h
  | (n,k)::r,cs,x,h=>by
    rw [Vp]
    refine X3 r _ x ?_
    split
    · split
      · rename_i c' hc'
        rw [List.lookup_cons]
        split
        · exact ⟨_,rfl⟩
        · exact h
      · exact h
    · exact h
theorem Yv {env:Env}:∀ (l:List (Str × NameKind)) (cs:List (Str × Addr)) (x:Str),Ed env l=true→(x,NameKind.free)∈l→∃ c,(Vp env l cs).lookup x=some c
  | [],cs,x,_,h=>by simp at h
  | (n,k)::r,cs,x,hh,h=>by
    unfold Ed at hh
    rw [List.all_cons,Bool.and_eq_true] at hh
    rw [Vp]
    rcases List.mem_cons.mp h with e | h'
    · injection e with e1 e2
      subst e1; subst e2
      have h1:(env.cells.lookup x).isSome=true:=by simpa using hh.1
      obtain ⟨c,hc⟩:=Option.isSome_iff_exists.mp h1
      refine X3 r _ x ?_
      simp [hc]
    · exact Yv r _ x hh.2 h'
theorem mem_of_lookup {α:Type}:∀ {l:List (Str × α)} {x:Str} {k:α},l.lookup x=some k→(x,k)∈l
  | [],_,_,h=>by simp at h
  | (n,k')::r,x,k,h=>by
    rw [List.lookup_cons] at h
    split at h
    · rename_i hb
      cases h
      have hyn:=eq_of_beq hb
      rw [hyn]; exact List.mem_cons_self
    · exact List.mem_cons_of_mem _ (mem_of_lookup h)
theorem V2 {scope:Scope} {env:Env} (nc:∀ y∈scope.names,y.2≠.cell) {x:Str} (h:(relabel scope env).names.lookup x=some .cell∨(relabel scope env).names.lookup x=some .free):(x,NameKind.free)∈scope.names:=by
  have:∃ k,(x,k)∈(relabel scope env).names∧(k=.cell∨k=.free):=by
    rcases h with h | h
    · exact ⟨_,mem_of_lookup h,.inl rfl⟩
    · exact ⟨_,mem_of_lookup h,.inr rfl⟩
  obtain ⟨k,hm,hk⟩:=this
  obtain ⟨⟨n,k'⟩,hm',e⟩:=List.mem_map.mp hm
  dsimp only at e
  split at e
  · rename_i hc
    cases e
    simp only [Bool.and_eq_true,beq_iff_eq] at hc
    obtain ⟨⟨h1,_⟩,_⟩:=hc
    subst h1; exact hm'
  · cases e
    rcases hk with rfl | rfl
    · exact absurd rfl (nc _ hm')
    · exact hm'
def PTs (X:Cx) (ifs:List Expr) (t:TT):Prop:=∀ (pins:List (Addr × Obj)) (s:Shared) (σ:St) (H:Hp) (Q:Bool→Hp→Prop),Inv X pins σ H s→t σ H Q →
  wpAny (model X.prog X.w) X.A (forIn ifs true fun c r=>if r=true then do let ok ← isTrue c X.env (eval c X.env); pure (ForInStep.yield ok) else pure (ForInStep.yield r)) (TP X pins σ Q) X.xe s
theorem a5q {X:Cx}:PTs X [] (fun _ H Q=>Q true H):=fun pins s σ H Q I h=>wpAny_tests_nil ⟨H,I,h⟩
theorem a4r {X:Cx} {c:Expr} {t:TT} (h:PT X c t):PTs X [c] t:=fun pins s σ H Q I q=>wpAny_tests_one (h pins s σ H Q I q)
def Rg (X:Cx) (scope:Scope) (N:List Str) (g:TG) (tc:TT) (te:TE) (σ:St) (J:It) (H1:Hp) (Q:VK):Prop:=∀ D,H1 D=none→∃ σ0:St,σ0.length=N.length ∧
  (∀ (i:Nat) (v:V) (x:Str),σ0[i]? = some (some v)→N[i]? = some x→Vis (relabel scope X.env) x→∃ k:Nat,X.N[k]? = some x∧σ[k]? = some (some v)∧a9q X scope x) ∧
  ∃ W:Nat→Nat→St→Hp→Prop,(∃ m,W 0 m σ0 (upd H1 D (.lst [])))∧∀ i m σ' H',W i m σ' H' →
    (J.stop i H'∧Q (.ref D) H')∨(J.go i H'∧∀ x H2,J.yld i H' x H2→g x σ' H2 fun σ2 H3=>tc σ2 H3 fun b H4=>if b=true then te σ2 H4 fun y H5=>∃ l,H5 D=some (.lst l)∧l.length<sizeLine∧∃ m',m'<m∧W (i+1) m' σ2 (upd H5 D (.lst (l++[y]))) else ∃ m',m'<m∧W (i+1) m' σ2 H4)
def a3c (X:Cx) (scope:Scope) (N:List Str) (wi:TI) (g:TG) (tc:TT) (te:TE):TE:=fun σ H Q=>wi σ H fun J H1=>Rg X scope N g tc te σ J H1 Q
section
variable {X:Cx} {scope:Scope} {N:List Str}
theorem Yz (sc:Ht X scope N) {pins:List (Addr × Obj)} {σ:St} {H:Hp} {s:Shared} {fp:List Addr} (I:Inv X pins σ H s) (hf:∀ b∈fp,Ra X pins H b) (hfl:∀ b∈fp,b<s.heap.objs.size) :
    (qz X scope N s.heap.objs.size s H fp (X.pn++pins)).Ok where
  mod:=I.ok.mod
  kind:=sc.kind
  glob:=I.ok.glob
  blt:=I.ok.blt
  above:=Nat.le_refl _
  inj:=fun x y c h1 h2=>I.ok.inj x y c (Kf _ [] (fun _ _ z=>by simp at z) x c h1) (Kf _ [] (fun _ _ z=>by simp at z) y c h2)
  has:=fun x h=>Yv _ [] x sc.has (V2 sc.nocell h)
  cab:=fun x c h=>by cases h
  hd:=I.ok.hd
  frames:=I.ok.frames
  stk:=.inl rfl
  exf:=fun b hb=>⟨Nat.ne_of_lt (hfl b hb),fun x c h=>(hf b hb).2.2.2.2.1 x c (Kf _ [] (fun _ _ z=>by simp at z) x c h)⟩
  bs:=I.bs
  bsz:=Nat.le_trans I.ok.bsz I.sz
  noex:=fun b o e hb=>by
    rcases (hf b hb).2.2.2.1 with z | z
    · exact I.ok.noex b o e z
    · exact absurd (Nat.lt_of_lt_of_le (Heap.lt_size e) (Nat.le_trans I.ok.bsz z)) (Nat.lt_irrefl _)
  exfs:=fun b hb z=>by
    rcases List.mem_cons.mp (I.Qv b z) with e | e
    · exact (hf b hb).2.1 e
    · exact (hf b hb).2.2.1 e
  Ti:=I.stack
  frf:=I.Rb
theorem Wa (sc:Ht X scope N) {pins:List (Addr × Obj)} {σ σ0:St} {H:Hp} {s:Shared} {fp:List Addr} {h':Heap} {m:Str→Option Value} {tk:Nat} (I:Inv X pins σ H s) (hf:∀ b∈fp,Ra X pins H b) (hfl:∀ b∈fp,b<s.heap.objs.size)
    (hl:σ0.length=N.length) (h0:∀ (i:Nat) (v:V) (x:Str),σ0[i]? = some (some v)→N[i]? = some x→Vis (relabel scope X.env) x→∃ k:Nat,X.N[k]? = some x∧σ[k]? = some (some v)∧a9q X scope x)
    (hn:h'.Ns s.heap.objs.size m) (hk:∀ b o,s.heap.get? b=some o→h'.get? b=some o) :
    Inv (qz X scope N s.heap.objs.size s H fp (X.pn++pins)) [] σ0 H { s with heap:=h',toks:=tk } where
  ok:=Yz sc I hf hfl
  os:=rfl
  bare:=I.bare
  base:=Un.kept hk
  loc:=⟨m,hn,fun i x v e1 e2 e3=>by
    obtain ⟨k,n2,n3,ck,cv,cr⟩:=h0 i v x e2 e1 e3
    obtain ⟨m0,_,hl0⟩:=I.loc
    obtain ⟨u,r,l⟩:=hl0 k x v n2 n3 cv
    refine ⟨u,r,.inr ⟨cr,?_⟩⟩
    rcases l with ⟨l1,_⟩ | ⟨_,c,hc,z⟩
    · rcases ck with q | q <;> (rw [l1] at q; cases q)
    · obtain ⟨c',hc'⟩:=Yv (env:=X.env) scope.names [] x sc.has (V2 sc.nocell cr)
      have q:=Kf scope.names [] (fun _ _ z=>by simp at z) x c' hc'
      rw [hc] at q; cases q
      obtain ⟨o,ho,hd⟩:=z
      exact ⟨c,hc',o,hk _ _ ho,hd⟩⟩
  cell:=fun x c e=>by
    obtain ⟨v,o,ho,hd⟩:=I.cell x c (Kf scope.names [] (fun _ _ z=>by simp at z) x c e)
    exact ⟨v,o,hk _ _ ho,hd⟩
  free:=I.hok.fresh (Nat.le_refl _)
  freeC:=fun x c e=>I.freeC x c (Kf scope.names [] (fun _ _ z=>by simp at z) x c e)
  pin:=fun p hp=>by
    have hp':p∈X.pn++pins:=by simpa [qz] using hp
    obtain ⟨a,b,c,d,e⟩:=I.pin p hp'
    refine ⟨hk _ _ a,b,Nat.ne_of_lt (Heap.lt_size a),fun z=>?_,e⟩
    rcases List.mem_cons.mp (I.Qv p.1 z) with q | q
    · exact c q
    · exact d q
  hok:=I.hok.kept hk
  len:=hl
theorem Tv {pins:List (Addr × Obj)} {σ σ':St} {H H':Hp} {s s':Shared} {fp:List Addr} {h':Heap} (I:Inv X pins σ H s) (hf:∀ b∈fp,Ra X pins H b)
    (J:Inv (qz X scope N s.heap.objs.size s H fp (X.pn++pins)) [] σ' H' s') (hs:Heap.SameBut s.heap.objs.size s'.heap h'):Inv X pins σ H' { s' with heap:=h' }:=by
  have kb:∀ b o,b≠s.heap.objs.size→s'.heap.get? b=some o→h'.get? b=some o:=fun b o n e=>hs.extBut b o n e
  have ne:∀ b o,s.heap.get? b=some o→b≠s.heap.objs.size:=fun b o e=>Nat.ne_of_lt (Heap.lt_size e)
  have fr:H' s.heap.objs.size=none:=J.free
  have u0:Un (frs X.stack) fp H H' s.heap s'.heap:=J.base
  have u:Un (frs X.stack) fp H H' s.heap h':=⟨fun b o e n h1 h2=>kb b o (ne b o e) (u0.keep b o e n h1 h2),fun b o e n h1 h2=>by
      obtain ⟨sl,q⟩:=u0.slot b o e n h1 h2
      exact ⟨sl,kb b _ (ne b o e) q⟩,u0.free,fun b o e h=>by
      obtain ⟨o',q⟩:=u0.there b o e h
      exact ⟨o',kb b _ (ne b o e) q⟩,u0.tups,u0.frzs,u0.tbls⟩
  have hok:HOk X.prog X.w H' h':=fun b o e=>by
    refine (J.hok b o e).stay (fun c v hc q=>kb c v ?_ q) (fun _ q=>q) fun _ _ q=>q
    rcases hc with z | z
    · rw [z]; intro y; rw [y] at e; rw [fr] at e; cases e
    · intro y; rw [y] at z; rw [fr] at z; cases z
  have hos:s'.os=s.os:=J.os
  obtain ⟨hh,g,d,t,os'⟩:=s'
  obtain rfl:os'=s.os:=hos
  exact Inv.call (X:=X) (s:=s) (H:=H) (h':=h') (g':=g) (d':=d) (t':=t) (ch:=fp) I u hok J.bare fun b hb=>⟨(hf b hb).2.2.2.1,(hf b hb).2.1,(hf b hb).2.2.2.2.1,(hf b hb).2.2.2.2.2⟩
variable {tg iter elt:Expr} {ifs:List Expr} {pos:Pos} {g:TG} {tc:TT} {te:TE}
theorem M6 (sc:Ht X scope N) (calm:X.calm=true)
    (hg:∀ C s₀ H₀ ex pn,PG (qz X scope N C s₀ H₀ ex pn) tg g) (hc:∀ C s₀ H₀ ex pn,PTs (qz X scope N C s₀ H₀ ex pn) ifs tc) (he:∀ C s₀ H₀ ex pn,PE (qz X scope N C s₀ H₀ ex pn) elt te)
    {pins:List (Addr × Obj)} {σ:St} {H1:Hp} {s₂:Shared} {it:Addr} {fp:List Addr} {tn:Nat→Heap→Prop} {J:It} {Q:VK} {E:Value→Shared→Prop} {RR:Value→Addr→Result→Shared→Prop}
    (I:Inv X pins σ H1 s₂) (T:Turn X.prog X.w X.K tg J fp it tn) (st2:tn 0 s₂.heap) (f2:∀ b∈fp,Ra X pins H1 b) (q:Rg X scope N g tc te σ J H1 Q)
    (hRR:∀ D s₃ H3 σ' H' s',Inv X pins σ H3 s₃→(∀ b∈fp,Ra X pins H3 b)→Inv (qz X scope N s₃.heap.objs.size s₃ H3 fp (X.pn++pins)) [] σ' H' s'→Q (.ref D) H'→RR (.ref D) s₃.heap.objs.size (.ok .next) s') :
    wpAny (model X.prog X.w) X.A (newList []) (fun acc s₃=>wpAny (model X.prog X.w) X.A (newFunctionEnv scope X.env.globals (Vp X.env scope.names []) [] X.env.qual none .none (some X.env)) (fun cenv s₄ =>
      codeAny (model X.prog X.w) X.A (.compStart (.ListComp elt [⟨tg,iter,ifs,0⟩] scope pos) 0 (.ref it) acc { cenv with scope:=relabel scope X.env }) (RR acc cenv.locals) s₄) E s₃) E s₂:=by
  refine wpAny_newObj_type (wpAny_newFunctionEnv sc.nocell (by intro y hy; simp at hy) (fun h₁ hns₁ hsb₁=>?_) sc.kind)
  dsimp only at hns₁ hsb₁ ⊢
  have I3:Inv X pins σ (upd H1 s₂.heap.objs.size (.lst [])) { s₂ with heap:=s₂.heap.push { cls:=.type "list",dict:=none,data:=.seq ([]:List Value).toArray } } :=
    I.laid (t':=s₂.toks) (fun b ob q=>Heap.get?_push_of_some _ q) (Nat.le_refl _) ⟨Nat.zero_le _,[],_,.nil,Heap.get?_push_size _ rfl⟩
  generalize hs3:({ s₂ with heap:=s₂.heap.push { cls:=.type "list",dict:=none,data:=.seq ([]:List Value).toArray } }:Shared)=s₃ at I3
  have hheap:s₂.heap.push { cls:=.type "list",dict:=none,data:=.seq ([]:List Value).toArray } = s₃.heap:=by rw [← hs3]
  have hstate:∀ (h:Heap) (t:Nat),({ s₂ with heap:=h,toks:=t }:Shared) = { s₃ with heap:=h,toks:=t }:=fun h t=>by rw [← hs3]
  rw [hheap] at hns₁ hsb₁ ⊢
  have lt2:∀ b∈fp,b<s₂.heap.objs.size:=fun b hb=>by
    obtain ⟨o,ho,_⟩:=T.obj _ _ st2 b hb
    exact Heap.lt_size ho
  have sz3:s₃.heap.objs.size=s₂.heap.objs.size+1:=by rw [← hheap,Heap.size_push]
  have k23:∀ b o,s₂.heap.get? b=some o→s₃.heap.get? b=some o:=fun b o e=>by rw [← hheap]; exact Heap.get?_push_of_some _ e
  have f3:∀ b∈fp,Ra X pins (upd H1 s₂.heap.objs.size (.lst [])) b:=fun b hb=>⟨by rw [dw (Nat.ne_of_lt (lt2 b hb))]; exact (f2 b hb).1,(f2 b hb).2⟩
  have lt3:∀ b∈fp,b<s₃.heap.objs.size:=fun b hb=>by rw [sz3]; exact Nat.lt_succ_of_lt (lt2 b hb)
  obtain ⟨σ0,hl,h0,W,⟨m0,w0⟩,turn⟩:=q s₂.heap.objs.size (I.hok.fresh (Nat.le_refl _))
  have k34:∀ b o,s₃.heap.get? b=some o→h₁.get? b=some o:=fun b o e=>hsb₁.extBut b o (Nat.ne_of_lt (Heap.lt_size e)) (Heap.get?_push_of_some _ e)
  rw [hstate]
  have J0:=Wa (tk:=s₂.toks+([]:List (Str × Value)).length) sc I3 f3 lt3 hl h0 hns₁ k34
  have st4:tn 0 h₁:=T.keep _ _ _ st2 fun b _ o e=>k34 b o (k23 b o e)
  have key:∀ s₄:Shared,s₄ = { s₃ with heap:=h₁,toks:=s₂.toks+([]:List (Str × Value)).length }→codeAny (model X.prog X.w) X.A (.compLoop (.ListComp elt [⟨tg,iter,ifs,0⟩] scope pos) 0 (.ref it) (.ref s₂.heap.objs.size)
      (qz X scope N s₃.heap.objs.size s₃ (upd H1 s₂.heap.objs.size (.lst [])) fp (X.pn++pins)).env) (RR (.ref s₂.heap.objs.size) s₃.heap.objs.size) s₄:=by
    rintro s₄ rfl
    generalize hX:qz X scope N s₃.heap.objs.size s₃ (upd H1 s₂.heap.objs.size (.lst [])) fp (X.pn++pins)=X' at J0
    have hP:X'.prog=X.prog:=by rw [← hX]; rfl
    have hW:X'.w=X.w:=by rw [← hX]; rfl
    have hA:X'.A=X.A:=by rw [← hX]; rfl
    have hxe:X'.xe=fun _ _=>False:=by rw [← hX]; rfl
    have hK:X'.K=X.K:=by rw [← hX]; rfl
    have hcal:X'.calm=true:=by rw [← hX]; exact calm
    have stat:∀ {H':Hp},(∀ b∈fp,H' b=none)→∀ b∈fp,Ra X' [] H' b:=fun hn b hb=>by
      have z:=Yz sc I3 f3 lt3
      rw [hX] at z
      refine ⟨hn b hb,(z.exf b (by rw [← hX]; exact hb)).1,z.exfs b (by rw [← hX]; exact hb),.inl (by rw [← hX]; exact hb),(z.exf b (by rw [← hX]; exact hb)).2,fun p hp=>?_⟩
      have hp':p∈X.pn++pins:=by rw [← hX] at hp; simpa [qz] using hp
      exact (f3 b hb).2.2.2.2.2 p hp'
    have hg':PG X' tg g:=by rw [← hX]; exact hg _ _ _ _ _
    have hc':PTs X' ifs tc:=by rw [← hX]; exact hc _ _ _ _ _
    have he':PE X' elt te:=by rw [← hX]; exact he _ _ _ _ _
    have fin:∀ σ' H' s',Inv X' [] σ' H' s'→Q (.ref s₂.heap.objs.size) H'→RR (.ref s₂.heap.objs.size) s₃.heap.objs.size (.ok .next) s':=fun σ' H' s' I' q'=>hRR _ s₃ _ σ' H' s' I3 f3 (by rw [hX]; exact I') q'
    have T':Turn X'.prog X'.w X'.K tg J fp it tn:=by rw [hP,hW,hK]; exact T
    rw [← hP,← hW,← hA]
    refine Qz (J:=fun n s'=>∃ i σ' H',Inv X' [] σ' H' s'∧tn i s'.heap∧(∀ b∈fp,H' b=none)∧W i n σ' H') ?_ m0 ⟨0,σ0,_,J0,st4,fun b hb=>(f3 b hb).1,w0⟩
    rintro n s5 ⟨i,σ5,H5,I5,st5,fr5,w5⟩
    rcases turn i n σ5 H5 w5 with ⟨stop,qn⟩ | ⟨go,step⟩
    · refine thn (T'.done X' rfl rfl rfl hcal i [] s5 σ5 H5 _ I5 (stat fr5) st5 stop) fun r s6 z0=>?_
      obtain ⟨hr,I6⟩:=z0
      subst hr
      exact fin _ _ _ I6 qn
    · refine thn (T'.item X' rfl rfl rfl hcal i [] s5 σ5 H5 _ I5 (stat fr5) st5 go) fun r s6 z0=>?_
      obtain ⟨u,hr,h6⟩:=z0
      subst hr
      refine thn h6 fun _ s7 z0=>?_
      obtain ⟨x,H7,I7,r7,y7,st7,fr7⟩:=z0
      have I7':=I7.pinned (stat fr7) (T'.obj _ _ st7)
      have a1:=hg' _ s7 σ5 H7 x u _ I7' r7 (step x H7 y7)
      rw [hxe] at a1
      refine thn a1 fun _ s8 z0=>?_
      obtain ⟨σ8,H8,I8,q8⟩:=z0
      have a2:=hc' _ s8 σ8 H8 _ I8 q8
      rw [hxe] at a2
      refine thn a2 fun ok s9 z0=>?_
      obtain ⟨H9,I9,q9⟩:=z0
      have again:∀ {σ7:St} {H7:Hp} {s':Shared} {m':Nat},Inv X' ([]++Qn fp s7.heap) σ7 H7 s'→m'<n→W (i+1) m' σ7 H7→∃ m,m<n∧∃ i σ' H',Inv X' [] σ' H' s'∧tn i s'.heap∧(∀ b∈fp,H' b=none)∧W i m σ' H':=fun {σ7 H7 s' m'} I7 hm w7=>by
        refine ⟨m',hm,i+1,σ7,H7,I7.Ge,T'.keep _ _ _ st7 fun b hb o e=>(I7.pin (b,o) (List.mem_append_right _ (List.mem_append_right _ (Bm hb e)))).1,fun b hb=>?_,w7⟩
        obtain ⟨o,e,d⟩:=T'.obj _ _ st7 b hb
        exact (I7.pin (b,o) (List.mem_append_right _ (List.mem_append_right _ (Bm hb e)))).2.1
      cases ok with
      | false =>
        rw [if_neg Bool.false_ne_true] at q9 ⊢
        obtain ⟨m',hm,w9⟩:=q9
        exact again I9 hm w9
      | true =>
        rw [if_pos rfl] at q9 ⊢
        have a3:=he' _ s9 σ8 H9 _ I9 q9
        rw [hxe] at a3
        refine thn a3 fun xv s10 z0=>?_
        obtain ⟨y,H10,I10,r10,l,hl10,hz10,m',hm,w10⟩:=z0
        have a4:=uq (X:=X') _ s10 σ8 H10 (.ref s₂.heap.objs.size) [y] (.ref s₂.heap.objs.size) [xv] (fun _ H'=>H'=upd H10 s₂.heap.objs.size (.lst (l++[y]))) I10 rfl (.cons r10 .nil) ⟨_,l,y,rfl,rfl,hl10,hz10,rfl⟩
        rw [hxe] at a4
        refine thn a4 fun _ s11 z0=>?_
        obtain ⟨v,H11,I11,_,e11⟩:=z0
        subst e11
        exact again I11 hm w10
  exact codeAny_compStart_list (key _ rfl) (T.self _ 0 _ _ _ st4 (key _ rfl))
theorem Yg {wi:TI} (sc:Ht X scope N) (calm:X.calm=true) (hi:PI X tg iter wi)
    (hg:∀ C s₀ H₀ ex pn,PG (qz X scope N C s₀ H₀ ex pn) tg g) (hc:∀ C s₀ H₀ ex pn,PTs (qz X scope N C s₀ H₀ ex pn) ifs tc) (he:∀ C s₀ H₀ ex pn,PE (qz X scope N C s₀ H₀ ex pn) elt te)
    (hs:∀ x,foldedSetIterable iter X.env x=pure x:=by intro _; rfl):PE X (.ListComp elt [⟨tg,iter,ifs,0⟩] scope pos) (a3c X scope N wi g tc te):=by
  intro pins s σ H Q I h
  rw [eval_ListComp]
  refine wpAny_comprehension_free (use:=none) rfl hs (G5 sc.has) sc.kind sc.names ?_
  refine wpAny_mono (hi pins s σ H _ I h) (fun x s₁ h₁=>wpAny_mono h₁ (fun itv s₂ h₂=>?_) fun _ _ e=>e) fun _ _ e=>e
  obtain ⟨it,fp,tn,J,H1,rfl,I2,T,st2,f2,q⟩:=h₂
  refine M6 (RR:=fun acc C=>compPost (model X.prog X.w) X.A X.xe none (EP X pins σ Q) acc C) sc calm hg hc he I2 T st2 f2 q ?_
  intro D s₃ H3 σ' H' s' I3 f3 I' qn
  obtain ⟨m,hn,_⟩:=I'.loc
  exact ⟨m,hn,fun h' hs'=>⟨.ref D,H',Tv I3 f3 I' hs',rfl,qn⟩⟩
theorem Xj {wi:TI} {y:Str} {py spos:Pos} {i:Nat} (sc:Ht X scope N) (calm:X.calm=true) (hi:PI X tg iter wi)
    (hg:∀ C s₀ H₀ ex pn,PG (qz X scope N C s₀ H₀ ex pn) tg g) (hc:∀ C s₀ H₀ ex pn,PTs (qz X scope N C s₀ H₀ ex pn) ifs tc) (he:∀ C s₀ H₀ ex pn,PE (qz X scope N C s₀ H₀ ex pn) elt te)
    (hgN:PG X (.Name y py) (Mv i)) (hsw:swapsWith (.ListComp elt [⟨tg,iter,ifs,0⟩] scope pos) (some (.Name y py)) spos.line X.env=pure true)
    (hs:∀ x,foldedSetIterable iter X.env x=pure x:=by intro _; rfl):PS X (.Assign [.Name y py] (.ListComp elt [⟨tg,iter,ifs,0⟩] scope pos) spos) (a3p (a3c X scope N wi g tc te) (Mv i)):=by
  intro pins s σ H D I h
  rw [exec_Assign_Name_used _ _ _ _ hsw] -- here
  refine wpAny_bind (wpAny_standAt (wpAny_bind ?_)) -- here
  show wpAny _ X.A (do let _ ← comprehension (.ListComp elt [⟨tg,iter,ifs,0⟩] scope pos) scope X.env _ (newList []) false (eval iter X.env) (some (assign (.Name y py) X.env))) _ _ s
  refine wpAny_bind (wpAny_mono (wpAny_comprehension_free (use:=some (assign (.Name y py) X.env)) (Q:=fun _ s'=>SP X pins D .next s') rfl hs (G5 sc.has) sc.kind sc.names ?_) (fun _ s' hq=>wpAny_pure (wpAny_pure hq)) fun _ _ e=>e)
  refine wpAny_mono (hi pins s σ H _ I h) (fun x s₁ h₁=>wpAny_mono h₁ (fun itv s₂ h₂=>?_) fun _ _ e=>e) fun _ _ e=>e
  obtain ⟨it,fp,tn,J,H1,rfl,I2,T,st2,f2,q⟩:=h₂
  refine M6 (RR:=fun acc C=>compPost (model X.prog X.w) X.A X.xe (some (assign (.Name y py) X.env)) (fun _ s'=>SP X pins D .next s') acc C) sc calm hg hc he I2 T st2 f2 q ?_
  intro D' s₃ H3 σ' H' s' I3 f3 I' qn
  obtain ⟨m,hn,_⟩:=I'.loc
  obtain ⟨oC,es,ep,hoC,hdC,hrest⟩:=id hn
  have IX:Inv X pins σ H' s':=Tv I3 f3 I' (.refl ..)
  have fC:Ra X pins H' s₃.heap.objs.size:=I3.a7f (Nat.le_refl _) I'.free
  have IXp:=IX.pinned (fp:=[s₃.heap.objs.size]) (fun b hb=>by rw [List.mem_singleton.mp hb]; exact fC) (fun b hb=>by
    rw [List.mem_singleton.mp hb]
    exact ⟨oC,hoC,fun v z=>by rw [hdC] at z; cases z⟩)
  show wpAny _ X.A (assign (.Name y py) X.env (.ref D')) _ _ _
  refine thn (hgN _ s' σ H' (.ref D') (.ref D') _ IXp rfl qn) fun _ s'' z0=>?_
  obtain ⟨σ'',H'',I'',q''⟩:=z0
  have pC:=I''.pin (s₃.heap.objs.size,oC) (List.mem_append_right _ (List.mem_append_right _ (Bm (by simp) hoC)))
  refine ⟨m,⟨oC,es,ep,pC.1,hdC,hrest⟩,fun h' hs'=>⟨σ'',H'',?_,q''⟩⟩
  exact I''.Ge.turned (h':=h') (t':=s''.toks) (it:=s₃.heap.objs.size) (fun b o ne e=>hs'.extBut b o ne e) pC.2.1 fC.2.1 fC.2.2.2.1 fC.2.2.2.2.1 fC.2.2.2.2.2
end
end L2
end
section
namespace C
open PySem PySem.Spec PyProof.Rows L2
mutual
inductive Rep (K:PySem.W.Frag) (S:Hp) (as:List Addr):V→T→Prop where
  | non:Rep K S as .non .non
  | bl (b:Bool):Rep K S as (.bl b) (.bl b)
  | int (i:Int):Rep K S as (.int i) (.int i)
  | str (x:Str):Rep K S as (.str x) (.str x)
  | tup {a:Addr} {vs:List V} {ts:List T}:SqT K S a vs→m7 K S as vs ts→Rep K S as (.ref a) (.tup ts)
  | lst {a:Addr} {vs:List V} {ts:List T}:SqL K S a vs→m7 K S as vs ts→Rep K S as (.ref a) (.lst ts)
  | dic {a:Addr} {kvs:List (L2.Key × V)} {ts:List (L2.Key × T)}:Rd S a (.dK kvs)→Ac K S as kvs ts→Rep K S as (.ref a) (.dic ts)
  | obj {n:Nat} {a:Addr}:as[n]? = some a→Rep K S as (.ref a) (.obj n)
inductive m7 (K:PySem.W.Frag) (S:Hp) (as:List Addr):List V→List T→Prop where
  | nil:m7 K S as [] []
  | cons {v:V} {t:T} {vs:List V} {ts:List T}:Rep K S as v t→m7 K S as vs ts→m7 K S as (v::vs) (t::ts)
inductive Ac (K:PySem.W.Frag) (S:Hp) (as:List Addr):List (L2.Key × V)→List (L2.Key × T)→Prop where
  | nil:Ac K S as [] []
  | cons {k:L2.Key} {v:V} {t:T} {vs:List (L2.Key × V)} {ts:List (L2.Key × T)}:Rep K S as v t→Ac K S as vs ts→Ac K S as ((k,v)::vs) ((k,t)::ts)
end
theorem yp {S S':Hp} {a:Addr} {u:HO} (e:Same S S') (h:Rd S a u):Rd S' a u:=by
  rcases h with h | ⟨o,h⟩
  · exact .inl (e _ _ h)
  · exact .inr ⟨o,e _ _ h⟩
theorem ju {K:PySem.W.Frag} {S S':Hp} {a:Addr} {xs:List V} (e:Same S S') (h:SqT K S a xs):SqT K S' a xs:=by
  rcases h with h | h
  · exact .inl (yp e h)
  · exact .inr h
theorem ji {K:PySem.W.Frag} {S S':Hp} {a:Addr} {xs:List V} (e:Same S S') (h:SqL K S a xs):SqL K S' a xs:=by
  rcases h with h | h
  · exact .inl (yp e h)
  · exact .inr h
section
variable {K:PySem.W.Frag} {S S':Hp} {as as':List Addr}
theorem Yq {α:Type} {l r:List α} {n:Nat} {a:α} (h:l[n]? = some a):(l++r)[n]? = some a:=by
  have:=(List.getElem?_eq_some_iff.mp h).1
  rw [List.getElem?_append_left this]; exact h
theorem T4 {n:Nat} {a:Addr} (x:∃ l,as'=as++l) (h:as[n]? = some a):as'[n]? = some a:=by obtain ⟨l,rfl⟩:=x; exact Yq h
theorem Rep.mono (e:Same S S') (x:∃ l,as'=as++l) {v:V} {t:T} (h:Rep K S as v t):Rep K S' as' v t :=
  Rep.rec (motive_1:=fun v t _=>Rep K S' as' v t) (motive_2:=fun v t _=>m7 K S' as' v t) (motive_3:=fun v t _=>Ac K S' as' v t) .non .bl .int .str (fun h _ i=>.tup (ju e h) i) (fun h _ i=>.lst (ji e h) i) (fun h _ i=>.dic (yp e h) i) (fun h=>.obj (T4 x h)) .nil (fun _ _ a b=>.cons a b) .nil (fun _ _ a b=>.cons a b) h
theorem m7.mono (e:Same S S') (x:∃ l,as'=as++l) {v:List V} {t:List T} (h:m7 K S as v t):m7 K S' as' v t :=
  m7.rec (motive_1:=fun v t _=>Rep K S' as' v t) (motive_2:=fun v t _=>m7 K S' as' v t) (motive_3:=fun v t _=>Ac K S' as' v t) .non .bl .int .str (fun h _ i=>.tup (ju e h) i) (fun h _ i=>.lst (ji e h) i) (fun h _ i=>.dic (yp e h) i) (fun h=>.obj (T4 x h)) .nil (fun _ _ a b=>.cons a b) .nil (fun _ _ a b=>.cons a b) h
theorem Ac.mono (e:Same S S') (x:∃ l,as'=as++l) {v:List (L2.Key × V)} {t:List (L2.Key × T)} (h:Ac K S as v t):Ac K S' as' v t :=
  Ac.rec (motive_1:=fun v t _=>Rep K S' as' v t) (motive_2:=fun v t _=>m7 K S' as' v t) (motive_3:=fun v t _=>Ac K S' as' v t) .non .bl .int .str (fun h _ i=>.tup (ju e h) i) (fun h _ i=>.lst (ji e h) i) (fun h _ i=>.dic (yp e h) i) (fun h=>.obj (T4 x h)) .nil (fun _ _ a b=>.cons a b) .nil (fun _ _ a b=>.cons a b) h
inductive W6 (K:PySem.W.Frag) (S:Hp) (as:List Addr):List (List L2.Key × V)→List (List L2.Key × T)→Prop where
  | nil:W6 K S as [] []
  | cons {k:List L2.Key} {v:V} {t:T} {vs:List (List L2.Key × V)} {ts:List (List L2.Key × T)}:Rep K S as v t→W6 K S as vs ts→W6 K S as ((k,v)::vs) ((k,t)::ts)
theorem W6.mono (e:Same S S') (x:∃ l,as'=as++l) {v:List (List L2.Key × V)} {t:List (List L2.Key × T)} (h:W6 K S as v t):W6 K S' as' v t:=by
  induction h with
  | nil=>exact .nil
  | cons h _ ih=>exact .cons (h.mono e x) ih
theorem W6.length {vs:List (List L2.Key × V)} {ts:List (List L2.Key × T)} (h:W6 K S as vs ts):vs.length=ts.length:=by
  induction h with
  | nil=>rfl
  | cons _ _ ih=>exact congrArg (· + 1) ih
theorem m7.length {vs:List V} {ts:List T} (h:m7 K S as vs ts):vs.length=ts.length :=
  m7.rec (motive_1:=fun _ _ _=>True) (motive_2:=fun v t _=>v.length=t.length) (motive_3:=fun _ _ _=>True) trivial (fun _=>trivial) (fun _=>trivial) (fun _=>trivial) (fun _ _ _=>trivial) (fun _ _ _=>trivial) (fun _ _ _=>trivial) (fun _=>trivial) rfl (fun _ _ _ i=>congrArg (· + 1) i) trivial (fun _ _ _ _=>trivial) h
theorem Ac.length {vs:List (L2.Key × V)} {ts:List (L2.Key × T)} (h:Ac K S as vs ts):vs.length=ts.length :=
  Ac.rec (motive_1:=fun _ _ _=>True) (motive_2:=fun _ _ _=>True) (motive_3:=fun v t _=>v.length=t.length) trivial (fun _=>trivial) (fun _=>trivial) (fun _=>trivial) (fun _ _ _=>trivial) (fun _ _ _=>trivial) (fun _ _ _=>trivial) (fun _=>trivial) trivial (fun _ _ _ _=>trivial) rfl (fun _ _ _ i=>congrArg (· + 1) i) h
theorem m7.get:∀ {vs:List V} {ts:List T} {i:Nat} {t:T},m7 K S as vs ts→ts[i]? = some t→∃ v,vs[i]? = some v∧Rep K S as v t
  | _,_,_,_,.nil,e=>by simp at e
  | _,_,0,_,.cons r _,e=>by simp at e; subst e; exact ⟨_,rfl,r⟩
  | _,_,i+1,t,.cons _ r,e=>by
    obtain ⟨v,h1,h2⟩:=m7.get (i:=i) (t:=t) r (by simpa using e)
    exact ⟨v,by simpa using h1,h2⟩
theorem m7.append {vs:List V} {ts:List T} {ws:List V} {us:List T} (h:m7 K S as vs ts) (q:m7 K S as ws us):m7 K S as (vs++ws) (ts++us) :=
  m7.rec (motive_1:=fun _ _ _=>True) (motive_2:=fun v t _=>m7 K S as (v++ws) (t++us)) (motive_3:=fun _ _ _=>True) trivial (fun _=>trivial) (fun _=>trivial) (fun _=>trivial) (fun _ _ _=>trivial) (fun _ _ _=>trivial) (fun _ _ _=>trivial) (fun _=>trivial) q (fun h _ _ i=>.cons h i) trivial (fun _ _ _ _=>trivial) h
theorem m7.drop:∀ (n:Nat) {vs:List V} {ts:List T},m7 K S as vs ts→m7 K S as (vs.drop n) (ts.drop n)
  | 0,_,_,r=>r
  | _+1,_,_,.nil=>.nil
  | n+1,_,_,.cons _ r=>m7.drop n r
theorem Ac.get (k:L2.Key):∀ {vs:List (L2.Key × V)} {ts:List (L2.Key × T)},Ac K S as vs ts→(∃ v t,R9 vs k=some v∧Cm k ts=some t∧Rep K S as v t)∨(R9 vs k=none∧Cm k ts=none)
  | _,_,.nil=>.inr ⟨rfl,rfl⟩
  | _,_,.cons (k:=q) (v:=v) (t:=t) (vs:=vs) (ts:=ts) h r=>by
    by_cases e:q=k
    · exact .inl ⟨v,t,J6 (p:=(q,v)) e,by rw [Cm,if_pos e],h⟩
    · rw [J1 (p:=(q,v)) e,Cm,if_neg e]
      exact Ac.get k r
end
structure Bas where
  S:Hp
  as:List Addr
  H:Hp
structure Us (B:Bas) (S:Hp) (as:List Addr) (H:Hp):Prop where
  same:Same B.S S
  more:∃ l,as=B.as++l
  keep:∀ p o,B.H p=some o→B.S p=none→p∉B.as→H p=some o∧S p=none∧p∉as
structure Ext (S H S' H':Hp):Prop where
  s:Same S S'
  h:Same H H'
  sub:Same S' H'
  new:∀ p,S' p≠none→S p≠none∨H p=none
theorem Ext.refl {S H:Hp} (h:Same S H):Ext S H S H:=⟨Same.refl _,Same.refl _,h,fun _ q=>.inl q⟩
theorem Same.upd {H:Hp} {p:Addr} (h:H p=none) (o:HO):Same H (upd H p o):=fun b u q=>by rw [dw (jr q h)]; exact q
theorem Ext.laid {S H:Hp} (h:Same S H) {p:Addr} (n:H p=none) (o:HO):Ext S H (upd S p o) (upd H p o) where
  s:=Same.upd (h.free n) o
  h:=Same.upd n o
  sub:=fun b u q=>by
    by_cases e:b=p
    · subst e; rw [dj] at q ⊢; exact q
    · rw [dw e] at q ⊢; exact h _ _ q
  new:=fun b q=>by
    by_cases e:b=p
    · subst e; exact .inr n
    · rw [dw e] at q; exact .inl q
theorem Ext.trans {S H S1 H1 S2 H2:Hp} (a:Ext S H S1 H1) (b:Ext S1 H1 S2 H2):Ext S H S2 H2 where
  s:=a.s.trans b.s
  h:=a.h.trans b.h
  sub:=b.sub
  new:=fun p q=>by
    rcases b.new p q with z | z
    · exact a.new p z
    · exact .inr (a.h.free z)
def Own (K:PySem.W.Frag) (S:Hp) (as:List Addr) (H:Hp) (p:Addr):T→Prop
  | .lst ts=>∃ vs,H p=some (.lst vs)∧m7 K S as vs ts
  | .dic ts=>∃ kvs,H p=some (.dK kvs)∧Ac K S as kvs ts
  | _=>False
structure Lh (K:PySem.W.Frag) (B:Bas) (S:Hp) (as:List Addr) (H:Hp) (p:Addr) (t:T):Prop where
  own:Own K S as H p t
  out:S p=none
  nas:p∉as
  new:B.H p=none
def Yj (K:PySem.W.Frag) (S:Hp) (as:List Addr) (H:Hp) (a:Addr):SO→Prop
  | .dic ts=>∃ kvs,H a=some (.dK kvs)∧Ac K S as kvs ts
  | .lst ts=>∃ vs,H a=some (.lst vs)∧m7 K S as vs ts
  | .dit ts=>∃ kvs,H a=some (.dT kvs)∧W6 K S as kvs ts
structure Fe (K:PySem.W.Frag) (S:Hp) (as:List Addr) (H:Hp) (sto:List SO):Prop where
  len:as.length=sto.length
  nd:as.Nodup
  at':∀ (n:Nat) so,sto[n]? = some so→∃ a,as[n]? = some a∧S a=none∧Yj K S as H a so
structure Rel (K:PySem.W.Frag) (B:Bas) (st:Sta) (σ:L2.St) (H:Hp) (ps:List (V × T)) (S:Hp) (as:List Addr):Prop where
  sub:Same S H
  grow:Us B S as H
  slots:∀ (i:Nat) t f,st.env[i]? = some (some (t,f))→∃ v,σ[i]? = some (some v)∧(f=false→Rep K S as v t)∧(f=true→∃ p,v=.ref p∧Lh K B S as H p t)
  apart:∀ (i j:Nat) t u p,st.env[i]? = some (some (t,true))→st.env[j]? = some (some (u,true))→σ[i]? = some (some (.ref p))→σ[j]? = some (some (.ref p))→i=j
  sto:Fe K S as H st.sto
  pend:∀ p∈ps,Rep K S as p.1 p.2
  len:σ.length=st.env.length
section
variable {K:PySem.W.Frag} {B:Bas} {st:Sta} {σ:L2.St} {H H' S S':Hp} {ps:List (V × T)} {as:List Addr}
theorem nol {as:List Addr}:∃ l:List Addr,as=as++l:=⟨[],(List.append_nil _).symm⟩
theorem Own.mono {p:Addr} {t:T} (hs:Same S S') (hh:H p=H' p) (o:Own K S as H p t):Own K S' as H' p t:=by
  cases t with
  | lst ts=>obtain ⟨vs,h,r⟩:=o; exact ⟨vs,hh ▸ h,r.mono hs nol⟩
  | dic ts=>obtain ⟨vs,h,r⟩:=o; exact ⟨vs,hh ▸ h,r.mono hs nol⟩
  | _=>exact o.elim
theorem Own.there {p:Addr} {t:T} (o:Own K S as H p t):∃ ob,H p=some ob:=by
  cases t with
  | lst ts=>obtain ⟨vs,h,r⟩:=o; exact ⟨_,h⟩
  | dic ts=>obtain ⟨vs,h,r⟩:=o; exact ⟨_,h⟩
  | _=>exact o.elim
theorem Yj.mono {a:Addr} {so:SO} (hs:Same S S') (hh:H a=H' a) (o:Yj K S as H a so):Yj K S' as H' a so:=by
  cases so with
  | dic ts=>obtain ⟨vs,h,r⟩:=o; exact ⟨vs,hh ▸ h,r.mono hs nol⟩
  | lst ts=>obtain ⟨vs,h,r⟩:=o; exact ⟨vs,hh ▸ h,r.mono hs nol⟩
  | dit ts=>obtain ⟨vs,h,r⟩:=o; exact ⟨vs,hh ▸ h,r.mono hs nol⟩
theorem Yj.there {a:Addr} {so:SO} (o:Yj K S as H a so):∃ ob,H a=some ob:=by
  cases so with
  | dic ts=>obtain ⟨vs,h,r⟩:=o; exact ⟨_,h⟩
  | lst ts=>obtain ⟨vs,h,r⟩:=o; exact ⟨_,h⟩
  | dit ts=>obtain ⟨vs,h,r⟩:=o; exact ⟨_,h⟩
theorem Ext.outs (x:Ext S H S' H') {p:Addr} {o:HO} (h:H p=some o) (n:S p=none):S' p=none:=by
  cases q:S' p with
  | none=>rfl
  | some u =>
    rcases x.new p (by rw [q]; exact Option.some_ne_none _) with z | z
    · exact absurd n z
    · rw [h] at z; cases z
theorem Fe.ext {sto:List SO} (r:Fe K S as H sto) (x:Ext S H S' H'):Fe K S' as H' sto where
  len:=r.len
  nd:=r.nd
  at':=fun n so e=>by
    obtain ⟨a,h1,h2,h3⟩:=r.at' n so e
    obtain ⟨ob,ho⟩:=h3.there
    exact ⟨a,h1,x.outs ho h2,h3.mono x.s (by rw [ho,x.h _ _ ho])⟩
theorem Rel.ext (r:Rel K B st σ H ps S as) (x:Ext S H S' H'):Rel K B st σ H' ps S' as where
  sub:=x.sub
  grow:=⟨r.grow.same.trans x.s,r.grow.more,fun p o h1 h2 h3=>by
    obtain ⟨a,b,c⟩:=r.grow.keep p o h1 h2 h3
    exact ⟨x.h _ _ a,x.outs a b,c⟩⟩
  slots:=fun i t f e=>by
    obtain ⟨v,h1,h2,h3⟩:=r.slots i t f e
    refine ⟨v,h1,fun q=>(h2 q).mono x.s nol,fun q=>?_⟩
    obtain ⟨p,e,o⟩:=h3 q
    obtain ⟨ob,ho⟩:=o.own.there
    exact ⟨p,e,o.own.mono x.s (by rw [ho,x.h _ _ ho]),x.outs ho o.out,o.nas,o.new⟩
  apart:=r.apart
  sto:=r.sto.ext x
  pend:=fun p hp=>(r.pend p hp).mono x.s nol
  len:=r.len
theorem Rel.push (r:Rel K B st σ H ps S as) {v:V} {t:T} (h:Rep K S as v t):Rel K B st σ H ((v,t)::ps) S as :=
  ⟨r.sub,r.grow,r.slots,r.apart,r.sto,fun p hp=>by
    rcases List.mem_cons.mp hp with rfl | z
    · exact h
    · exact r.pend p z,r.len⟩
theorem Rel.drop {p:V × T} (r:Rel K B st σ H (p::ps) S as):Rel K B st σ H ps S as :=
  ⟨r.sub,r.grow,r.slots,r.apart,r.sto,fun q hq=>r.pend q (List.mem_cons_of_mem _ hq),r.len⟩
theorem Rel.top {v:V} {t:T} (r:Rel K B st σ H ((v,t)::ps) S as):Rep K S as v t:=r.pend (v,t) List.mem_cons_self
theorem Rel.top2 {v:V} {t:T} {q:V × T} (r:Rel K B st σ H (q::(v,t)::ps) S as):Rep K S as v t:=r.pend (v,t) (List.mem_cons_of_mem _ List.mem_cons_self)
end
inductive tOf (K:PySem.W.Frag) (B:Bas) (m:M T) (σ:L2.St) (H:Hp) (Q:VK):Prop
  | mk (st:Sta) (ps:List (V × T)) (S:Hp) (as:List Addr) (R:Rel K B st σ H ps S as) (t:T) (st':Sta) (e:m st=some (t,st')) (q:∀ v H' S' as',Rel K B st' σ H' ((v,t)::ps) S' as'→Q v H')
inductive cOf (K:PySem.W.Frag) (B:Bas) (m:M Bool) (σ:L2.St) (H:Hp) (Q:Bool→Hp→Prop):Prop
  | mk (st:Sta) (ps:List (V × T)) (S:Hp) (as:List Addr) (R:Rel K B st σ H ps S as) (b:Bool) (st':Sta) (e:m st=some (b,st')) (q:∀ H' S' as',Rel K B st' σ H' ps S' as'→Q b H')
inductive aOf (K:PySem.W.Frag) (B:Bas) (m:M (List T)) (σ:L2.St) (H:Hp) (Q:List V→Hp→Prop):Prop
  | mk (st:Sta) (ps:List (V × T)) (S:Hp) (as:List Addr) (R:Rel K B st σ H ps S as) (ts:List T) (st':Sta) (e:m st=some (ts,st')) (q:∀ vs H' S' as',Rel K B st' σ H' ps S' as'→m7 K S' as' vs ts→Q vs H')
theorem _root_.L2.PE.imp {X:Cx} {e:Expr} {t t':TE} (h:PE X e t) (i:∀ σ H Q,t' σ H Q→t σ H Q):PE X e t':=fun pins s σ H Q I q=>h pins s σ H Q I (i σ H Q q)
theorem _root_.L2.PT.imp {X:Cx} {e:Expr} {t t':TT} (h:PT X e t) (i:∀ σ H Q,t' σ H Q→t σ H Q):PT X e t':=fun pins s σ H Q I q=>h pins s σ H Q I (i σ H Q q)
theorem _root_.L2.PA.imp {X:Cx} {e:List Expr} {t t':TA} (h:PA X e t) (i:∀ σ H Q,t' σ H Q→t σ H Q):PA X e t':=fun pos pins s σ H Q I q=>h pos pins s σ H Q I (i σ H Q q)
theorem _root_.L2.PS.imp {X:Cx} {e:Stmt} {t t':TS} (h:PS X e t) (i:∀ D σ H,t' D σ H→t D σ H):PS X e t':=fun pins s σ H D I q=>h pins s σ H D I (i D σ H q)
theorem _root_.L2.PSs.imp {X:Cx} {e:List Stmt} {t t':TS} (h:PSs X e t) (i:∀ D σ H,t' D σ H→t D σ H):PSs X e t':=fun pins s σ H D I q=>h pins s σ H D I (i D σ H q)
def r2 (K:PySem.W.Frag) (f:T→T→Option T):R2:=fun x y H Q=>∃ S as t u w,Same S H∧Rep K S as x t∧Rep K S as y u∧f t u=some w∧∀ v H' S',Ext S H S' H'→Rep K S' as v w→Q v H'
def r1 (K:PySem.W.Frag) (f:T→Option T):V→Hp→VK→Prop:=fun x H Q=>∃ S as t w,Same S H∧Rep K S as x t∧f t=some w∧∀ v H' S',Ext S H S' H'→Rep K S' as v w→Q v H'
def rL (K:PySem.W.Frag) (f:List T→Option T):List V→Hp→VK→Prop:=fun xs H Q=>∃ S as ts w,Same S H∧m7 K S as xs ts∧f ts=some w∧∀ v H' S',Ext S H S' H'→Rep K S' as v w→Q v H'
abbrev OpT (X:Cx) (f:Value→Value→Sem Value) (g:T→T→Option T):Prop:=OpR X f (r2 X.K g)
abbrev UnT (X:Cx) (f:Value→Sem Value) (g:T→Option T):Prop:=UnR X f (r1 X.K g)
abbrev Wi (X:Cx) (f:Value) (g:List T→Option T):Prop:=Eh X f (rL X.K g)
section
variable {X:Cx} {B:Bas} {a b c:Expr} {m m1 m2:M T} {pos:Pos}
theorem J3 {v:V} {t:T} {e:Expr} (h:PE X e (tC v)) (r:∀ S as,Rep X.K S as v t):PE X e (tOf X.K B (aq t)):=h.imp fun σ H Q z9=>by
  obtain ⟨st,ps,S,as,R,t',st',e,q⟩:=z9
  cases e
  exact q v H S as (R.push (r S as))
theorem bf {i:Int} {j:Nat}:PE X (.Constant (.int i) j pos) (tOf X.K B (aq (.int i))):=J3 a9i fun _ _=>.int i
theorem Qe {i:Bool} {j:Nat}:PE X (.Constant (.bool i) j pos) (tOf X.K B (aq (.bl i))):=J3 ab4 fun _ _=>.bl i
theorem mq {i:Str} {j:Nat}:PE X (.Constant (.str i) j pos) (tOf X.K B (aq (.str i))):=J3 a8m fun _ _=>.str i
theorem Eo {j:Nat}:PE X (.Constant .none j pos) (tOf X.K B (aq .non)):=J3 a8x fun _ _=>.non
theorem j8 {op:Operator} {f:T→T→Option T} (ho:OpT X (binaryOp op) f) (ha:PE X a (tOf X.K B m1)) (hb:PE X b (tOf X.K B m2)):PE X (.BinOp a op b pos) (tOf X.K B (mOp f m1 m2)) :=
  (a7m ho ha hb).imp fun σ H Q z9=>by
    obtain ⟨st,ps,S,as,R,t,st',e,q⟩:=z9
    obtain ⟨t1,s1,t2,e1,e2,e3⟩:=Ks e
    refine ⟨st,ps,S,as,R,t1,s1,e1,fun v H1 S1 as1 R1=>⟨s1,_,S1,as1,R1,t2,st',e2,fun u H2 S2 as2 R2=>?_⟩⟩
    exact ⟨S2,as2,t1,t2,t,R2.sub,R2.top2,R2.top,e3,fun w H3 S3 x r=>q w H3 S3 as2 ((R2.drop.drop.ext x).push r)⟩
end
end C
end
section
namespace C
open PySem PySem.Spec PyProof.Rows L2
section
variable {K:PySem.W.Frag} {B:Bas} {st:Sta} {σ:L2.St} {H H' S S':Hp} {ps:List (V × T)} {as:List Addr}
theorem Rel.freeze (r:Rel K B st σ H ps S as) {i:Nat} {t:T} (e:st.env[i]? = some (some (t,true))) :
    ∃ v S',σ[i]? = some (some v)∧Rel K B { st with env:=st.env.set i (some (t,false)) } σ H ((v,t)::ps) S' as:=by
  obtain ⟨v,h1,_,h3⟩:=r.slots i t true e
  obtain ⟨p,rfl,o⟩:=h3 rfl
  obtain ⟨ob,ho⟩:=o.own.there
  have hi:i<st.env.length:=(List.getElem?_eq_some_iff.mp e).1
  have sS:Same S (upd S p ob):=Same.upd o.out ob
  have rep:Rep K (upd S p ob) as (.ref p) t:=by
    have w:=o.own
    cases t with
    | lst ts=>obtain ⟨vs,h,q⟩:=w; rw [ho] at h; cases h; exact .lst (SqL.of dj) (q.mono sS nol)
    | dic ts=>obtain ⟨vs,h,q⟩:=w; rw [ho] at h; cases h; exact .dic (.inl dj) (q.mono sS nol)
    | _=>exact w.elim
  have outs:∀ q,S q=none→q≠p→upd S p ob q=none:=fun q h n=>by rw [dw n]; exact h
  refine ⟨.ref p,upd S p ob,h1,?_⟩
  refine Rel.push (v:=.ref p) (t:=t) ⟨?_,?_,?_,?_,?_,?_,?_⟩ rep
  · intro b u q
    by_cases z:b=p
    · subst z; rw [dj] at q; cases q; exact ho
    · rw [dw z] at q; exact r.sub _ _ q
  · refine ⟨r.grow.same.trans sS,r.grow.more,fun q w a b c=>?_⟩
    obtain ⟨x,y,z⟩:=r.grow.keep q w a b c
    refine ⟨x,outs q y fun n=>?_,z⟩
    subst n; rw [o.new] at a; cases a
  · intro j u f ej
    by_cases hij:i=j
    · subst hij
      rw [List.getElem?_set_self hi] at ej
      cases ej
      exact ⟨.ref p,h1,fun _=>rep,fun z=>by cases z⟩
    · rw [List.getElem?_set_ne hij] at ej
      obtain ⟨v',a1,a2,a3⟩:=r.slots j u f ej
      refine ⟨v',a1,fun z=>(a2 z).mono sS nol,fun z=>?_⟩
      subst z
      obtain ⟨p',rfl,o'⟩:=a3 rfl
      refine ⟨p',rfl,o'.own.mono sS rfl,outs p' o'.out fun n=>?_,o'.nas,o'.new⟩
      subst n
      exact hij (r.apart i j t u p' e ej h1 a1)
  · intro j k u w q ej ek
    have hj:st.env[j]? = some (some (u,true)):=by
      by_cases hij:i=j
      · subst hij; rw [List.getElem?_set_self hi] at ej; cases ej
      · rwa [List.getElem?_set_ne hij] at ej
    have hk:st.env[k]? = some (some (w,true)):=by
      by_cases hij:i=k
      · subst hij; rw [List.getElem?_set_self hi] at ek; cases ek
      · rwa [List.getElem?_set_ne hij] at ek
    exact r.apart j k u w q hj hk
  · refine ⟨r.sto.len,r.sto.nd,fun n so en=>?_⟩
    obtain ⟨a,a1,a2,a3⟩:=r.sto.at' n so en
    refine ⟨a,a1,outs a a2 fun z=>?_,a3.mono sS rfl⟩
    subst z
    exact o.nas (List.mem_of_getElem? a1)
  · exact fun q hq=>(r.pend q hq).mono sS nol
  · show σ.length=(st.env.set i _).length
    rw [List.length_set]; exact r.len
end
section
variable {X:Cx} {B:Bas} {a b c:Expr} {m m1 m2:M T} {pos:Pos}
theorem ak (i:Nat) {e:Expr} (h:PE X e (W9 i)):PE X e (tOf X.K B (bh i)):=h.imp fun σ H Q z9=>by
  obtain ⟨st,ps,S,as,R,t,st',e,q⟩:=z9
  rcases U0 e with ⟨e1,rfl⟩ | ⟨e1,rfl⟩
  · obtain ⟨v,h1,h2,_⟩:=R.slots i t false e1
    exact ⟨v,h1,q v H S as (R.push (h2 rfl))⟩
  · obtain ⟨v,S',h1,R'⟩:=R.freeze e1
    exact ⟨v,h1,q v H S' as R'⟩
theorem c7:PA X [] (aOf X.K B fu):=wz.imp fun σ H Q z9=>by
  obtain ⟨st,ps,S,as,R,ts,st',e,q⟩:=z9
  cases e
  exact q [] H S as R .nil
theorem aj {es:List Expr} {ms:M (List T)} (ha:PE X a (tOf X.K B m)) (hr:PA X es (aOf X.K B ms)) (hs:starEach (a::es) X.env=(false,eval a X.env)::starEach es X.env:=by rfl):PA X (a::es) (aOf X.K B (ao m ms)) :=
  (jt ha hr hs).imp fun σ H Q z9=>by
    obtain ⟨st,ps,S,as,R,ts,st',e,q⟩:=z9
    obtain ⟨t,s1,us,e1,e2,rfl⟩:=Dv e
    refine ⟨st,ps,S,as,R,t,s1,e1,fun v H1 S1 as1 R1=>⟨s1,_,S1,as1,R1,us,st',e2,fun vs H2 S2 as2 R2 rs=>?_⟩⟩
    exact q (v::vs) H2 S2 as2 R2.drop (.cons R2.top rs)
theorem lu {es:List Expr} {ms:M (List T)} {k:Nat} (h:PA X es (aOf X.K B ms)) (hm:∀ st ts st',ms st=some (ts,st')→ts.length≤1000):PE X (.Tuple es k pos) (tOf X.K B (jo (fun l=>some (.tup l)) ms)) :=
  (a3q h).imp fun σ H Q z9=>by
    obtain ⟨st,ps,S,as,R,t,st',e,q⟩:=z9
    obtain ⟨ts,e1,e2⟩:=Bq e
    cases e2
    refine ⟨st,ps,S,as,R,ts,st',e1,fun vs H1 S1 as1 R1 rs=>⟨?_,fun p hp=>?_⟩⟩
    · rw [rs.length]; exact Nat.le_of_lt (Dw (hm _ _ _ e1))
    · have x:=Ext.laid R1.sub hp (.tup vs)
      exact q _ _ _ _ ((R1.ext x).push (.tup (SqT.of dj) (rs.mono x.s nol)))
theorem Eu {es:List Expr} {ms:M (List T)} (h:PA X es (aOf X.K B ms)) (hm:∀ st ts st',ms st=some (ts,st')→ts.length≤1000):PE X (.List es pos) (tOf X.K B (jo (fun l=>some (.lst l)) ms)) :=
  (V0 h).imp fun σ H Q z9=>by
    obtain ⟨st,ps,S,as,R,t,st',e,q⟩:=z9
    obtain ⟨ts,e1,e2⟩:=Bq e
    cases e2
    refine ⟨st,ps,S,as,R,ts,st',e1,fun vs H1 S1 as1 R1 rs=>⟨?_,fun p hp=>?_⟩⟩
    · rw [rs.length]; exact Nat.le_of_lt (Dw (hm _ _ _ e1))
    · have x:=Ext.laid R1.sub hp (.lst vs)
      exact q _ _ _ _ ((R1.ext x).push (.lst (SqL.of dj) (rs.mono x.s nol)))
theorem gj:∀ st ts st',fu st=some (ts,st')→ts.length≤0:=fun st ts st' e=>by cases e; exact Nat.le_refl _
theorem bw {r:M (List T)} {n:Nat} (h:∀ st ts st',r st=some (ts,st')→ts.length≤n):∀ st ts st',ao m r st=some (ts,st')→ts.length≤n+1:=fun st ts st' e=>by
  obtain ⟨t,s1,us,e1,e2,rfl⟩:=Dv e
  exact Nat.succ_le_succ (h _ _ _ e2)
theorem jh {ms:M (List T)} {f:List T→Option T} {e:Expr} (h:PE X e (tCB (rL X.K f) (aOf X.K B ms))):PE X e (tOf X.K B (jo f ms)) :=
  h.imp fun σ H Q z9=>by
    obtain ⟨st,ps,S,as,R,t,st',e,q⟩:=z9
    obtain ⟨ts,e1,e2⟩:=Bq e
    refine ⟨st,ps,S,as,R,ts,st',e1,fun vs H1 S1 as1 R1 rs=>⟨S1,as1,ts,t,R1.sub,rs,e2,fun v H2 S2 x r=>?_⟩⟩
    exact q v H2 S2 as1 ((R1.ext x).push r)
theorem Ue {f:T→T→Option T} {e:Expr} (h:PE X e (tOp (r2 X.K f) (tOf X.K B m1) (tOf X.K B m2))):PE X e (tOf X.K B (mOp f m1 m2)) :=
  h.imp fun σ H Q z9=>by
    obtain ⟨st,ps,S,as,R,t,st',e,q⟩:=z9
    obtain ⟨t1,s1,t2,e1,e2,e3⟩:=Ks e
    refine ⟨st,ps,S,as,R,t1,s1,e1,fun v H1 S1 as1 R1=>⟨s1,_,S1,as1,R1,t2,st',e2,fun u H2 S2 as2 R2=>?_⟩⟩
    exact ⟨S2,as2,t1,t2,t,R2.sub,R2.top2,R2.top,e3,fun w H3 S3 x r=>q w H3 S3 as2 ((R2.drop.drop.ext x).push r)⟩
theorem a2e {f:T→Option T} {e:Expr} (h:PE X e (tUn (r1 X.K f) (tOf X.K B m))):PE X e (tOf X.K B (mUn f m)) :=
  h.imp fun σ H Q z9=>by
    obtain ⟨st,ps,S,as,R,t,st',e,q⟩:=z9
    obtain ⟨t1,e1,e3⟩:=a5v e
    refine ⟨st,ps,S,as,R,t1,st',e1,fun v H1 S1 as1 R1=>⟨S1,as1,t1,t,R1.sub,R1.top,e3,fun w H3 S3 x r=>q w H3 S3 as1 ((R1.drop.ext x).push r)⟩⟩
theorem Ez {op:CmpOp} {f:T→T→Option T} (ho:OpT X (compareOp op) f) (ha:PE X a (tOf X.K B m1)) (hb:PE X b (tOf X.K B m2)) (hm:behindInMarks op b=false):PE X (.Compare a [op] [b] pos) (tOf X.K B (mOp f m1 m2)):=Ue (a6p ho ha hb hm)
theorem Zx {op:UnaryOp} {f:T→Option T} (ho:UnT X (unaryOp op) f) (ha:PE X a (tOf X.K B m)):PE X (.UnaryOp op a pos) (tOf X.K B (mUn f m)):=a2e (abg ho ha)
theorem Mh {e:Expr} (h:PT X e (a8l (tOf X.K B m))):PT X e (cOf X.K B (gn m)):=h.imp fun σ H Q z9=>by
  obtain ⟨st,ps,S,as,R,t,st',e,q⟩:=z9
  refine ⟨st,ps,S,as,R,.bl t,st',Dt e,fun v H1 S1 as1 R1=>?_⟩
  cases R1.top
  exact ⟨t,rfl,q H1 S1 as1 R1.drop⟩
theorem j5 {op:CmpOp} {f:T→T→Option T} (ho:OpT X (compareOp op) f) (ha:PE X a (tOf X.K B m1)) (hb:PE X b (tOf X.K B m2)) (hm:behindInMarks op b=false):PT X (.Compare a [op] [b] pos) (cOf X.K B (gn (mOp f m1 m2))) :=
  Mh ((a5m ho ha hb hm).imp fun σ H Q z9=>by
    obtain ⟨st,ps,S,as,R,t,st',e,q⟩:=z9
    obtain ⟨t1,s1,t2,e1,e2,e3⟩:=Ks e
    refine ⟨st,ps,S,as,R,t1,s1,e1,fun v H1 S1 as1 R1=>⟨s1,_,S1,as1,R1,t2,st',e2,fun u H2 S2 as2 R2=>?_⟩⟩
    exact ⟨S2,as2,t1,t2,t,R2.sub,R2.top2,R2.top,e3,fun w H3 S3 x r=>q w H3 S3 as2 ((R2.drop.drop.ext x).push r)⟩)
theorem Ze {e:Expr} (h:PE X e (tOf X.K B m)) (he:∀ whole,isTrue e X.env whole=(do let v ← whole; standAt e.pos; holding [v] (truthy v)):=by intro _; rfl):PT X e (cOf X.K B (gn m)) :=
  Mh ((a91 h he).imp fun σ H Q h=>h)
theorem a4g {c1:M Bool} (ha:PT X a (cOf X.K B c1)):PT X (.UnaryOp .Not a pos) (cOf X.K B (Ws c1)):=(a83 ha).imp fun σ H Q z9=>by
  obtain ⟨st,ps,S,as,R,t,st',e,q⟩:=z9
  obtain ⟨k,e1,rfl⟩:=Tp e
  exact ⟨st,ps,S,as,R,k,st',e1,q⟩
theorem Jc {c1:M Bool} (ha:PT X a (cOf X.K B c1)):PW X (.BoolOp .And [a] pos) (cOf X.K B c1):=pw_and1 ha
theorem Ul {c1:M Bool} (ha:PT X a (cOf X.K B c1)):PW X (.BoolOp .Or [a] pos) (cOf X.K B c1):=pw_or1 ha
theorem a8u {e:Expr} {t t':TT} (h:PW X e t) (i:∀ σ H Q,t' σ H Q→t σ H Q):PW X e t':=fun whole pins s σ H Q I q=>h whole pins s σ H Q I (i σ H Q q)
theorem R7 {c1 c2:M Bool} {rest:List Expr} (ha:PT X a (cOf X.K B c1)) (hb:PW X (.BoolOp .And (b::rest) pos) (cOf X.K B c2)):PW X (.BoolOp .And (a::b::rest) pos) (cOf X.K B (Lq c1 c2)) :=
  a8u (pw_and ha hb) fun σ H Q z9=>by
    obtain ⟨st,ps,S,as,R,t,st',e,q⟩:=z9
    rcases Uu e with ⟨s1,e1,e2⟩ | ⟨e1,rfl⟩
    · exact ⟨st,ps,S,as,R,true,s1,e1,fun H1 S1 as1 R1=>a6f (⟨s1,ps,S1,as1,R1,t,st',e2,q⟩)⟩
    · exact ⟨st,ps,S,as,R,false,st',e1,fun H1 S1 as1 R1=>a5g (q H1 S1 as1 R1)⟩
theorem Zr {c1 c2:M Bool} {rest:List Expr} (ha:PT X a (cOf X.K B c1)) (hb:PW X (.BoolOp .Or (b::rest) pos) (cOf X.K B c2)):PW X (.BoolOp .Or (a::b::rest) pos) (cOf X.K B (mOr c1 c2)) :=
  a8u (pw_or ha hb) fun σ H Q z9=>by
    obtain ⟨st,ps,S,as,R,t,st',e,q⟩:=z9
    rcases a5y e with ⟨s1,e1,e2⟩ | ⟨e1,rfl⟩
    · exact ⟨st,ps,S,as,R,false,s1,e1,fun H1 S1 as1 R1=>a5g (⟨s1,ps,S1,as1,R1,t,st',e2,q⟩)⟩
    · exact ⟨st,ps,S,as,R,true,st',e1,fun H1 S1 as1 R1=>a6f (q H1 S1 as1 R1)⟩
theorem Nf {c1:M Bool} (hc:PT X c (cOf X.K B c1)) (ha:PE X a (tOf X.K B m1)) (hb:PE X b (tOf X.K B m2)):PE X (.IfExp c a b pos) (tOf X.K B (mIf c1 m1 m2)) :=
  (a1p hc ha hb).imp fun σ H Q z9=>by
    obtain ⟨st,ps,S,as,R,t,st',e,q⟩:=z9
    rcases a6s e with ⟨s1,e1,e2⟩ | ⟨s1,e1,e2⟩
    · exact ⟨st,ps,S,as,R,true,s1,e1,fun H1 S1 as1 R1=>a6f (⟨s1,ps,S1,as1,R1,t,st',e2,q⟩)⟩
    · exact ⟨st,ps,S,as,R,false,s1,e1,fun H1 S1 as1 R1=>a5g (⟨s1,ps,S1,as1,R1,t,st',e2,q⟩)⟩
theorem Xd (ha:PE X a (tOf X.K B m)):PE X (.UnaryOp .Not a pos) (tOf X.K B (Gd (Ws (gn m)))):=(a95 ha).imp fun σ H Q z9=>by
  obtain ⟨st,ps,S,as,R,t,st',e,q⟩:=z9
  obtain ⟨b,e1,rfl⟩:=O9 e
  obtain ⟨k,e2,rfl⟩:=Tp e1
  refine ⟨st,ps,S,as,R,.bl k,st',Dt e2,fun v H1 S1 as1 R1=>?_⟩
  cases R1.top
  exact ⟨k,rfl,q _ H1 S1 as1 (R1.drop.push (.bl _))⟩
theorem a9e {op:BoolOp} (ha:PE X a (tOf X.K B m)):PE X (.BoolOp op [a] pos) (tOf X.K B m):=a8d ha
theorem a3o {rest:List Expr} (ha:PE X a (tOf X.K B m1)) (hb:PE X (.BoolOp .And (b::rest) pos) (tOf X.K B m2)):PE X (.BoolOp .And (a::b::rest) pos) (tOf X.K B (Gd (Lq (gn m1) (gn m2)))) :=
  (a7q ha hb).imp fun σ H Q z9=>by
    obtain ⟨st,ps,S,as,R,t,st',e,q⟩:=z9
    obtain ⟨b,e1,rfl⟩:=O9 e
    rcases Uu e1 with ⟨s1,e2,e3⟩ | ⟨e2,rfl⟩
    · refine ⟨st,ps,S,as,R,.bl true,s1,Dt e2,fun v H1 S1 as1 R1=>?_⟩
      cases R1.top
      exact ⟨true,rfl,a6f (⟨s1,ps,S1,as1,R1.drop,.bl b,st',Dt e3,q⟩)⟩
    · refine ⟨st,ps,S,as,R,.bl false,st',Dt e2,fun v H1 S1 as1 R1=>?_⟩
      cases R1.top
      exact ⟨false,rfl,a5g (q _ H1 S1 as1 (R1.drop.push (.bl _)))⟩
end
end C
end
section
namespace C
open PySem PySem.Spec PyProof.Rows L2
theorem a2x {a b:S} {s s':Sta} {fl:Flow} (h:j7 a b s=some (fl,s')):(∃ s1,a s=some (.next,s1)∧b s1=some (fl,s'))∨(a s=some (fl,s')∧fl≠.next):=by
  unfold j7 at h
  split at h
  · rename_i s1 e; exact .inl ⟨s1,e,h⟩
  · rename_i r hr; exact .inr ⟨h,fun z=>by subst z; exact hr _ h⟩
theorem a0d {e:M T} {s s':Sta} {fl:Flow} (h:v9 e s=some (fl,s')):∃ t,e s=some (t,s')∧fl=.ret t:=by
  unfold v9 at h
  split at h
  · rename_i t s1 e; cases h; exact ⟨t,e,rfl⟩
  · cases h
theorem a4x {c:M Bool} {a b:S} {s s':Sta} {fl:Flow} (h:sIf c a b s=some (fl,s')):(∃ s1,c s=some (true,s1)∧a s1=some (fl,s'))∨(∃ s1,c s=some (false,s1)∧b s1=some (fl,s')):=by
  unfold sIf at h
  split at h
  · rename_i s1 e; exact .inl ⟨s1,e,h⟩
  · rename_i s1 e; exact .inr ⟨s1,e,h⟩
  · cases h
theorem a2f {i:Nat} {e:M T} {s s':Sta} {fl:Flow} (h:vg i e s=some (fl,s')):∃ t s1,e s=some (t,s1)∧fl=.next∧s'=jf i t false s1:=by
  unfold vg at h
  split at h
  · rename_i t s1 e; cases h; exact ⟨t,s1,e,rfl,rfl⟩
  · cases h
theorem a1u {i:Nat} {e:M T} {s s':Sta} {fl:Flow} (h:sNew i e s=some (fl,s')):∃ t s1,e s=some (t,s1)∧fl=.next∧s'=jf i t true s1:=by
  unfold sNew at h
  split at h
  · rename_i t s1 e; cases h; exact ⟨t,s1,e,rfl,rfl⟩
  · cases h
theorem a1k {g:G} {it:M (List T)} {b:S} {s s':Sta} {fl:Flow} (h:Hj g it b s=some (fl,s')):∃ ts s1,it s=some (ts,s1)∧forL g b ts s1=some (fl,s'):=by
  unfold Hj at h
  split at h
  · rename_i ts s1 e; exact ⟨ts,s1,e,h⟩
  · cases h
theorem Ss {i:Nat} {e:M T} {s s':Sta} {fl:Flow} (h:mz i e s=some (fl,s')) :
    Hg i s=true∧∃ t s1 xs,e s=some (t,s1)∧s1.env[i]? = some (some (.lst xs,true))∧xs.length<lim∧fl=.next∧s'=jf i (.lst (xs++[t])) true s1:=by
  unfold mz at h
  split at h
  · rename_i hd
    refine ⟨hd,?_⟩
    split at h
    · rename_i t s1 e
      split at h
      · rename_i xs ex
        split at h
        · rename_i hl; cases h; exact ⟨t,s1,xs,e,ex,hl,rfl,rfl⟩
        · cases h
      · cases h
    · cases h
  · cases h
theorem T6 {i:Nat} {k v:M T} {s s':Sta} {fl:Flow} (h:Du i k v s=some (fl,s')) :
    ∃ t s1 kt s2 kvs q,v s=some (t,s1)∧G8 i s1=true∧k s1=some (kt,s2)∧s2.env[i]? = some (some (.dic kvs,true))∧keyOf kt=some q∧kvs.length<lim∧fl=.next∧s'=jf i (.dic (La q t kvs)) true s2:=by
  unfold Du at h
  split at h
  · rename_i t s1 e
    split at h
    · rename_i hd
      split at h
      · rename_i kt s2 ek
        split at h
        · rename_i kvs q ex eq
          split at h
          · rename_i hl; cases h; exact ⟨t,s1,kt,s2,_,_,e,hd,ek,ex,eq,hl,rfl,rfl⟩
          · cases h
        · cases h
      · cases h
    · cases h
  · cases h
section
variable {K:PySem.W.Frag} {B:Bas} {st:Sta} {σ:L2.St} {H H' S S':Hp} {ps ps2:List (V × T)} {as as':List Addr}
theorem Rel.pick (r:Rel K B st σ H ps S as) (h:∀ p∈ps2,p∈ps):Rel K B st σ H ps2 S as :=
  ⟨r.sub,r.grow,r.slots,r.apart,r.sto,fun p hp=>r.pend p (h p hp),r.len⟩
theorem Ny {α:Type} {l:List α} {i:Nat} {x:α} (h:l.length≤i):l.set i x=l:=List.set_eq_of_length_le h
theorem Rel.put (r:Rel K B st σ H ps S as) {i:Nat} {v:V} {t:T} (h:Rep K S as v t):Rel K B (jf i t false st) (σ.set i (some v)) H ps S as:=by
  by_cases hi:i<st.env.length
  · have hs:i<σ.length:=by rw [r.len]; exact hi
    refine ⟨r.sub,r.grow,fun j u f e=>?_,fun j k u w p ej ek sj sk=>?_,r.sto,r.pend,by show _=(st.env.set i _).length; rw [List.length_set,List.length_set]; exact r.len⟩
    · have e:(st.env.set i (some (t,false)))[j]? = some (some (u,f)):=e
      by_cases hij:i=j
      · subst hij
        rw [List.getElem?_set_self hi] at e; cases e
        exact ⟨v,List.getElem?_set_self hs,fun _=>h,fun z=>by cases z⟩
      · rw [List.getElem?_set_ne hij] at e ⊢
        exact r.slots j u f e
    · have ej:(st.env.set i (some (t,false)))[j]? = some (some (u,true)):=ej
      have ek:(st.env.set i (some (t,false)))[k]? = some (some (w,true)):=ek
      have hij:i≠j:=fun z=>by subst z; rw [List.getElem?_set_self hi] at ej; cases ej
      have hik:i≠k:=fun z=>by subst z; rw [List.getElem?_set_self hi] at ek; cases ek
      rw [List.getElem?_set_ne hij] at ej sj
      rw [List.getElem?_set_ne hik] at ek sk
      exact r.apart j k u w p ej ek sj sk
  · have e1:jf i t false st=st:=by unfold jf; rw [Ny (Nat.le_of_not_lt hi)]
    have e2:σ.set i (some v)=σ:=Ny (by rw [r.len]; exact Nat.le_of_not_lt hi)
    rw [e1,e2]; exact r
def J8 (st:Sta) (σ:L2.St) (p:Addr):Prop:=∀ (j:Nat) u,st.env[j]? = some (some (u,true))→σ[j]? = some (some (.ref p))→False
theorem Rel.a9j (r:Rel K B st σ H ps S as) {i:Nat} {p:Addr} {t:T} (h:Lh K B S as H p t) (hn:J8 st σ p):Rel K B (jf i t true st) (σ.set i (some (.ref p))) H ps S as:=by
  by_cases hi:i<st.env.length
  · have hs:i<σ.length:=by rw [r.len]; exact hi
    refine ⟨r.sub,r.grow,fun j u f e=>?_,fun j k u w q ej ek sj sk=>?_,r.sto,r.pend,by show _=(st.env.set i _).length; rw [List.length_set,List.length_set]; exact r.len⟩
    · have e:(st.env.set i (some (t,true)))[j]? = some (some (u,f)):=e
      by_cases hij:i=j
      · subst hij
        rw [List.getElem?_set_self hi] at e; cases e
        exact ⟨.ref p,List.getElem?_set_self hs,(fun z=>by cases z),fun _=>⟨p,rfl,h⟩⟩
      · rw [List.getElem?_set_ne hij] at e ⊢
        exact r.slots j u f e
    · have ej:(st.env.set i (some (t,true)))[j]? = some (some (u,true)):=ej
      have ek:(st.env.set i (some (t,true)))[k]? = some (some (w,true)):=ek
      by_cases hij:i=j
      · by_cases hik:i=k
        · rw [← hij,← hik]
        · subst hij
          rw [List.getElem?_set_self hs] at sj; cases sj
          rw [List.getElem?_set_ne hik] at ek sk
          exact (hn k w ek sk).elim
      · rw [List.getElem?_set_ne hij] at ej sj
        by_cases hik:i=k
        · subst hik
          rw [List.getElem?_set_self hs] at sk; cases sk
          exact (hn j u ej sj).elim
        · rw [List.getElem?_set_ne hik] at ek sk
          exact r.apart j k u w q ej ek sj sk
  · have e1:jf i t true st=st:=by unfold jf; rw [Ny (Nat.le_of_not_lt hi)]
    have e2:σ.set i (some (.ref p))=σ:=Ny (by rw [r.len]; exact Nat.le_of_not_lt hi)
    rw [e1,e2]; exact r
theorem Rel.turn (r:Rel K B st σ H ps S as) {i:Nat} {t t':T} {p:Addr} {ob:HO} (e:st.env[i]? = some (some (t,true))) (hp:σ[i]? = some (some (.ref p))) (h:Own K S as (upd H p ob) p t') :
    Rel K B (jf i t' true st) σ (upd H p ob) ps S as:=by
  obtain ⟨v,h1,_,h3⟩:=r.slots i t true e
  rw [hp] at h1; cases h1
  obtain ⟨p',ep,o⟩:=h3 rfl
  cases ep
  have hi:i<st.env.length:=(List.getElem?_eq_some_iff.mp e).1
  have other:∀ q,q≠p→H q=upd H p ob q:=fun q n=>(dw n).symm
  refine ⟨fun b u q=>?_,⟨r.grow.same,r.grow.more,fun q w a b c=>?_⟩,fun j u f ej=>?_,fun j k u w q ej ek sj sk=>?_,⟨r.sto.len,r.sto.nd,fun n so en=>?_⟩,r.pend,by show _=(st.env.set i _).length; rw [List.length_set]; exact r.len⟩
  · have n:b≠p:=fun z=>by subst z; rw [o.out] at q; cases q
    rw [dw n]; exact r.sub _ _ q
  · obtain ⟨x,y,z⟩:=r.grow.keep q w a b c
    have n:q≠p:=fun z=>by subst z; rw [o.new] at a; cases a
    exact ⟨by rw [dw n]; exact x,y,z⟩
  · have ej:(st.env.set i (some (t',true)))[j]? = some (some (u,f)):=ej
    by_cases hij:i=j
    · subst hij
      rw [List.getElem?_set_self hi] at ej; cases ej
      exact ⟨.ref p,hp,(fun z=>by cases z),fun _=>⟨p,rfl,h,o.out,o.nas,o.new⟩⟩
    · rw [List.getElem?_set_ne hij] at ej
      obtain ⟨v',a1,a2,a3⟩:=r.slots j u f ej
      refine ⟨v',a1,a2,fun z=>?_⟩
      subst z
      obtain ⟨p',rfl,o'⟩:=a3 rfl
      have n:p'≠p:=fun z=>by subst z; exact hij (r.apart i j t u p' e ej hp a1)
      exact ⟨p',rfl,o'.own.mono (Same.refl _) (other p' n),o'.out,o'.nas,o'.new⟩
  · have back:∀ (j:Nat) u,(st.env.set i (some (t',true)))[j]? = some (some (u,true))→∃ u',st.env[j]? = some (some (u',true)):=fun j u ej=>by
      by_cases hij:i=j
      · subst hij; exact ⟨t,e⟩
      · rw [List.getElem?_set_ne hij] at ej; exact ⟨u,ej⟩
    obtain ⟨u',ej'⟩:=back j u ej
    obtain ⟨w',ek'⟩:=back k w ek
    exact r.apart j k u' w' q ej' ek' sj sk
  · obtain ⟨a,a1,a2,a3⟩:=r.sto.at' n so en
    have n:a≠p:=fun z=>by subst z; exact o.nas (List.mem_of_getElem? a1)
    exact ⟨a,a1,a2,a3.mono (Same.refl _) (other a n)⟩
theorem Rel.a3j (r:Rel K B st σ H ps S as) {n:Nat} {so so':SO} {a:Addr} {ob:HO} (e:st.sto[n]? = some so) (ha:as[n]? = some a) (h:Yj K S as (upd H a ob) a so') :
    Rel K B { st with sto:=st.sto.set n so' } σ (upd H a ob) ps S as:=by
  have ma:a∈as:=List.mem_of_getElem? ha
  have hn:n<st.sto.length:=(List.getElem?_eq_some_iff.mp e).1
  have sa:S a=none:=by
    obtain ⟨a',a1,a2,_⟩:=r.sto.at' n so e
    rw [ha] at a1; cases a1; exact a2
  have other:∀ q,q≠a→H q=upd H a ob q:=fun q n=>(dw n).symm
  refine ⟨fun b u q=>?_,⟨r.grow.same,r.grow.more,fun q w x y z=>?_⟩,fun j u f ej=>?_,r.apart,⟨by rw [List.length_set]; exact r.sto.len,r.sto.nd,fun k so2 en=>?_⟩,r.pend,r.len⟩
  · have n:b≠a:=fun z=>by subst z; rw [sa] at q; cases q
    rw [dw n]; exact r.sub _ _ q
  · obtain ⟨x1,y1,z1⟩:=r.grow.keep q w x y z
    have n:q≠a:=fun z=>by subst z; exact z1 ma
    exact ⟨by rw [dw n]; exact x1,y1,z1⟩
  · obtain ⟨v',a1,a2,a3⟩:=r.slots j u f ej
    refine ⟨v',a1,a2,fun z=>?_⟩
    obtain ⟨p',rfl,o'⟩:=a3 z
    have n:p'≠a:=fun z=>by subst z; exact o'.nas ma
    exact ⟨p',rfl,o'.own.mono (Same.refl _) (other p' n),o'.out,o'.nas,o'.new⟩
  · by_cases hk:n=k
    · subst hk
      rw [List.getElem?_set_self hn] at en; cases en
      exact ⟨a,ha,sa,h⟩
    · rw [List.getElem?_set_ne hk] at en
      obtain ⟨b,b1,b2,b3⟩:=r.sto.at' k so2 en
      have n:b≠a:=fun z=>by
        subst z
        have l1:=(List.getElem?_eq_some_iff.mp b1).1
        have l2:=(List.getElem?_eq_some_iff.mp ha).1
        exact hk ((List.getElem?_inj (i:=n) (j:=k) l2 r.sto.nd).mp (by rw [ha,b1]))
      exact ⟨b,b1,b2,b3.mono (Same.refl _) (other b n)⟩
end
def Fin (K:PySem.W.Frag) (B:Bas) (D:Ends) (ps:List (V × T)):Flow→Sta→Prop
  | .next,st'=>∀ σ' H' S' as',Rel K B st' σ' H' ps S' as'→D.nx σ' H'
  | .ret t,st'=>∀ v σ' H' S' as',Rel K B st' σ' H' ((v,t)::ps) S' as'→D.rt v H'
  | .brk,st'=>∀ σ' H' S' as',Rel K B st' σ' H' ps S' as'→D.bk σ' H'
  | .cont,st'=>∀ σ' H' S' as',Rel K B st' σ' H' ps S' as'→D.ct σ' H'
inductive sOf (K:PySem.W.Frag) (B:Bas) (s:S) (D:Ends) (σ:L2.St) (H:Hp):Prop
  | mk (st:Sta) (ps:List (V × T)) (S0:Hp) (as:List Addr) (R:Rel K B st σ H ps S0 as) (fl:Flow) (st':Sta) (e:s st=some (fl,st')) (q:Fin K B D ps fl st')
inductive gOf (K:PySem.W.Frag) (B:Bas) (g:G) (v:V) (σ:L2.St) (H:Hp) (Q:L2.St→Hp→Prop):Prop
  | mk (st:Sta) (ps:List (V × T)) (S:Hp) (as:List Addr) (t:T) (R:Rel K B st σ H ((v,t)::ps) S as) (st':Sta) (e:g t st=some st') (q:∀ σ' H' S' as',Rel K B st' σ' H' ps S' as'→Q σ' H')
inductive fOf (K:PySem.W.Frag) (B:Bas) (m:M T) (σ:L2.St) (H:Hp) (Q:VK):Prop
  | mk (st:Sta) (ps:List (V × T)) (S:Hp) (as:List Addr) (R:Rel K B st σ H ps S as) (t:T) (st':Sta) (e:m st=some (t,st')) (q:∀ p H' S' as',Rel K B st' σ H' ps S' as'→Lh K B S' as' H' p t→J8 st' σ p→Q (.ref p) H')
section
variable {X:Cx} {B:Bas} {a b c e:Expr} {m m1 m2:M T} {pos:Pos} {u v:S}
theorem jl:PSs X [] (sOf X.K B zj):=a5d.imp fun D σ H z9=>by
  obtain ⟨st,ps,S,as,R,fl,st',e,q⟩:=z9
  cases e; exact q σ H S as R
theorem cj {st:Stmt} {rest:List Stmt} (h1:PS X st (sOf X.K B u)) (h2:PSs X rest (sOf X.K B v)):PSs X (st::rest) (sOf X.K B (j7 u v)):=(Tt h1 h2).imp fun D σ H z9=>by
  obtain ⟨st,ps,S,as,R,fl,st',e,q⟩:=z9
  rcases a2x e with ⟨s1,e1,e2⟩ | ⟨e1,hn⟩
  · exact ⟨st,ps,S,as,R,.next,s1,e1,fun σ' H' S' as' R'=>⟨s1,ps,S',as',R',fl,st',e2,q⟩⟩
  · refine ⟨st,ps,S,as,R,fl,st',e1,?_⟩
    cases fl with
    | next=>exact absurd rfl hn
    | ret t=>exact q
    | brk=>exact q
    | cont=>exact q
theorem fj {st:Stmt} (h1:PS X st (sOf X.K B u)):PSs X [st] (sOf X.K B u):=Ji h1
theorem j4 (he:PE X e (tOf X.K B m)):PS X (.Return (some e) pos) (sOf X.K B (v9 m)):=(a84 he).imp fun D σ H z9=>by
  obtain ⟨st,ps,S,as,R,fl,st',e,q⟩:=z9
  obtain ⟨t,e1,rfl⟩:=a0d e
  exact ⟨st,ps,S,as,R,t,st',e1,fun v H' S' as' R'=>q v σ H' S' as' R'⟩
theorem ud {c1:M Bool} {sa sb:List Stmt} (hc:PT X c (cOf X.K B c1)) (ha:PSs X sa (sOf X.K B u)) (hb:PSs X sb (sOf X.K B v)):PS X (.If c sa sb pos) (sOf X.K B (sIf c1 u v)):=(a9d hc ha hb).imp fun D σ H z9=>by
  obtain ⟨st,ps,S,as,R,fl,st',e,q⟩:=z9
  rcases a4x e with ⟨s1,e1,e2⟩ | ⟨s1,e1,e2⟩
  · exact ⟨st,ps,S,as,R,true,s1,e1,fun H1 S1 as1 R1=>a6f ⟨s1,ps,S1,as1,R1,fl,st',e2,q⟩⟩
  · exact ⟨st,ps,S,as,R,false,s1,e1,fun H1 S1 as1 R1=>a5g ⟨s1,ps,S1,as1,R1,fl,st',e2,q⟩⟩
theorem qg (i:Nat) {tg:Expr} (h:PG X tg (Mv i)):PG X tg (gOf X.K B (hName i)):=fun pins s σ H x u Q I r z9=>h pins s σ H x u Q I r (by
  obtain ⟨st,ps,S,as,t,R,st',e,q⟩:=z9
  cases e
  exact q _ H S as (R.drop.put R.top))
theorem jd (i:Nat) {te:TE} {s:Stmt} (h:PS X s (a3p te (Mv i))) (hm:∀ σ H Q,tOf X.K B m σ H Q→te σ H Q):PS X s (sOf X.K B (vg i m)):=h.imp fun D σ H z9=>by
  obtain ⟨st,ps,S,as,R,fl,st',e,q⟩:=z9
  obtain ⟨t,s1,e1,rfl,rfl⟩:=a2f e
  exact hm σ H _ ⟨st,ps,S,as,R,t,s1,e1,fun v H' S' as' R'=>q _ H' S' as' (R'.drop.put R'.top)⟩
theorem Ea (i:Nat) {te:TE} {s:Stmt} (h:PS X s (a3p te (Mv i))) (hm:∀ σ H Q,fOf X.K B m σ H Q→te σ H Q):PS X s (sOf X.K B (sNew i m)):=h.imp fun D σ H z9=>by
  obtain ⟨st,ps,S,as,R,fl,st',e,q⟩:=z9
  obtain ⟨t,s1,e1,rfl,rfl⟩:=a1u e
  exact hm σ H _ ⟨st,ps,S,as,R,t,s1,e1,fun p H' S' as' R' o n=>q _ H' S' as' (R'.a9j o n)⟩
end
end C
end
section
namespace C
open PySem PySem.Spec PyProof.Rows L2
section
variable {K:PySem.W.Frag} {B:Bas} {st:Sta} {σ:L2.St} {H H' S S':Hp} {ps ps2:List (V × T)} {as as':List Addr}
theorem Own.more {p:Addr} {t:T} (hs:Same S S') (x:∃ l,as'=as++l) (hh:H p=H' p) (o:Own K S as H p t):Own K S' as' H' p t:=by
  cases t with
  | lst ts=>obtain ⟨vs,h,r⟩:=o; exact ⟨vs,hh ▸ h,r.mono hs x⟩
  | dic ts=>obtain ⟨vs,h,r⟩:=o; exact ⟨vs,hh ▸ h,r.mono hs x⟩
  | _=>exact o.elim
theorem Rel.call {sto':List SO} (r:Rel K B st σ H ps S as) (g:Us ⟨S,as,H⟩ S' as' H') (sub:Same S' H') (so:Fe K S' as' H' sto'):Rel K B { st with sto:=sto' } σ H' ps S' as' where
  sub:=sub
  grow:=by
    refine ⟨r.grow.same.trans g.same,?_,fun p o a b c=>?_⟩
    · obtain ⟨l,e⟩:=r.grow.more
      obtain ⟨l',e'⟩:=g.more
      exact ⟨l++l',by rw [e',e,List.append_assoc]⟩
    · obtain ⟨x,y,z⟩:=r.grow.keep p o a b c
      exact g.keep p o x y z
  slots:=fun i t f e=>by
    obtain ⟨v,h1,h2,h3⟩:=r.slots i t f e
    refine ⟨v,h1,fun q=>(h2 q).mono g.same g.more,fun q=>?_⟩
    obtain ⟨p,rfl,o⟩:=h3 q
    obtain ⟨ob,ho⟩:=o.own.there
    obtain ⟨x,y,z⟩:=g.keep p ob ho o.out o.nas
    exact ⟨p,rfl,o.own.more g.same g.more (by rw [ho,x]),y,z,o.new⟩
  apart:=r.apart
  sto:=so
  pend:=fun p hp=>(r.pend p hp).mono g.same g.more
  len:=r.len
end
def spF (K:PySem.W.Frag) (ar:Nat) (F:Fn):Sp:=fun vs H Q _=>∃ S as sto ts t sto',Same S H∧Fe K S as H sto∧m7 K S as vs ts∧ts.length=ar∧F ts sto=some (t,sto') ∧
  ∀ v H' S' as',Us ⟨S,as,H⟩ S' as' H'→Same S' H'→Fe K S' as' H' sto'→Rep K S' as' v t→Q v H'
section
variable {X:Cx} {B:Bas} {a b c e:Expr} {m m1 m2:M T} {pos p:Pos} {u v:S} {es:List Expr} {ms:M (List T)} {k:Nat} {f:Addr} {fd:FuncData} {pn:List Str} {F:Fn} {x:Str}
theorem a78 (G:Fg X.prog X.w X.K X.mg X.base CX0 k f fd pn (spF X.K pn.length F)) (hr:Ei k X.A) (hg:Gl X x) (hm:X.mg x=some (.ref f)) (hk:PySem.W.keepIn X.K (.ref f)=true) (hb:Binds X.K fd pn [])
    (ha:PA X (e::es) (aOf X.K B ms)) (hl:∀ st ts st',ms st=some (ts,st')→ts.length=pn.length) (hdb:(x==("__debug__" : Str))=false:=by decide)
    (he:starEach (e::es) X.env=(false,eval e X.env)::starEach es X.env:=by rfl) (hpl:(backTo pos (starEach es X.env)).any (·.1)=false:=by rfl) :
    PE X (.Call (.Name x p) (e::es) [] pos) (tOf X.K B (gb F ms)) :=
  (a5h G hr hg hm hk hb .nil aay ha hdb he hpl).imp fun σ H Q z9=>by
    obtain ⟨st,ps,S,as,R,t,st',e,q⟩:=z9
    obtain ⟨ts,s1,sto,e1,e2,rfl⟩:=Zi e
    refine ⟨st,ps,S,as,R,ts,s1,e1,fun vs H1 S1 as1 R1 rs=>?_⟩
    show spF X.K pn.length F (vs++[]) H1 Q E0
    rw [List.append_nil]
    exact ⟨S1,as1,s1.sto,ts,t,sto,R1.sub,R1.sto,rs,hl _ _ _ e1,e2,fun v H2 S2 as2 g sub so r=>q v H2 S2 as2 ((R1.call g sub so).push r)⟩
theorem eq_nil:∀ st ts st',fu st=some (ts,st')→ts.length=0:=fun st ts st' e=>by cases e; rfl
theorem au {r:M (List T)} {n:Nat} (h:∀ st ts st',r st=some (ts,st')→ts.length=n):∀ st ts st',ao m r st=some (ts,st')→ts.length=n+1:=fun st ts st' e=>by
  obtain ⟨t,s1,us,e1,e2,rfl⟩:=Dv e
  exact congrArg (· + 1) (h _ _ _ e2)
end
section
variable {P:Program} {w:World} {K:PySem.W.Frag} {mg:Str→Option Value} {base:Heap}
theorem a04 {N:List Str} {vs:List V} {i:Nat} {v:V} (h:vs[i]? = some v):(L2.start N vs)[i]? = some (some v):=by
  unfold L2.start
  have hi:=(List.getElem?_eq_some_iff.mp h).1
  rw [List.getElem?_append_left (by rw [List.length_map]; exact hi),List.getElem?_map,h]; rfl
theorem Qo {S H:Hp} {as:List Addr} {sto:List SO} {vs:List V} {ts:List T} {N:List Str} (h1:Same S H) (h2:Fe K S as H sto) (h3:m7 K S as vs ts) (hN:ts.length≤N.length) :
    Rel K ⟨S,as,H⟩ ⟨ts.map (fun t=>some (t,false))++List.replicate (N.length - ts.length) none,sto⟩ (L2.start N vs) H [] S as:=by
  have key:∀ (i:Nat) t fl,(ts.map (fun t=>some (t,false))++List.replicate (N.length - ts.length) (none:Slot))[i]? = some (some (t,fl))→fl=false∧ts[i]? = some t:=fun i t fl e=>by
    by_cases hi:i<ts.length
    · rw [List.getElem?_append_left (by rw [List.length_map]; exact hi),List.getElem?_map] at e
      cases z:ts[i]? with
      | none=>rw [z] at e; cases e
      | some t'=>rw [z] at e; cases e; exact ⟨rfl,rfl⟩
    · rw [List.getElem?_append_right (by rw [List.length_map]; exact Nat.le_of_not_lt hi)] at e
      have:=List.eq_of_mem_replicate (List.mem_of_getElem? e)
      cases this
  refine ⟨h1,⟨Same.refl _,nol,fun p o a b c=>⟨a,b,c⟩⟩,fun i t fl e=>?_,fun i j t u p ei ej=>?_,h2,(fun p hp=>by cases hp),?_⟩
  · obtain ⟨rfl,e'⟩:=key i t fl e
    obtain ⟨v,hv,r⟩:=h3.get e'
    exact ⟨v,a04 hv,fun _=>r,fun z=>by cases z⟩
  · obtain ⟨z,_⟩:=key i t true ei; cases z
  · unfold L2.start
    rw [List.length_append,List.length_append,List.length_map,List.length_map,List.length_replicate,List.length_replicate,h3.length]
theorem jq {x qual:Str} {st:Stmt} {f:Addr} {fd:FuncData} {N ps:List Str} {k:Nat} {b:S} (F:Fun K x qual st f fd) (Sc:jc N ps (dz st)) (hN:ps.length≤N.length)
    (hb:∀ (cdv:Value) (A:Around) (outer:List Env) (s:Shared) (H:Hp) (E:XK) (B:Bas),Ei k (A.deeper (envOfC qual (dz st) s.heap.objs.size f cdv)) →
      PSs (Yh CX0 P w K mg base N qual (dz st) f cdv A outer s H E).nox (zy st) (sOf K B b)):Fg P w K mg base CX0 (k+1) f fd ps (spF K ps.length (qt N.length b)):=by
  refine F.ok Sc (fun vs H Q E h=>?_) fun cdv A outer s H vs Q E hr h=>?_
  · obtain ⟨S,as,sto,ts,t,sto',h1,h2,h3,h4,_⟩:=h
    rw [h3.length,h4]
  · obtain ⟨S,as,sto,ts,t,sto',h1,h2,h3,h4,h5,q⟩:=h
    refine ⟨_,hb cdv A outer s H E ⟨S,as,H⟩ hr,?_⟩
    have lv:vs.length=ps.length:=by rw [h3.length,h4]
    have R:Rel K ⟨S,as,H⟩ ⟨ts.map (fun t=>some (t,false))++List.replicate (N.length - ts.length) none,sto⟩ (L2.start N vs) H [] S as:=Qo h1 h2 h3 (by rw [h4]; exact hN)
    unfold qt at h5
    split at h5
    · rename_i t' s' e
      cases h5
      exact ⟨_,[],S,as,R,.ret t,s',e,fun v σ' H' S' as' R'=>q v H' S' as' R'.grow R'.sub R'.sto R'.top⟩
    · rename_i s' e
      cases h5
      exact ⟨_,[],S,as,R,.next,s',e,fun σ' H' S' as' R'=>q .non H' S' as' R'.grow R'.sub R'.sto .non⟩
    · cases h5
end
end C
end
section
namespace C
open PySem PySem.Spec PyProof.Rows L2
theorem a0u {g:G} {b:S} {t:T} {r:List T} {s s':Sta} {fl:Flow} (h:forL g b (t::r) s=some (fl,s')):∃ s1 fb s2,g t s=some s1∧b s1=some (fb,s2) ∧
    (match fb with | .next=>forL g b r s2=some (fl,s') | .cont=>forL g b r s2=some (fl,s') | .brk=>fl=.next∧s'=s2 | .ret v=>fl=.ret v∧s'=s2):=by
  rw [forL] at h
  dsimp only at h
  split at h
  · rename_i s1 e1
    split at h
    · rename_i s2 e2; exact ⟨s1,.next,s2,e1,e2,h⟩
    · rename_i s2 e2; exact ⟨s1,.cont,s2,e1,e2,h⟩
    · rename_i s2 e2; cases h; exact ⟨s1,.brk,_,e1,e2,rfl,rfl⟩
    · rename_i v s2 e2; cases h; exact ⟨s1,.ret v,_,e1,e2,rfl,rfl⟩
    · cases h
  · cases h
structure Js (K:PySem.W.Frag) (S:Hp) (as:List Addr) (H:Hp) (J:It) (ts:List T):Prop where
  go:∀ (i:Nat) t,ts[i]? = some t→J.go i H∧∀ x H',J.yld i H x H'→∃ S',Ext S H S' H'∧Rep K S' as x t
  stop:∀ i,ts.length≤i→J.stop i H
inductive iOf (K:PySem.W.Frag) (B:Bas) (m:M (List T)) (σ:L2.St) (H:Hp) (R:It→Hp→Prop):Prop
  | mk (st:Sta) (ps:List (V × T)) (S:Hp) (as:List Addr) (R0:Rel K B st σ H ps S as) (ts:List T) (st':Sta) (e:m st=some (ts,st')) (z:ts.length≤sizeLine) (q:∀ J H' S' as' ps',Rel K B st' σ H' (ps'++ps) S' as'→(∀ S as H,(∀ p∈ps',Rep K S as p.1 p.2)→Same S H→Js K S as H J ts)→R J H')
section
variable {X:Cx} {tg l:Expr} {tl:TE}
def iSq (K:PySem.W.Frag) (tl:TE):TI:=fun σ H R=>tl σ H fun x H1=>∃ a,x=.ref a∧(((∃ xs,SqL K H1 a xs)∧R (Itl K a) H1)∨((∃ xs,SqT K H1 a xs)∧R (Itt K a) H1))
theorem aa7 (hl:PE X l tl):PI X tg l (iSq X.K tl):=by
  intro pins s σ H R I h
  refine thn (hl pins s σ H _ I h) fun v s1 z0=>?_
  obtain ⟨x,H1,I1,r1,q1⟩:=z0
  obtain ⟨a,e,q⟩:=q1
  subst e
  cases r1
  rcases q with ⟨⟨xs,hq⟩,q⟩ | ⟨⟨xs,hq⟩,q⟩
  · obtain ⟨its,rv,p,hz⟩:=I1.list hq
    refine wpAny_pyIter_list p.isList ?_
    refine ⟨s1.heap.objs.size,[s1.heap.objs.size],_,_,H1,rfl,I1.kept (t':=s1.toks) fun b o e=>Heap.get?_push_of_some _ e,Yn a _,⟨_,Heap.get?_push_size _ rfl,rfl,rfl⟩,fun b hb=>?_,q⟩
    have e:b=s1.heap.objs.size:=by simpa using hb
    subst e
    exact I1.a7f (Nat.le_refl _) (I1.hok.fresh (Nat.le_refl _))
  · obtain ⟨its,rv,p,hz⟩:=I1.tuple hq
    refine wpAny_pyIter_tuple (show s1.heap.IsTuple a its.toArray from p) ?_
    refine ⟨s1.heap.objs.size,[s1.heap.objs.size],_,_,H1,rfl,I1.kept (t':=s1.toks) fun b o e=>Heap.get?_push_of_some _ e,W5 a _,⟨_,Heap.get?_push_size _ rfl,rfl,rfl⟩,fun b hb=>?_,q⟩
    have e:b=s1.heap.objs.size:=by simpa using hb
    subst e
    exact I1.a7f (Nat.le_refl _) (I1.hok.fresh (Nat.le_refl _))
end
section
variable {X:Cx} {B:Bas} {a b c e tg iter:Expr} {m m1 m2:M T} {pos p:Pos} {u v:S} {g:G} {it:M (List T)} {body:List Stmt}
theorem itL {K:PySem.W.Frag} {S:Hp} {as:List Addr} {H:Hp} {p:Addr} {vs:List V} {ts:List T} (sub:Same S H) (h:SqL K H p vs) (r:m7 K S as vs ts):Js K S as H (Itl K p) ts where
  go:=fun i t e=>by
    obtain ⟨v,hv,rv⟩:=r.get e
    exact ⟨⟨vs,v,h,hv⟩,fun x H' y=>⟨S,by rw [y.1]; exact Ext.refl sub,by have:=y.2 vs h; rw [hv] at this; cases this; exact rv⟩⟩
  stop:=fun i hi=>⟨vs,h,by rw [r.length]; exact hi⟩
theorem itT {K:PySem.W.Frag} {S:Hp} {as:List Addr} {H:Hp} {p:Addr} {vs:List V} {ts:List T} (sub:Same S H) (h:SqT K H p vs) (r:m7 K S as vs ts):Js K S as H (Itt K p) ts where
  go:=fun i t e=>by
    obtain ⟨v,hv,rv⟩:=r.get e
    exact ⟨⟨vs,v,h,hv⟩,fun x H' y=>⟨S,by rw [y.1]; exact Ext.refl sub,by have:=y.2 vs h; rw [hv] at this; cases this; exact rv⟩⟩
  stop:=fun i hi=>⟨vs,h,by rw [r.length]; exact hi⟩
theorem lq:lim≤sizeLine:=by rw [sizeLine_eq]; decide
theorem xr (h:PE X iter (tOf X.K B m)):PI X tg iter (iOf X.K B (Aa m)):=by
  intro pins s σ H R I hw
  refine aa7 h pins s σ H R I ?_
  obtain ⟨st,ps,S,as,Rl,ts,st',e,hz,q⟩:=hw
  unfold Aa at e
  split at e
  · rename_i xs s1 e1
    split at e
    · rename_i hl
      cases e
      refine ⟨st,ps,S,as,Rl,_,_,e1,fun v H1 S1 as1 R1=>?_⟩
      have top:=R1.top
      cases top with
      | @lst a vs _ hs hr =>
        refine ⟨a,rfl,.inl ⟨⟨vs,ji R1.sub hs⟩,q _ H1 S1 as1 [(.ref a,.lst _)] R1 fun S2 as2 H2 hp hh=>?_⟩⟩
        have:=hp _ List.mem_cons_self
        cases this with
        | @lst _ vs2 _ hs2 hr2=>exact itL hh (ji hh hs2) hr2
    · cases e
  · rename_i xs s1 e1
    split at e
    · rename_i hl
      cases e
      refine ⟨st,ps,S,as,Rl,_,_,e1,fun v H1 S1 as1 R1=>?_⟩
      have top:=R1.top
      cases top with
      | @tup a vs _ hs hr =>
        refine ⟨a,rfl,.inr ⟨⟨vs,ju R1.sub hs⟩,q _ H1 S1 as1 [(.ref a,.tup _)] R1 fun S2 as2 H2 hp hh=>?_⟩⟩
        have:=hp _ List.mem_cons_self
        cases this with
        | @tup _ vs2 _ hs2 hr2=>exact itT hh (ju hh hs2) hr2
    · cases e
  · cases e
theorem Mp {a:M T} {ts:List T} {s s':Sta} (h:Cz a s=some (ts,s')):∃ n:Int,a s=some (.int n,s')∧(-1000000<n∧n<1000000)∧ts=rangeT n.toNat:=by
  unfold Cz at h
  split at h
  · rename_i n s1 e
    split at h
    · rename_i hl; cases h; exact ⟨n,e,by have:n.natAbs<1000000:=hl; (clear e hl; omega),rfl⟩
    · cases h
  · cases h
theorem Vj {n i:Nat} {t:T} (h:(rangeT n)[i]? = some t):i<n∧t=.int (i:Int):=by
  unfold rangeT at h
  rw [List.getElem?_map] at h
  cases z:(List.range n)[i]? with
  | none=>rw [z] at h; cases h
  | some k =>
    rw [z] at h; cases h
    obtain ⟨hi,e⟩:=List.getElem?_eq_some_iff.mp z
    rw [List.getElem_range] at e; subst e
    rw [List.length_range] at hi
    exact ⟨hi,rfl⟩
theorem J5 (hg:Gl X "range") (hm:X.mg "range" = none) (h:PE X a (tOf X.K B m)) (hs:starEach [a] X.env=[(false,eval a X.env)]:=by rfl):PI X tg (.Call (.Name "range" p) [a] [] pos) (iOf X.K B (Cz m)):=by
  intro pins s σ H R I hw
  refine a03 (ta:=Pj (tOf X.K B m) a7e) hg hm (jt h wz hs) hs pins s σ H R I ?_
  obtain ⟨st,ps,S,as,Rl,ts,st',e,hz,q⟩:=hw
  obtain ⟨n,e1,hl,rfl⟩:=Mp e
  refine ⟨st,ps,S,as,Rl,_,_,e1,fun v H1 S1 as1 R1=>?_⟩
  cases R1.top
  refine ⟨n,rfl,by (clear R1 q hz e e1 Rl I hs h hm hg; omega),by (clear R1 q hz e e1 Rl I hs h hm hg; omega),q _ H1 S1 as1 [] R1.drop fun S2 as2 H2 _ hh=>⟨fun i t e=>?_,fun i hi=>?_⟩⟩
  · obtain ⟨hi,rfl⟩:=Vj e
    refine ⟨hi,fun x H' y=>⟨S2,by rw [y.1]; exact Ext.refl hh,?_⟩⟩
    have:=y.2; subst this
    rw [Int.zero_add]; exact .int _
  · show n.toNat≤i
    unfold rangeT at hi
    rwa [List.length_map,List.length_range] at hi
theorem Et (hp:PassesOwn (model X.prog X.w) X.A X.env X.xe) (hc:X.calm=true) (hi:PI X tg iter (iOf X.K B it)) (hg:PG X tg (gOf X.K B g)) (hb:PSs X body (sOf X.K B u)) (hsz:∀ st ts st',it st=some (ts,st')→ts.length≤sizeLine)
    (hs:∀ x,foldedSetIterable iter X.env x=pure x:=by intro _; rfl):PS X (.For tg iter body [] pos) (sOf X.K B (Hj g it u)):=(a3z hp hc hi hg hb hs).imp fun D σ H z9=>by
  obtain ⟨st,ps,S,as,R,fl,st',e,q⟩:=z9
  obtain ⟨ts,s1,e1,e2⟩:=a1k e
  refine ⟨st,ps,S,as,R,ts,s1,e1,hsz _ _ _ e1,fun J H1 S1 as1 ps' R1 facts=>?_⟩
  refine ⟨fun i m σ H=>m=ts.length - i∧i≤ts.length∧∃ sti Si asi,Rel X.K B sti σ H (ps'++ps) Si asi∧forL g u (ts.drop i) sti=some (fl,st'),⟨ts.length,by simp,Nat.zero_le _,s1,S1,as1,R1,by simpa using e2⟩,?_⟩
  rintro i m σ2 H2 ⟨rfl,hi,sti,Si,asi,Ri,ei⟩
  have F:=facts Si asi H2 (fun p hp=>Ri.pend p (List.mem_append_left _ hp)) Ri.sub
  have sub:∀ p∈ps,p∈ps'++ps:=fun p hp=>List.mem_append_right _ hp
  by_cases hlt:i<ts.length
  · rw [List.drop_eq_getElem_cons hlt] at ei
    obtain ⟨s2,fb,s3,eg,eb,er⟩:=a0u ei
    have ht:ts[i]? = some ts[i]:=List.getElem?_eq_getElem hlt
    refine .inr ⟨(F.go i _ ht).1,fun σ' H'=>∃ sti Si asi,Rel X.K B sti σ' H' (ps'++ps) Si asi∧forL g u (ts.drop (i+1)) sti=some (fl,st'),fun σ' H' h=>⟨ts.length - (i+1),by (clear h ht er eb eg ei sub F Ri hi facts R1 e2 e1 q e R hs hsz hb hg hc hp; omega),rfl,hlt,h⟩,fun x H' y=>?_⟩
    obtain ⟨S',ex,rx⟩:=(F.go i _ ht).2 x H' y
    refine ⟨sti,ps'++ps,S',asi,_,(Ri.ext ex).push rx,s2,eg,fun σ3 H3 S3 as3 R3=>⟨s2,ps'++ps,S3,as3,R3,fb,s3,eb,?_⟩⟩
    cases fb with
    | next=>exact fun σ' H' S' as' R'=>⟨s3,S',as',R',er⟩
    | cont=>exact fun σ' H' S' as' R'=>⟨s3,S',as',R',er⟩
    | brk =>
      obtain ⟨rfl,rfl⟩:=er
      exact fun σ' H' S' as' R'=>q σ' H' S' as' (R'.pick sub)
    | ret v =>
      obtain ⟨rfl,rfl⟩:=er
      exact fun v σ' H' S' as' R'=>q v σ' H' S' as' (R'.pick fun p hp=>by
        rcases List.mem_cons.mp hp with rfl | z
        · exact List.mem_cons_self
        · exact List.mem_cons_of_mem _ (sub p z))
  · have hie:i=ts.length:=by (clear sub F ei Ri facts R1 e2 e1 q e R hs hsz hb hg hc hp; omega)
    subst hie
    rw [List.drop_length] at ei
    cases ei
    exact .inl ⟨F.stop _ (Nat.le_refl _),q σ2 H2 Si asi (Ri.pick sub)⟩
end
end C
end
section
namespace C
open PySem PySem.Spec PyProof.Rows L2
section
variable {K:PySem.W.Frag} {B:Bas} {st:Sta} {σ:L2.St} {H H' S S':Hp} {ps ps2:List (V × T)} {as as':List Addr}
theorem Rel.Sw (r:Rel K B st σ H ps S as) {i:Nat} {t:T} (e:st.env[i]? = some (some (t,true))):∃ S',Rel K B { st with env:=st.env.set i (some (t,false)) } σ H ps S' as:=by
  obtain ⟨v,S',_,R⟩:=r.freeze e
  exact ⟨S',R.drop⟩
theorem Rel.jg:∀ (cap:List Nat) {st:Sta} {S:Hp},Rel K B st σ H ps S as→∃ S',Rel K B { st with env:=jg cap st.env } σ H ps S' as
  | [],st,S,r=>⟨S,r⟩
  | i::l,st,S,r=>by
    unfold C.jg
    rw [List.foldl_cons]
    split
    · rename_i t f e
      cases f with
      | true =>
        obtain ⟨S1,R1⟩:=r.Sw e
        exact Rel.jg l R1
      | false =>
        have e2:st.env.set i (some (t,false))=st.env:=by
          apply List.ext_getElem?
          intro j
          by_cases hij:i=j
          · subst hij
            rw [List.getElem?_set_self (List.getElem?_eq_some_iff.mp e).1,e]
          · rw [List.getElem?_set_ne hij]
        rw [e2]
        exact Rel.jg l r
    · exact Rel.jg l r
def Em (env:List Slot):Nat→List Slot
  | 0=>env
  | n+1=>match (Em env n)[n]? with
    | some (some (t,_))=>(Em env n).set n (some (t,false))
    | _=>Em env n
theorem K3 (env:List Slot):∀ n,(Em env n).length=env.length
  | 0=>rfl
  | n+1=>by
    rw [Em]
    split
    · rw [List.length_set]; exact K3 env n
    · exact K3 env n
theorem J9 (env:List Slot):∀ (n j:Nat),(Em env n)[j]? = if j<n then (env[j]?).map Oz else env[j]?
  | 0,j=>by rw [if_neg (Nat.not_lt_zero _)]; rfl
  | n+1,j=>by
    have ihn:=J9 env n n
    rw [if_neg (Nat.lt_irrefl _)] at ihn
    have ihj:=J9 env n j
    rw [Em,ihn]
    by_cases hj:j=n
    · subst hj
      rw [if_pos (Nat.lt_succ_self _)]
      cases z:env[j]? with
      | none=>simp only [z,Option.map_none]; rw [ihn,z]
      | some s =>
        have hl:j<(Em env j).length:=by rw [K3]; exact (List.getElem?_eq_some_iff.mp z).1
        cases s with
        | none=>simp only [Option.map_some]; rw [ihn,z]; rfl
        | some p=>obtain ⟨t,f⟩:=p; simp only [Option.map_some]; rw [List.getElem?_set_self hl]; rfl
    · have e1:(if j<n+1 then (env[j]?).map Oz else env[j]?)=(if j<n then (env[j]?).map Oz else env[j]?):=by
        by_cases hlt:j<n
        · rw [if_pos hlt,if_pos (Nat.lt_succ_of_lt hlt)]
        · rw [if_neg hlt,if_neg (by (clear ihj ihn; omega))]
      rw [e1,← ihj]
      split
      · rw [List.getElem?_set_ne (Ne.symm hj)]
      · rfl
theorem Xi (env:List Slot):Em env env.length=env.map Oz:=by
  apply List.ext_getElem?
  intro j
  rw [J9,List.getElem?_map]
  by_cases hj:j<env.length
  · rw [if_pos hj]
  · rw [if_neg hj,List.getElem?_eq_none (Nat.le_of_not_lt hj)]; rfl
theorem Rel.Em (r:Rel K B st σ H ps S as):∀ n,∃ S',Rel K B { st with env:=C.Em st.env n } σ H ps S' as
  | 0=>⟨S,r⟩
  | n+1=>by
    obtain ⟨S1,R1⟩:=Rel.Em r n
    rw [C.Em]
    split
    · rename_i t f e
      cases f with
      | true=>exact R1.Sw e
      | false =>
        have e2:(C.Em st.env n).set n (some (t,false))=C.Em st.env n:=by
          apply List.ext_getElem?
          intro j
          by_cases hij:n=j
          · subst hij
            rw [List.getElem?_set_self (List.getElem?_eq_some_iff.mp e).1,e]
          · rw [List.getElem?_set_ne hij]
        rw [e2]
        exact ⟨S1,R1⟩
    · exact ⟨S1,R1⟩
theorem Rel.kh (r:Rel K B st σ H ps S as):∃ S',Rel K B (kh st) σ H ps S' as:=by
  obtain ⟨S',R⟩:=r.Em st.env.length
  rw [Xi] at R
  exact ⟨S',R⟩
def a3d (st:Sta):Prop:=∀ (i:Nat) t,st.env[i]?≠some (some (t,true))
theorem Bd (st:Sta):a3d (C.kh st):=fun i t e=>by
  unfold C.kh at e
  rw [List.getElem?_map] at e
  cases z:st.env[i]? with
  | none=>rw [z] at e; cases e
  | some s =>
    rw [z] at e
    cases s with
    | none=>cases e
    | some p=>obtain ⟨t,f⟩:=p; cases e
theorem Rel.rebase (r:Rel K B st σ H ps S as) (n:a3d st):Rel K ⟨S,as,H⟩ st σ H ps S as :=
  ⟨r.sub,⟨Same.refl _,nol,fun p o a b c=>⟨a,b,c⟩⟩,fun i t f e=>by
    obtain ⟨v,h1,h2,_⟩:=r.slots i t f e
    exact ⟨v,h1,h2,fun z=>by subst z; exact absurd e (n i t)⟩,r.apart,r.sto,r.pend,r.len⟩
end
theorem Xp {g:G} {c:M Bool} {e:M T} {t:T} {r acc us:List T} {s s':Sta} (h:Bp g c e (t::r) s acc=some (us,s')):∃ s1 b s2,g t s=some s1∧c s1=some (b,s2) ∧
    ((b=true∧∃ u s3,e s2=some (u,s3)∧acc.length<lim∧Bp g c e r (kh s3) (acc++[u])=some (us,s'))∨(b=false∧Bp g c e r (kh s2) acc=some (us,s'))):=by
  rw [Bp] at h
  split at h
  · rename_i s1 e1
    split at h
    · rename_i s2 e2
      split at h
      · rename_i u s3 e3
        split at h
        · rename_i hl; exact ⟨s1,true,s2,e1,e2,.inl ⟨rfl,u,s3,e3,hl,h⟩⟩
        · cases h
      · cases h
    · rename_i s2 e2; exact ⟨s1,false,s2,e1,e2,.inr ⟨rfl,h⟩⟩
    · cases h
  · cases h
theorem Pr {nv:Nat} {cap:List Nat} {g:G} {it:M (List T)} {c:M Bool} {e:M T} {s s':Sta} {v:T} (h:uy nv cap g it c e s=some (v,s')):∃ ts s1 us s2,it s=some (ts,s1) ∧
    Bp g c e ts ⟨List.replicate nv none++cap.map (fun i=>((jg cap s1.env)[i]?).getD none),s1.sto⟩ []=some (us,s2)∧v=.lst us∧s'=⟨jg cap s1.env,s2.sto⟩:=by
  unfold uy at h
  split at h
  · rename_i ts s1 e1
    dsimp only at h
    split at h
    · rename_i us s2 e2; cases h; exact ⟨ts,s1,us,s2,e1,e2,rfl,rfl⟩
    · cases h
  · cases h
section
variable {K:PySem.W.Frag} {B:Bas} {st:Sta} {σ:L2.St} {H H' S S':Hp} {ps ps2:List (V × T)} {as as':List Addr} {D:Addr} {ob:HO}
theorem Fe.mem {sto:List SO} (r:Fe K S as H sto) {a:Addr} (h:a∈as):∃ o,H a=some o:=by
  obtain ⟨n,hn⟩:=List.getElem?_of_mem h
  have hl:=(List.getElem?_eq_some_iff.mp hn).1
  rw [r.len] at hl
  obtain ⟨a',h1,h2,h3⟩:=r.at' n _ (List.getElem?_eq_getElem hl)
  rw [hn] at h1; cases h1
  exact h3.there
theorem Rel.fresh (r:Rel K B st σ H ps S as) (h:H D=none):B.H D=none∧S D=none∧D∉as∧J8 st σ D:=by
  have sD:S D=none:=r.sub.free h
  have nD:D∉as:=fun z=>by obtain ⟨o,e⟩:=r.sto.mem z; rw [h] at e; cases e
  refine ⟨?_,sD,nD,fun j u e1 e2=>?_⟩
  · cases q:B.H D with
    | none=>rfl
    | some o =>
      have b1:B.S D=none:=by
        cases z:B.S D with
        | none=>rfl
        | some u=>have:=r.grow.same _ _ z; rw [sD] at this; cases this
      have b2:D∉B.as:=fun z=>by obtain ⟨l,e⟩:=r.grow.more; exact nD (by rw [e]; exact List.mem_append_left _ z)
      have:=(r.grow.keep D o q b1 b2).1
      rw [h] at this; cases this
  · obtain ⟨v,h1,_,h3⟩:=r.slots j u true e1
    rw [e2] at h1; cases h1
    obtain ⟨p,ep,o⟩:=h3 rfl
    cases ep
    obtain ⟨ob,ho⟩:=o.own.there
    rw [h] at ho; cases ho
theorem Rel.a9l (r:Rel K B st σ H ps S as) (bD:B.H D=none) (sD:S D=none) (nD:D∉as) (no:J8 st σ D):Rel K B st σ (upd H D ob) ps S as:=by
  have ne:∀ b u,S b=some u→b≠D:=fun b u e z=>by subst z; rw [sD] at e; cases e
  refine ⟨fun b u e=>by rw [dw (ne b u e)]; exact r.sub _ _ e,⟨r.grow.same,r.grow.more,fun p o x y z=>?_⟩,fun i t f e=>?_,r.apart,⟨r.sto.len,r.sto.nd,fun n so e=>?_⟩,r.pend,r.len⟩
  · obtain ⟨a,b,c⟩:=r.grow.keep p o x y z
    exact ⟨by rw [dw (fun w=>by subst w; rw [bD] at x; cases x)]; exact a,b,c⟩
  · obtain ⟨v,h1,h2,h3⟩:=r.slots i t f e
    refine ⟨v,h1,h2,fun z=>?_⟩
    obtain ⟨p,rfl,o⟩:=h3 z
    have n:p≠D:=fun w=>by subst w; subst z; exact no i t e h1
    exact ⟨p,rfl,o.own.mono (Same.refl _) (dw n).symm,o.out,o.nas,o.new⟩
  · obtain ⟨a,h1,h2,h3⟩:=r.sto.at' n so e
    exact ⟨a,h1,h2,h3.mono (Same.refl _) (dw (fun w=>by subst w; exact nD (List.mem_of_getElem? h1))).symm⟩
theorem Rel.a93 (r:Rel K B st σ H ps S as) (no:a3d st) (sD:S D=none) (nD:D∉as):Rel K ⟨S,as,upd H D ob⟩ st σ (upd H D ob) ps S as:=by
  have ne:∀ b u,S b=some u→b≠D:=fun b u e z=>by subst z; rw [sD] at e; cases e
  refine ⟨fun b u e=>by rw [dw (ne b u e)]; exact r.sub _ _ e,⟨Same.refl _,nol,fun p o x y z=>⟨x,y,z⟩⟩,fun i t f e=>?_,r.apart,⟨r.sto.len,r.sto.nd,fun n so e=>?_⟩,r.pend,r.len⟩
  · obtain ⟨v,h1,h2,_⟩:=r.slots i t f e
    exact ⟨v,h1,h2,fun z=>by subst z; exact absurd e (no i t)⟩
  · obtain ⟨a,h1,h2,h3⟩:=r.sto.at' n so e
    exact ⟨a,h1,h2,h3.mono (Same.refl _) (dw (fun w=>by subst w; exact nD (List.mem_of_getElem? h1))).symm⟩
end
theorem G4:∀ (cap:List Nat) (env:List Slot) (k:Nat),(∀ t,env[k]?≠some (some (t,true)))→∀ t,(jg cap env)[k]?≠some (some (t,true))
  | [],env,k,h=>h
  | i::l,env,k,h=>by
    have e:jg (i::l) env=jg l (match env[i]? with | some (some (t,_))=>env.set i (some (t,false)) | _=>env):=rfl
    rw [e]
    refine G4 l _ k fun t=>?_
    split
    · rename_i t' f e'
      by_cases hk:i=k
      · subst hk
        rw [List.getElem?_set_self (List.getElem?_eq_some_iff.mp e').1]
        intro z; cases z
      · rw [List.getElem?_set_ne hk]; exact h t
    · exact h t
theorem Fo:∀ (cap:List Nat) (env:List Slot) (k:Nat),k∈cap→∀ t,(jg cap env)[k]?≠some (some (t,true))
  | [],env,k,h=>by simp at h
  | i::l,env,k,h=>by
    have e:jg (i::l) env=jg l (match env[i]? with | some (some (t,_))=>env.set i (some (t,false)) | _=>env):=rfl
    rw [e]
    rcases List.mem_cons.mp h with rfl | h' -- here
    · refine G4 l _ k fun t=>?_
      split
      · rename_i t' f e'
        rw [List.getElem?_set_self (List.getElem?_eq_some_iff.mp e').1]
        intro z; cases z
      · rename_i hx
        intro z
        exact hx _ _ z
    · exact Fo l _ k h'
def gE (K:PySem.W.Frag) (g:G):TG:=fun v σ H Q=>∃ B,gOf K B g v σ H Q
def cE (K:PySem.W.Frag) (c:M Bool):TT:=fun σ H Q=>∃ B,cOf K B c σ H Q
def eE (K:PySem.W.Frag) (e:M T):TE:=fun σ H Q=>∃ B,tOf K B e σ H Q
theorem pgE {X:Cx} {tg:Expr} {g:G} (h:∀ B,PG X tg (gOf X.K B g)):PG X tg (gE X.K g):=fun pins s σ H x u Q I r ⟨B,q⟩=>h B pins s σ H x u Q I r q
theorem ptE {X:Cx} {e:Expr} {c:M Bool} (h:∀ B,PT X e (cOf X.K B c)):PT X e (cE X.K c):=fun pins s σ H Q I ⟨B,q⟩=>h B pins s σ H Q I q
theorem peE {X:Cx} {e:Expr} {m:M T} (h:∀ B,PE X e (tOf X.K B m)):PE X e (eE X.K m):=fun pins s σ H Q I ⟨B,q⟩=>h B pins s σ H Q I q
theorem ql {X:Cx}:PTs X [] (cE X.K uz):=fun pins s σ H Q I z9=>by
  obtain ⟨B,st,ps,S,as,R,b,st',e,q⟩:=z9
  cases e
  exact a5q pins s σ H Q I (q H S as R)
theorem a1g {X:Cx} {e:Expr} {c:M Bool} (h:∀ B,PT X e (cOf X.K B c)):PTs X [e] (cE X.K c):=a4r (ptE h)
section
variable {X:Cx} {scope:Scope} {N:List Str}
inductive CI (K:PySem.W.Frag) (B:Bas) (g:G) (c:M Bool) (e:M T) (ts us:List T) (env:List Slot) (s2:Sta) (σ:L2.St) (pp:List (V × T)) (D:Addr) (i m:Nat) (σ':L2.St) (H':Hp):Prop where
  | mk (sti:Sta) (Si:Hp) (asi:List Addr) (acc:List T) (accv:List V) (hm:m=ts.length - i) (hi:i≤ts.length) (Ri:Rel K ⟨Si,asi,H'⟩ sti σ' H' [] Si asi) (no:a3d sti) (Ro:Rel K B ⟨env,sti.sto⟩ σ H' pp Si asi) (hD:H' D=some (.lst accv)) (sD:Si D=none) (nD:D∉asi) (rA:m7 K Si asi accv acc) (ei:Bp g c e (ts.drop i) sti acc=some (us,s2)):CI K B g c e ts us env s2 σ pp D i m σ' H'
theorem Ot {B:Bas} {nv:Nat} {cap:List Nat} {g:G} {c:M Bool} {e:M T} {ts us:List T} {env:List Slot} {sto1:List SO} {s2:Sta} {σ:L2.St} {H1 S1:Hp} {as1:List Addr} {ps ps':List (V × T)} {J:It} {Q:VK}
    (hN:N.length=nv+cap.length) (hv:∀ i x,i<nv→N[i]? = some x→True)
    (hcap:∀ (j k:Nat),cap[j]? = some k→∃ x,N[nv+j]? = some x∧X.N[k]? = some x∧a9q X scope x)
    (R1:Rel X.K B ⟨env,sto1⟩ σ H1 (ps'++ps) S1 as1) (hno:∀ k∈cap,∀ t,env[k]?≠some (some (t,true)))
    (facts:∀ S as H,Same B.S S→(∃ l,as=B.as++l)→(∀ p∈ps',Rep X.K S as p.1 p.2)→Same S H→Js X.K S as H J ts)
    (hc:Bp g c e ts ⟨List.replicate nv none++cap.map (fun i=>(env[i]?).getD none),sto1⟩ []=some (us,s2))
    (fin:∀ D H' S' as',Rel X.K B ⟨env,s2.sto⟩ σ H' (ps'++ps) S' as'→Lh X.K B S' as' H' D (.lst us)→J8 ⟨env,s2.sto⟩ σ D→Q (.ref D) H') :
    Rg X scope N (gE X.K g) (cE X.K c) (eE X.K e) σ J H1 Q:=by
  intro D hD
  obtain ⟨bD,sD1,nD1,noD⟩:=R1.fresh hD
  have capg:∀ (i:Nat) s,(List.replicate nv (none:Slot)++cap.map (fun i=>(env[i]?).getD none))[i]? = some (some s)→∃ j k,i=nv+j∧cap[j]? = some k∧env[k]? = some (some s):=fun i s h=>by
    by_cases hi:i<nv
    · rw [List.getElem?_append_left (by rw [List.length_replicate]; exact hi)] at h
      have:=List.eq_of_mem_replicate (List.mem_of_getElem? h); cases this
    · rw [List.getElem?_append_right (by rw [List.length_replicate]; exact Nat.le_of_not_lt hi),List.length_replicate,List.getElem?_map] at h
      cases z:cap[i - nv]? with
      | none=>rw [z] at h; cases h
      | some k =>
        rw [z] at h
        refine ⟨i - nv,k,by (clear z h noD nD1 sD1 bD hD fin hc facts hno R1 hcap hv hN; omega),z,?_⟩
        cases w:env[k]? with
        | none=>simp [w] at h
        | some s'=>simp [w] at h; rw [h]
  have sig:∀ (j k:Nat) v,cap[j]? = some k→σ[k]? = some (some v)→(List.replicate nv (none:Option V)++cap.map (fun i=>(σ[i]?).getD none))[nv+j]? = some (some v):=fun j k v h1 h2=>by
    rw [List.getElem?_append_right (by rw [List.length_replicate]; (clear h2 h1 capg noD nD1 sD1 bD hD fin hc facts hno R1 hcap hv hN; omega)),List.length_replicate,Nat.add_sub_cancel_left,List.getElem?_map,h1]
    simp [h2]
  refine ⟨List.replicate nv none++cap.map (fun i=>(σ[i]?).getD none),by rw [List.length_append,List.length_replicate,List.length_map,hN],fun i v x h1 h2 _=>?_,?_⟩
  · by_cases hi:i<nv
    · rw [List.getElem?_append_left (by rw [List.length_replicate]; exact hi)] at h1
      have:=List.eq_of_mem_replicate (List.mem_of_getElem? h1); cases this
    · rw [List.getElem?_append_right (by rw [List.length_replicate]; exact Nat.le_of_not_lt hi),List.length_replicate,List.getElem?_map] at h1
      cases z:cap[i - nv]? with
      | none=>rw [z] at h1; cases h1
      | some k =>
        rw [z] at h1
        obtain ⟨y,n1,n2,ck⟩:=hcap _ _ z
        have e:nv+(i - nv)=i:=by (clear ck n2 n1 z h1 h2 sig capg noD nD1 sD1 bD hD fin hc facts hno R1 hcap hv hN; omega)
        rw [e,h2] at n1; cases n1
        refine ⟨k,n2,?_,ck⟩
        cases w:σ[k]? with
        | none=>simp [w] at h1
        | some s'=>simp [w] at h1; rw [h1]
  refine ⟨fun i m σ' H'=>CI X.K B g c e ts us env s2 σ (ps'++ps) D i m σ' H',⟨ts.length,.mk _ S1 as1 [] [] (by simp) (Nat.zero_le _) ?_ ?_ ?_ dj sD1 nD1 .nil hc⟩,?_⟩
  · refine Rel.a93 (B:=B) (H:=H1) ⟨R1.sub,R1.grow,fun i t f h=>?_,fun i j t u p hi hj=>?_,R1.sto,(fun p hp=>by cases hp),?_⟩ (fun i t h=>?_) sD1 nD1
    · obtain ⟨j,k,rfl,hk,ek⟩:=capg i _ h
      obtain ⟨v,h1,h2,h3⟩:=R1.slots k t f ek
      exact ⟨v,sig j k v hk h1,h2,h3⟩
    · obtain ⟨j,k,rfl,hk,ek⟩:=capg i _ hi
      exact absurd ek (hno k (List.mem_of_getElem? hk) t)
    · show (List.replicate nv (none:Option V)++cap.map _).length=(List.replicate nv (none:Slot)++cap.map _).length
      rw [List.length_append,List.length_append,List.length_replicate,List.length_replicate,List.length_map,List.length_map]
    · obtain ⟨j,k,rfl,hk,ek⟩:=capg i _ h
      exact absurd ek (hno k (List.mem_of_getElem? hk) t)
  · intro i t h
    obtain ⟨j,k,rfl,hk,ek⟩:=capg i _ h
    exact absurd ek (hno k (List.mem_of_getElem? hk) t)
  · exact R1.a9l bD sD1 nD1 noD
  rintro i m σ' H' ⟨sti,Si,asi,acc,accv,rfl,hi,Ri,no,Ro,hD',sD,nD,rA,ei⟩
  have F:=facts Si asi H' Ro.grow.same Ro.grow.more (fun p hp=>Ro.pend p (List.mem_append_left _ hp)) Ri.sub
  by_cases hlt:i<ts.length
  · rw [List.drop_eq_getElem_cons hlt] at ei
    obtain ⟨s3,b,s4,eg,ec,er⟩:=Xp ei
    have ht:ts[i]? = some ts[i]:=List.getElem?_eq_getElem hlt
    refine .inr ⟨(F.go i _ ht).1,fun x H2 y=>?_⟩
    obtain ⟨S2,ex,rx⟩:=(F.go i _ ht).2 x H2 y
    refine ⟨⟨Si,asi,H'⟩,sti,[],S2,asi,_,(Ri.ext ex).push rx,s3,eg,fun σ3 H3 S3 as3 R3=>⟨⟨Si,asi,H'⟩,s3,[],S3,as3,R3,b,s4,ec,fun H4 S4 as4 R4=>?_⟩⟩
    rcases er with ⟨rfl,w,s5,ee,hlen,erest⟩ | ⟨rfl,erest⟩
    · refine a6f ⟨⟨Si,asi,H'⟩,s4,[],S4,as4,R4,w,s5,ee,fun y H5 S5 as5 R5=>?_⟩
      obtain ⟨S6,R6⟩:=R5.kh
      obtain ⟨k1,k2,k3⟩:=R6.grow.keep D _ hD' sD nD
      have Ro2:=Ro.call R6.grow R6.sub R6.sto
      refine ⟨accv,k1,?_,ts.length - (i+1),by (clear Ro2 k3 k2 k1 R6 R5 erest hlen ee ec R4 R3 rx ex ht eg ei F rA nD sD hD' Ro no Ri hi sig capg noD nD1 sD1 bD hD fin hc facts hno R1 hcap hv hN; omega),.mk (kh s5) S6 as5 (acc++[w]) (accv++[y]) rfl hlt (R6.drop.a93 (Bd _) k2 k3) (Bd _) (Ro2.a9l bD k2 k3 noD) dj k2 k3 ((rA.mono R6.grow.same R6.grow.more).append (.cons R6.top .nil)) erest⟩
      rw [rA.length]; exact Nat.lt_of_lt_of_le hlen lq
    · refine a5g ?_
      obtain ⟨S6,R6⟩:=R4.kh
      obtain ⟨k1,k2,k3⟩:=R6.grow.keep D _ hD' sD nD
      have Ro2:=Ro.call R6.grow R6.sub R6.sto
      exact ⟨ts.length - (i+1),by (clear Ro2 k3 k2 k1 R6 ec erest R4 R3 rx ex y ht eg ei F rA nD sD hD' Ro no Ri hi sig capg noD nD1 sD1 bD hD fin hc facts hno R1 hcap hv hN; omega),.mk (kh s4) S6 as4 acc accv rfl hlt (R6.rebase (Bd _)) (Bd _) Ro2 k1 k2 k3 (rA.mono R6.grow.same R6.grow.more) erest⟩
  · have hie:i=ts.length:=by (clear F ei rA nD sD hD' Ro no Ri sig capg noD nD1 sD1 bD hD fin hc facts hno R1 hcap hv hN; omega)
    subst hie
    rw [List.drop_length] at ei
    cases ei
    exact .inl ⟨F.stop _ (Nat.le_refl _),fin D H' Si asi Ro ⟨⟨accv,hD',rA⟩,sD,nD,bD⟩ noD⟩
theorem Rel.give {K:PySem.W.Frag} {B:Bas} {st:Sta} {σ:L2.St} {H S:Hp} {ps:List (V × T)} {as:List Addr} {p:Addr} {t:T} (r:Rel K B st σ H ps S as) (o:Lh K B S as H p t) (no:J8 st σ p):∃ S',Rel K B st σ H ((.ref p,t)::ps) S' as:=by
  obtain ⟨ob,ho⟩:=o.own.there
  have sS:Same S (upd S p ob):=Same.upd o.out ob
  have rep:Rep K (upd S p ob) as (.ref p) t:=by
    have w:=o.own
    cases t with
    | lst ts=>obtain ⟨vs,h,q⟩:=w; rw [ho] at h; cases h; exact .lst (SqL.of dj) (q.mono sS nol)
    | dic ts=>obtain ⟨vs,h,q⟩:=w; rw [ho] at h; cases h; exact .dic (.inl dj) (q.mono sS nol)
    | _=>exact w.elim
  have outs:∀ q,S q=none→q≠p→upd S p ob q=none:=fun q h n=>by rw [dw n]; exact h
  refine ⟨upd S p ob,Rel.push (v:=.ref p) (t:=t) ⟨?_,?_,?_,r.apart,?_,fun q hq=>(r.pend q hq).mono sS nol,r.len⟩ rep⟩
  · intro b u q
    by_cases z:b=p
    · subst z; rw [dj] at q; cases q; exact ho
    · rw [dw z] at q; exact r.sub _ _ q
  · refine ⟨r.grow.same.trans sS,r.grow.more,fun q w a b c=>?_⟩
    obtain ⟨x,y,z⟩:=r.grow.keep q w a b c
    refine ⟨x,outs q y fun n=>?_,z⟩
    subst n; rw [o.new] at a; cases a
  · intro j u f ej
    obtain ⟨v',a1,a2,a3⟩:=r.slots j u f ej
    refine ⟨v',a1,fun z=>(a2 z).mono sS nol,fun z=>?_⟩
    subst z
    obtain ⟨p',rfl,o'⟩:=a3 rfl
    refine ⟨p',rfl,o'.own.mono sS rfl,outs p' o'.out fun n=>?_,o'.nas,o'.new⟩
    subst n
    exact no j u ej a1
  · refine ⟨r.sto.len,r.sto.nd,fun n so en=>?_⟩
    obtain ⟨a,a1,a2,a3⟩:=r.sto.at' n so en
    refine ⟨a,a1,outs a a2 fun z=>?_,a3.mono sS rfl⟩
    subst z
    exact o.nas (List.mem_of_getElem? a1)
theorem Yk {K:PySem.W.Frag} {B:Bas} {m:M T} {σ:L2.St} {H:Hp} {Q:VK} (h:tOf K B m σ H Q):fOf K B m σ H Q:=by
  obtain ⟨st,ps,S,as,R,t,st',e,q⟩:=h
  refine ⟨st,ps,S,as,R,t,st',e,fun p H' S' as' R' o n=>?_⟩
  obtain ⟨S2,R2⟩:=R'.give o n
  exact q _ H' S2 as' R2
theorem qm {e:Expr} {B:Bas} {m:M T} (h:PE X e (fOf X.K B m)):PE X e (tOf X.K B m):=h.imp fun σ H Q=>Yk
variable {B:Bas} {nv:Nat} {cap:List Nat} {g:G} {it:M (List T)} {c:M Bool} {e:M T} {tg iter elt:Expr} {ifs:List Expr} {pos:Pos}
structure Zo (X:Cx) (scope:Scope) (N:List Str) (nv:Nat) (cap:List Nat):Prop where
  len:N.length=nv+cap.length
  at':∀ (j k:Nat),cap[j]? = some k→∃ x,N[nv+j]? = some x∧X.N[k]? = some x∧a9q X scope x
theorem Xk (co:Zo X scope N nv cap) (hsz:∀ st ts st',it st=some (ts,st')→ts.length≤sizeLine) {σ:L2.St} {H:Hp} {Q:VK} (h:fOf X.K B (uy nv cap g it c e) σ H Q) :
    a3c X scope N (iOf X.K B it) (gE X.K g) (cE X.K c) (eE X.K e) σ H Q:=by
  obtain ⟨st,ps,S,as,R,t,st',e,q⟩:=h
  obtain ⟨ts,s1,us,s2,e1,e2,rfl,rfl⟩:=Pr e
  refine ⟨st,ps,S,as,R,ts,s1,e1,hsz _ _ _ e1,fun J H1 S1 as1 ps' R1 facts=>?_⟩
  obtain ⟨S2,R2⟩:=R1.jg cap
  exact Ot co.len (fun _ _ _ _=>trivial) co.at' R2 (fun k hk=>Fo cap s1.env k hk) (fun S as H _ _=>facts S as H) e2 fun D H' S' as' R' o n=>q D H' S' as' (R'.pick fun p hp=>List.mem_append_right _ hp) o n
theorem yu (co:Zo X scope N nv cap) (sc:Ht X scope N) (calm:X.calm=true) (hi:PI X tg iter (iOf X.K B it)) (hsz:∀ st ts st',it st=some (ts,st')→ts.length≤sizeLine)
    (hg:∀ C s₀ H₀ ex pn,PG (qz X scope N C s₀ H₀ ex pn) tg (gE X.K g)) (hc:∀ C s₀ H₀ ex pn,PTs (qz X scope N C s₀ H₀ ex pn) ifs (cE X.K c)) (he:∀ C s₀ H₀ ex pn,PE (qz X scope N C s₀ H₀ ex pn) elt (eE X.K e))
    (hs:∀ x,foldedSetIterable iter X.env x=pure x:=by intro _; rfl):PE X (.ListComp elt [⟨tg,iter,ifs,0⟩] scope pos) (fOf X.K B (uy nv cap g it c e)) :=
  (Yg sc calm hi hg hc he hs).imp fun σ H Q h=>Xk co hsz h
end
end C
end
section
namespace C
open PySem PySem.Spec PyProof.Rows L2
section
variable {X:Cx}
theorem T8 {f:Value→Value→Sem Value} {g:T→T→Option T} {r:R2} (h:OpR X f r)
    (k:∀ S as x y t u w,Rep X.K S as x t→Rep X.K S as y u→g t u=some w→∀ (H:Hp) (Q:VK),Same S H→(∀ v H' S',Ext S H S' H'→Rep X.K S' as v w→Q v H')→r x y H Q):OpT X f g:=by
  intro pins s σ H x y v u Q I rx ry z8
  obtain ⟨S,as,t,w,z,sub,ht,hu,hf,q⟩:=z8
  exact h pins s σ H x y v u Q I rx ry (k S as x y t w z ht hu hf H Q sub q)
structure OI (g:T→Option T):Prop where
  n:g .non=none
  b:∀ x,g (.bl x)=none
  s:∀ x,g (.str x)=none
  t:∀ x,g (.tup x)=none
  l:∀ x,g (.lst x)=none
  d:∀ x,g (.dic x)=none
  o:∀ x,g (.obj x)=none
theorem OI.int {g:T→Option T} {w t:T} (h:OI g) (e:g t=some w):∃ i,t=.int i:=by
  cases t with
  | int i=>exact ⟨i,rfl⟩
  | non=>exact jm (h.n.symm.trans e)
  | bl x=>exact jm ((h.b x).symm.trans e)
  | str x=>exact jm ((h.s x).symm.trans e)
  | tup x=>exact jm ((h.t x).symm.trans e)
  | lst x=>exact jm ((h.l x).symm.trans e)
  | dic x=>exact jm ((h.d x).symm.trans e)
  | obj x=>exact jm ((h.o x).symm.trans e)
theorem Bv {K:PySem.W.Frag} {S:Hp} {as:List Addr} {x y:V} {t u w:T} {g:T→T→Option T} {P:Prop} (ht:Rep K S as x t) (hu:Rep K S as y u) (hf:g t u=some w)
    (n1:∀ u,OI (g · u)) (n2:∀ i,OI (g (.int i))) (k:∀ i j,x=.int i→y=.int j→g (.int i) (.int j)=some w→P):P:=by
  obtain ⟨i,rfl⟩:=(n1 u).int hf
  obtain ⟨j,rfl⟩:=(n2 i).int hf
  cases ht; cases hu
  exact k i j rfl rfl hf
theorem yr:OpT X (binaryOp .Sub) Gm:=T8 a7u fun S as x y t u w ht hu hf H Q sub q =>
  Bv (g:=Gm) ht hu hf (fun u=>⟨rfl,fun _=>rfl,fun _=>rfl,fun _=>rfl,fun _=>rfl,fun _=>rfl,fun _=>rfl⟩) (fun i=>⟨rfl,fun _=>rfl,fun _=>rfl,fun _=>rfl,fun _=>rfl,fun _=>rfl,fun _=>rfl⟩) fun i j ex ey hf=>by
  subst ex ey; cases hf
  exact ⟨_,_,rfl,rfl,q _ H S (Ext.refl sub) (.int _)⟩
theorem v7:OpT X (binaryOp .Mod) Kc:=T8 a81 fun S as x y t u w ht hu hf H Q sub q =>
  Bv (g:=Kc) ht hu hf (fun u=>⟨rfl,fun _=>rfl,fun _=>rfl,fun _=>rfl,fun _=>rfl,fun _=>rfl,fun _=>rfl⟩) (fun i=>⟨rfl,fun _=>rfl,fun _=>rfl,fun _=>rfl,fun _=>rfl,fun _=>rfl,fun _=>rfl⟩) fun i j ex ey hf=>by
  subst ex ey
  obtain ⟨hc,hf⟩:=zf hf
  cases hf; exact ⟨_,_,rfl,rfl,hc,q _ H S (Ext.refl sub) (.int _)⟩
def aa0 (i j:Int):Prop:=0<j∧(j<1073741824∨j.natAbs<fdl)
theorem a2p:OpR X (binaryOp .FloorDiv) (rI aa0 fun i j=>.int (i / j)):=opI fun i j _ _ _ _ _ hc q=>by
  have h1:(0:Int)<j:=hc.1
  have h2:j.natAbs<2 ^ 200:=by
    rcases hc.2 with h | h
    · exact Nat.lt_trans (show j.natAbs<1073741824 by (clear q hc; omega)) (by decide)
    · exact h
  exact floordiv_int (by (clear h2 q hc; omega)) (by rw [Int.fdiv_eq_ediv_of_nonneg i (by (clear h2 q hc; omega))]; exact q) (.inl (PyProof.noPylong_of_log2 (Nat.lt_trans ((Nat.log2_lt (by (clear h2 q hc; omega))).mpr h2) (by decide))))
theorem Bb:OpT X (binaryOp .FloorDiv) Hi:=T8 a2p fun S as x y t u w ht hu hf H Q sub q =>
  Bv (g:=Hi) ht hu hf (fun u=>⟨rfl,fun _=>rfl,fun _=>rfl,fun _=>rfl,fun _=>rfl,fun _=>rfl,fun _=>rfl⟩) (fun i=>⟨rfl,fun _=>rfl,fun _=>rfl,fun _=>rfl,fun _=>rfl,fun _=>rfl,fun _=>rfl⟩) fun i j ex ey hf=>by
  subst ex ey
  obtain ⟨hc,hf⟩:=zf hf
  cases hf; exact ⟨_,_,rfl,rfl,hc,q _ H S (Ext.refl sub) (.int _)⟩
theorem Ni:OpT X (binaryOp .Pow) Vr:=T8 a92 fun S as x y t u w ht hu hf H Q sub q =>
  Bv (g:=Vr) ht hu hf (fun u=>⟨rfl,fun _=>rfl,fun _=>rfl,fun _=>rfl,fun _=>rfl,fun _=>rfl,fun _=>rfl⟩) (fun i=>⟨rfl,fun _=>rfl,fun _=>rfl,fun _=>rfl,fun _=>rfl,fun _=>rfl,fun _=>rfl⟩) fun i j ex ey hf=>by
  subst ex ey
  obtain ⟨h,hf⟩:=zf hf
  cases hf; exact ⟨_,_,rfl,rfl,⟨h.1,by (clear q hf hu ht sub; omega),by (clear q hf hu ht sub; omega)⟩,q _ H S (Ext.refl sub) (.int _)⟩
theorem Mf:OpT X (compareOp .Lt) ltT:=T8 abj fun S as x y t u w ht hu hf H Q sub q =>
  Bv (g:=ltT) ht hu hf (fun u=>⟨rfl,fun _=>rfl,fun _=>rfl,fun _=>rfl,fun _=>rfl,fun _=>rfl,fun _=>rfl⟩) (fun i=>⟨rfl,fun _=>rfl,fun _=>rfl,fun _=>rfl,fun _=>rfl,fun _=>rfl,fun _=>rfl⟩) fun i j ex ey hf=>by
  subst ex ey; cases hf
  exact ⟨_,_,rfl,rfl,q _ H S (Ext.refl sub) (.bl _)⟩
theorem a3g:OpT X (compareOp .LtE) leT:=T8 a9y fun S as x y t u w ht hu hf H Q sub q =>
  Bv (g:=leT) ht hu hf (fun u=>⟨rfl,fun _=>rfl,fun _=>rfl,fun _=>rfl,fun _=>rfl,fun _=>rfl,fun _=>rfl⟩) (fun i=>⟨rfl,fun _=>rfl,fun _=>rfl,fun _=>rfl,fun _=>rfl,fun _=>rfl,fun _=>rfl⟩) fun i j ex ey hf=>by
  subst ex ey; cases hf
  exact ⟨_,_,rfl,rfl,q _ H S (Ext.refl sub) (.bl _)⟩
theorem a00:OpT X (compareOp .Gt) gtT:=T8 aaq fun S as x y t u w ht hu hf H Q sub q =>
  Bv (g:=gtT) ht hu hf (fun u=>⟨rfl,fun _=>rfl,fun _=>rfl,fun _=>rfl,fun _=>rfl,fun _=>rfl,fun _=>rfl⟩) (fun i=>⟨rfl,fun _=>rfl,fun _=>rfl,fun _=>rfl,fun _=>rfl,fun _=>rfl,fun _=>rfl⟩) fun i j ex ey hf=>by
  subst ex ey; cases hf
  exact ⟨_,_,rfl,rfl,q _ H S (Ext.refl sub) (.bl _)⟩
theorem Kg:UnT X (unaryOp .USub) S9:=by
  intro pins s σ H x v Q I rx z8
  obtain ⟨S,as,t,w,sub,ht,hf,q⟩:=z8
  cases ht <;> simp only [S9,reduceCtorEq] at hf
  cases hf
  exact a8e pins s σ H _ v Q I rx ⟨_,rfl,q _ H S (Ext.refl sub) (.int _)⟩
def abw (K:PySem.W.Frag):R2:=fun x y H Q=>∃ l b xs zs,x=.ref l∧y=.ref b∧SqL K H l xs∧SqL K H b zs∧xs.length+zs.length≤sizeLine∧∀ p,H p=none→Q (.ref p) (upd H p (.lst (xs++zs)))
theorem a4p:OpR X (binaryOp .Add) (abw X.K):=by
  intro pins s σ H x y v u Q I rx ry h
  obtain ⟨l,b,xs,zs,rfl,rfl,hH,hB,hz,q⟩:=h
  cases rx
  cases ry
  obtain ⟨its,r,p1,hl⟩:=I.list hH
  obtain ⟨its2,r2,p2,hl2⟩:=I.list hB
  obtain ⟨⟨cls,dd,data,sl⟩,n,ho,hc,hd0,hd⟩:=id p1
  obtain ⟨⟨cls2,dd2,data2,sl2⟩,n2,ho2,hc2,hd02,hd2⟩:=id p2
  simp only at hc hd hc2 hd2
  subst hc hd hc2 hd2
  refine concat_meets ⟨_,ho,rfl⟩ ⟨_,ho2,rfl⟩ noFill_list_add seq_list_add PySem.F.slot_list_add PySem.F.entry_list_add (PySem.F.args_list_add_2 _ _)
      (list_addW l b its.toArray its2.toArray n n2 dd dd2 sl sl2 (by rw [List.size_toArray,List.size_toArray,← r.length,← r2.length]; exact hz)) ⟨ho,ho2,?_⟩
  have ea:its.toArray++its2.toArray=(its++its2).toArray:=by simp
  rw [ea]
  exact ⟨.ref _,_,I.ac6 (t':=s.toks) (r.append r2) (by rw [List.length_append]; exact hz),rfl,q _ I.fresh⟩
def a8r (K:PySem.W.Frag):R2:=fun x y H Q=>∃ a b ys,x=.ref a∧y=.ref b∧SqT K H a []∧SqT K H b ys∧Q (.ref b) H
theorem a2g:OpR X (binaryOp .Add) (a8r X.K):=by
  intro pins s σ H x y v u Q I rx ry h
  obtain ⟨a,b,ys,rfl,rfl,ha,hb,q⟩:=h
  cases rx
  cases ry
  obtain ⟨its,r1,p1,_⟩:=I.tuple ha
  obtain ⟨its2,r2,p2,_⟩:=I.tuple hb
  cases r1
  obtain ⟨⟨cls,dd,data,sl⟩,ho,hc,n,hd⟩:=id p1
  obtain ⟨⟨cls2,dd2,data2,sl2⟩,ho2,hc2,n2,hd2⟩:=id p2
  simp only at hc hd hc2 hd2
  subst hc hd hc2 hd2
  exact concat_meets ⟨_,ho,rfl⟩ ⟨_,ho2,rfl⟩ noFill_tuple_add seq_tuple_add PySem.F.slot_tuple_add PySem.F.entry_tuple_add (PySem.F.args_tuple_add_2 _ _)
      (tuple_addW0 a b _ its2.toArray n n2 dd dd2 sl sl2 (by rfl)) ⟨ho,ho2,⟨.ref b,H,I,rfl,q⟩⟩
theorem sy:OpT X (binaryOp .Add) Hh:=by
  intro pins s σ H x y v u Q I rx ry z8
  obtain ⟨S,as,t,t2,w,sub,ht,hu,hf,q⟩:=z8
  cases ht <;> first | exact nomatch (show none=some w from hf) | cases hu <;> first | exact nomatch (show none=some w from hf) | simp only [Hh] at hf
  · cases hf
    exact a8o pins s σ H _ _ v u Q I rx ry ⟨_,_,rfl,rfl,q _ H S (Ext.refl sub) (.int _)⟩
  · split at hf
    · rename_i hl; cases hf
      exact Vh pins s σ H _ _ v u Q I rx ry ⟨_,_,rfl,rfl,Nat.le_trans (Nat.le_of_lt hl) lq,q _ H S (Ext.refl sub) (.str _)⟩
    · cases hf
  · rename_i a vs ts hs hr b ws us hs2 hr2
    split at hf
    · rename_i hl; cases hf
      have hz:vs.length+ws.length≤sizeLine:=by rw [hr.length,hr2.length]; exact Nat.le_trans (Nat.le_of_lt hl) lq
      cases hr with
      | nil=>exact a2g pins s σ H _ _ v u Q I rx ry ⟨_,_,_,rfl,rfl,ju sub hs,ju sub hs2,q _ H S (Ext.refl sub) (.tup hs2 hr2)⟩
      | @cons v0 t0 vs0 ts0 h1 h2 =>
        refine a5j pins s σ H _ _ v u Q I rx ry ⟨_,_,_,_,rfl,rfl,ju sub hs,ju sub hs2,by simp,hz,fun z=>?_,fun z p hp=>?_⟩
        · subst z
          cases hr2
          rw [List.append_nil] at q
          exact q _ H S (Ext.refl sub) (.tup hs (.cons h1 h2))
        · have x:=Ext.laid sub hp (.tup ((v0::vs0)++ws))
          exact q _ _ _ x (.tup (SqT.of dj) (((m7.cons h1 h2).append hr2).mono x.s nol))
    · cases hf
  · rename_i a vs ts hs hr b ws us hs2 hr2
    split at hf
    · rename_i hl; cases hf
      have hz:vs.length+ws.length≤sizeLine:=by rw [hr.length,hr2.length]; exact Nat.le_trans (Nat.le_of_lt hl) lq
      refine a4p pins s σ H _ _ v u Q I rx ry ⟨_,_,_,_,rfl,rfl,ji sub hs,ji sub hs2,hz,fun p hp=>?_⟩
      have x:=Ext.laid sub hp (.lst (vs++ws))
      exact q _ _ _ x (.lst (SqL.of dj) ((hr.append hr2).mono x.s nol))
    · cases hf
theorem a76 (x:Str) (n:Int) (h:0≤n):Txt.mul x n=⟨((List.replicate n.toNat x.cps.toList).flatten).toArray⟩:=by
  have key:∀ (k:Nat) (acc:Array Nat),(List.replicate k x.cps).foldl (· ++ ·) acc=acc++((List.replicate k x.cps.toList).flatten).toArray:=by
    intro k
    induction k with
    | zero=>intro acc; simp
    | succ k ih =>
      intro acc
      rw [List.replicate_succ,List.foldl_cons,ih,List.replicate_succ,List.flatten_cons]
      apply Array.ext'
      simp
  unfold Txt.mul
  by_cases h1:n<1
  · have:n=0:=by omega
    subst this
    rw [if_pos h1]; rfl
  · rw [if_neg h1]
    by_cases h2:(n==1||x.length==0)=true
    · rw [if_pos h2]
      rw [Bool.or_eq_true] at h2
      rcases h2 with h2 | h2
      · have:n=1:=by simpa using h2
        subst this
        cases x; simp
      · have h3:x.cps.size=0:=by simpa [Str.length] using h2
        obtain ⟨c⟩:=x
        have h4:c = #[]:=Array.eq_empty_of_size_eq_zero h3
        subst h4
        congr 1
        apply Array.ext'
        simp
    · rw [if_neg h2,key]
      congr 1
      apply Array.ext'
      simp
theorem Bu:OpT X (binaryOp .Mult) Ja:=by
  intro pins s σ H x y v u Q I rx ry z8
  obtain ⟨S,as,t,t2,w,sub,ht,hu,hf,q⟩:=z8
  cases ht <;> first | exact nomatch (show none=some w from hf) | cases hu <;> first | exact nomatch (show none=some w from hf) | simp only [Ja] at hf
  · split at hf
    · rename_i hb; cases hf
      refine a7t pins s σ H _ _ v u Q I rx ry ⟨_,_,rfl,rfl,?_,q _ H S (Ext.refl sub) (.int _)⟩
      rw [Bool.or_eq_true] at hb
      rcases hb with h | h
      · exact .inl (of_decide_eq_true h)
      · exact .inr (of_decide_eq_true h)
    · cases hf
  · rename_i z j
    split at hf
    · rename_i hb; cases hf
      obtain ⟨t',rfl⟩:=rx
      obtain ⟨t2',rfl⟩:=ry
      refine SB.mul ⟨?_,fun _ _=>?_,fun _ _=>?_⟩ fun t3 k=>⟨.str (Txt.mul z j),H,I.tok _,⟨_,rfl⟩,?_⟩
      · have h1:¬ j < -(2 ^ 63:Int):=by (clear q sub I; omega)
        have h2:¬ j ≥ 2 ^ 63:=by (clear h1 q sub I; omega)
        rw [decide_eq_false h1,decide_eq_false h2]; rfl
      · have h1:(z.length:Int)≤100:=by (clear q sub I; omega)
        have h2:(100:Int)≤(2 ^ 63 - 1) / j:=by
          have hj:0<j:=by
            rcases Int.lt_or_le 0 j with h | h
            · exact h
            · exfalso
              have:j=0:=by (clear h1 q hb sub I; omega)
              subst this
              rename_i a _; exact a (by decide)
          exact (Int.le_ediv_iff_mul_le hj).mpr (by (clear hj h1 q sub I; omega))
        (clear q hb sub I; omega)
      · have h3:z.length * j.toNat≤100 * 1000:=Nat.mul_le_mul hb.2.2 (by (clear q sub I; omega))
        unfold Builtin.Str.tooLong
        rw [sizeLine_eq]
        exact decide_eq_false (by (clear q hb sub I; omega))
      · rw [a76 z j hb.1]; exact q _ H S (Ext.refl sub) (.str _)
    · cases hf
end
end C
end
section
namespace C
open PySem PySem.Spec PyProof.Rows L2
section
variable {X:Cx} {B:Bas} {a b c e o:Expr} {m m1 m2:M T} {pos p:Pos}
theorem Ls (n:Nat) (i:Int):ixI n i=ixN n i:=rfl
theorem Vc {K:PySem.W.Frag} {S:Hp} {as:List Addr} {y:V} {t:T} {q:L2.Key} (r:Rep K S as y t) (h:keyOf t=some q):y=kV q:=by
  cases r <;> simp only [keyOf,reduceCtorEq] at h <;> (cases h; rfl)
def aau:R2:=fun x y H Q=>∃ a v,x=.ref a∧Xm H a y (some v)∧Q v H
theorem a6l (hu:X.A.units+1<cLine):IxR X aau:=by
  intro value slice pins s σ H x y v u Q I rx ry z8 hs
  obtain ⟨a,w,ex,g,q⟩:=z8
  subst ex
  cases rx
  refine tail_any (Jv I g) slot_dict_getitem.lookup (Q0 hu I g ry fun w' s' I' r'=>⟨w,H,I',r',q⟩) hs
theorem a0c (hu:X.A.units+1<cLine):IxR X (r2 X.K cu):=by
  intro value slice pins s σ H x y v u Q I rx ry z8 hs
  obtain ⟨S,as,t,t2,w,sub,ht,hu2,hf,q⟩:=z8
  cases ht with
  | @tup a vs ts h1 h2 =>
    cases hu2 <;> first | exact jm hf | skip
    rename_i i
    obtain ⟨j,e1,e2⟩:=Option.bind_eq_some_iff.mp hf
    obtain ⟨z,hz,rz⟩:=h2.get e2
    refine a8v value slice pins s σ H _ _ v u Q I rx ry ⟨a,vs,i,z,rfl,rfl,ju sub h1,?_,q z H S (Ext.refl sub) rz⟩ hs
    rw [Ls,← h2.length] at e1
    unfold atI; rw [e1]; exact hz
  | @lst a vs ts h1 h2 =>
    cases hu2 <;> first | exact jm hf | skip
    rename_i i
    obtain ⟨j,e1,e2⟩:=Option.bind_eq_some_iff.mp hf
    obtain ⟨z,hz,rz⟩:=h2.get e2
    refine Sh value slice pins s σ H _ _ v u Q I rx ry ⟨a,vs,i,z,rfl,rfl,ji sub h1,?_,q z H S (Ext.refl sub) rz⟩ hs
    rw [Ls,← h2.length] at e1
    unfold atI; rw [e1]; exact hz
  | str z =>
    cases hu2 <;> first | exact jm hf | skip
    rename_i i
    obtain ⟨hl,hf⟩:=zf hf
    obtain ⟨j,e1,e2⟩:=Option.bind_eq_some_iff.mp hf
    obtain ⟨cc,e3,e4⟩:=Option.map_eq_some_iff.mp e2
    subst e4
    refine a8n value slice pins s σ H _ _ v u Q I rx ry ⟨z,i,cc,rfl,rfl,Nat.le_trans (Nat.le_of_lt hl) lq,?_,q _ H S (Ext.refl sub) (.str _)⟩ hs
    rw [Ls] at e1
    unfold atI; rw [e1]; exact e3
  | @dic a kvs ts h1 h2 =>
    obtain ⟨k,e1,e2⟩:=Option.bind_eq_some_iff.mp hf
    have ey:=Vc hu2 e1
    subst ey
    rcases h2.get k with ⟨z,t',a1,a2,a3⟩ | ⟨_,a2⟩
    · rw [e2] at a2; cases a2
      exact a6l hu value slice pins s σ H _ _ v u Q I rx ry ⟨a,z,rfl,.inl ⟨kvs,k,yp sub h1,rfl,a1.symm⟩,q z H S (Ext.refl sub) a3⟩ hs
    · rw [e2] at a2; cases a2
  | _=>exact jm hf
theorem gw (hu:X.A.units+1<cLine) (ha:PE X a (tOf X.K B m1)) (hb:PE X b (tOf X.K B m2)) (hs:Nm b):PE X (.Subscript a b pos) (tOf X.K B (mOp cu m1 m2)):=Ue (a5x (a0c hu) ha hb hs)
theorem Ah:Wi X (.builtin "len") Nb:=by
  intro pins s σ H xs us Q I rs z8
  obtain ⟨S,as,ts,w,sub,hr,hf,q⟩:=z8
  cases hr with
  | nil=>simp only [Nb,reduceCtorEq] at hf
  | @cons x t xs' ts' h1 h2 =>
    cases h2 with
    | cons h3 h4=>simp only [Nb,reduceCtorEq] at hf
    | nil =>
      cases h1 with
      | tup g1 g2=>simp only [Nb] at hf; cases hf; exact Az pins s σ H _ us Q I rs ⟨_,_,rfl,.inr (ju sub g1),by rw [g2.length]; exact q _ H S (Ext.refl sub) (.int _)⟩
      | lst g1 g2=>simp only [Nb] at hf; cases hf; exact Az pins s σ H _ us Q I rs ⟨_,_,rfl,.inl (ji sub g1),by rw [g2.length]; exact q _ H S (Ext.refl sub) (.int _)⟩
      | str z =>
        simp only [Nb] at hf
        split at hf
        · rename_i hl; cases hf; exact Pu pins s σ H _ us Q I rs ⟨_,rfl,Nat.le_trans (Nat.le_of_lt hl) lq,q _ H S (Ext.refl sub) (.int _)⟩
        · cases hf
      | @dic a kvs ts g1 g2 =>
        simp only [Nb] at hf; cases hf
        obtain ⟨u,rfl,ru⟩:=rs.one
        cases ru
        exact a98 I (yp sub g1) fun t s' I'=>⟨.int kvs.length,H,I',⟨t,rfl⟩,by rw [g2.length]; exact q _ H S (Ext.refl sub) (.int _)⟩
      | _=>simp only [Nb,reduceCtorEq] at hf
theorem mj:Wi X (.type "tuple") qu:=by
  intro pins s σ H xs us Q I rs z8
  obtain ⟨S,as,ts,w,sub,hr,hf,q⟩:=z8
  cases hr with
  | nil=>simp only [qu,reduceCtorEq] at hf
  | @cons x t xs' ts' h1 h2 =>
    cases h2 with
    | cons h3 h4=>simp only [qu,reduceCtorEq] at hf
    | nil =>
      cases h1 with
      | @tup a vs ts g1 g2=>simp only [qu] at hf; cases hf; exact Gg pins s σ H _ us Q I rs ⟨_,_,rfl,.inr ⟨ju sub g1,q _ H S (Ext.refl sub) (.tup g1 g2)⟩⟩
      | @lst a vs ts g1 g2 =>
        simp only [qu] at hf; cases hf
        refine Gg pins s σ H _ us Q I rs ⟨_,_,rfl,.inl ⟨ji sub g1,fun p hp=>?_⟩⟩
        have x:=Ext.laid sub hp (.tup vs)
        exact q _ _ _ x (.tup (SqT.of dj) (g2.mono x.s nol))
      | _=>simp only [qu,reduceCtorEq] at hf
theorem Vn:Wi X (.type "list") Nz:=by
  intro pins s σ H xs us Q I rs z8
  obtain ⟨S,as,ts,w,sub,hr,hf,q⟩:=z8
  cases hr with
  | nil=>simp only [Nz,reduceCtorEq] at hf
  | @cons x t xs' ts' h1 h2 =>
    cases h2 with
    | cons h3 h4=>simp only [Nz,reduceCtorEq] at hf
    | nil =>
      cases h1 with
      | @tup a vs ts g1 g2 =>
        simp only [Nz] at hf; cases hf
        refine Ia pins s σ H _ us Q I rs ⟨_,_,rfl,.inr (ju sub g1),fun p hp=>?_⟩
        have x:=Ext.laid sub hp (.lst vs)
        exact q _ _ _ x (.lst (SqL.of dj) (g2.mono x.s nol))
      | @lst a vs ts g1 g2 =>
        simp only [Nz] at hf; cases hf
        refine Ia pins s σ H _ us Q I rs ⟨_,_,rfl,.inl (ji sub g1),fun p hp=>?_⟩
        have x:=Ext.laid sub hp (.lst vs)
        exact q _ _ _ x (.lst (SqL.of dj) (g2.mono x.s nol))
      | _=>simp only [Nz,reduceCtorEq] at hf
theorem Ac.put {K:PySem.W.Frag} {S:Hp} {as:List Addr} {k:L2.Key} {v:V} {t:T} (r:Rep K S as v t):∀ {vs:List (L2.Key × V)} {ts:List (L2.Key × T)},Ac K S as vs ts→Ac K S as (putK vs k v) (La k t ts):=by
  intro vs ts h
  have any:∀ {vs:List (L2.Key × V)} {ts:List (L2.Key × T)},Ac K S as vs ts→(vs.any fun kv=>decide (kv.1=k))=(ts.any fun p=>decide (p.1=k)):=by
    intro vs ts h
    induction vs generalizing ts with
    | nil=>cases h; rfl
    | cons p r ih=>cases h with | cons h1 h2=>rw [List.any_cons,List.any_cons,ih h2]
  have mp:∀ {vs:List (L2.Key × V)} {ts:List (L2.Key × T)},Ac K S as vs ts→Ac K S as (vs.map fun kv=>if kv.1=k then (kv.1,v) else kv) (ts.map fun p=>if p.1=k then (p.1,t) else p):=by
    intro vs ts h
    induction vs generalizing ts with
    | nil=>cases h; exact .nil
    | cons p rr ih =>
      cases h with
      | @cons q v0 t0 _ _ h1 h2 =>
        rw [List.map_cons,List.map_cons]
        by_cases e:q=k
        · rw [if_pos e,if_pos e]; exact .cons r (ih h2)
        · rw [if_neg e,if_neg e]; exact .cons h1 (ih h2)
  have ap:∀ {vs:List (L2.Key × V)} {ts:List (L2.Key × T)},Ac K S as vs ts→Ac K S as (vs++[(k,v)]) (ts++[(k,t)]):=by
    intro vs ts h
    induction vs generalizing ts with
    | nil=>cases h; exact .cons r .nil
    | cons p rr ih=>cases h with | cons h1 h2=>exact .cons h1 (ih h2)
  unfold putK La
  rw [any h]
  split
  · exact mp h
  · exact ap h
end
end C
end
section
namespace C
open PySem PySem.Spec PyProof.Rows L2
theorem Pq {i:Nat} {k:M T} {s s':Sta} {t:T} (h:rm i k s=some (t,s')):G8 i s=true∧∃ kt kvs f q,k s=some (kt,s')∧s'.env[i]? = some (some (.dic kvs,f))∧keyOf kt=some q∧Cm q kvs=some t:=by
  unfold rm at h
  split at h
  · rename_i hd
    refine ⟨hd,?_⟩
    split at h
    · rename_i kt s2 e2
      split at h
      · rename_i kvs f e3
        split at h
        · rename_i t' e4
          cases h
          obtain ⟨q,e5,e6⟩:=Option.bind_eq_some_iff.mp e4
          exact ⟨kt,kvs,f,q,e2,e3,e5,e6⟩
        · cases h
      · cases h
    · cases h
  · cases h
theorem Sd {i:Nat} {s s':Sta} {t:T} (h:Gw i s=some (t,s')):s'=s∧((∃ xs f,s.env[i]? = some (some (.lst xs,f))∧t=.int xs.length)∨(∃ xs f,s.env[i]? = some (some (.dic xs,f))∧t=.int xs.length)):=by
  unfold Gw at h
  split at h
  · rename_i xs f e; cases h; exact ⟨rfl,.inl ⟨xs,f,e,rfl⟩⟩
  · rename_i xs f e; cases h; exact ⟨rfl,.inr ⟨xs,f,e,rfl⟩⟩
  · cases h
section
variable {K:PySem.W.Frag} {B:Bas} {st:Sta} {σ:L2.St} {H S:Hp} {ps:List (V × T)} {as:List Addr}
theorem Rel.dictAt (r:Rel K B st σ H ps S as) {i:Nat} {kvs:List (L2.Key × T)} {f:Bool} (e:st.env[i]? = some (some (.dic kvs,f))):∃ p vs,σ[i]? = some (some (.ref p))∧Rd H p (.dK vs)∧Ac K S as vs kvs:=by
  obtain ⟨v,h1,h2,h3⟩:=r.slots i _ f e
  cases f with
  | false =>
    have h:=h2 rfl
    cases h with
    | dic a b=>exact ⟨_,_,h1,yp r.sub a,b⟩
  | true =>
    obtain ⟨p,rfl,o⟩:=h3 rfl
    obtain ⟨vs,h,q⟩:=o.own
    exact ⟨p,vs,h1,.inl h,q⟩
end
section
variable {X:Cx} {B:Bas} {a b c e o k d:Expr} {m mo mk md mv:M T} {pos p:Pos}
theorem Pg {i:Nat} {s:Sta} (h:G8 i s=true):∃ kvs f,s.env[i]? = some (some (.dic kvs,f)):=by
  unfold G8 at h
  split at h
  · rename_i kvs f e; exact ⟨kvs,f,e⟩
  · cases h
theorem Qt {i:Nat} {s:Sta} (h:Hg i s=true):∃ kvs f,s.env[i]? = some (some (.lst kvs,f)):=by
  unfold Hg at h
  split at h
  · rename_i kvs f e; exact ⟨kvs,f,e⟩
  · cases h
theorem Ho (i:Nat) (hu:X.A.units+1<cLine) (ho:PE X o (W9 i)) (hk:PE X k (tOf X.K B mk)) (hs:aaw k):PE X (.Subscript o k pos) (tOf X.K B (rm i mk)):=(a4n hu ho hk hs).imp fun σ H Q z9=>by
  obtain ⟨st,ps,S,as,R,t,st',e,q⟩:=z9
  obtain ⟨hd,kt,kvs,f,qk,e2,e3,e4,e5⟩:=Pq e
  obtain ⟨kvs0,f0,e0⟩:=Pg hd
  obtain ⟨p0,vs0,s0,_⟩:=R.dictAt e0
  refine ⟨_,s0,st,ps,S,as,R,kt,st',e2,fun u H2 S2 as2 R2=>?_⟩
  obtain ⟨p1,vs1,s1,rd1,h4⟩:=R2.dictAt e3
  rw [s0] at s1; cases s1
  have ey:=Vc R2.top e4
  subst ey
  rcases h4.get qk with ⟨z,t',a1,a2,a3⟩ | ⟨_,a2⟩
  · rw [e5] at a2; cases a2
    exact ⟨p0,z,rfl,.inl ⟨vs1,qk,rd1,rfl,a1.symm⟩,q z H2 S2 as2 (R2.drop.push a3)⟩
  · rw [e5] at a2; cases a2
theorem Qi (i:Nat) {pos':Pos} (hu:X.A.units+1<cLine) (ho:PE X o (W9 i)) (hk:PE X k (tOf X.K B mk)) (hv:PE X e (tOf X.K B mv)) (hs:swapsWith e (some (.Subscript o k pos')) pos.line X.env=pure false) :
    PS X (.Assign [.Subscript o k pos'] e pos) (sOf X.K B (Du i mk mv)):=(a5c hu ho hk hv hs).imp fun D σ H z9=>by
  obtain ⟨st,ps,S,as,R,fl,st',e,q⟩:=z9
  obtain ⟨t,s1,kt,s2,kvs,qk,e1,hd,e3,e4,e5,hl,rfl,rfl⟩:=T6 e
  obtain ⟨kvs0,f0,e0⟩:=Pg hd
  refine ⟨st,ps,S,as,R,t,s1,e1,fun v H1 S1 as1 R1=>?_⟩
  obtain ⟨p0,vs0,s0,rd0,_⟩:=R1.dictAt e0
  refine ⟨_,s0,s1,_,S1,as1,R1,kt,s2,e3,fun y H3 S3 as3 R3=>?_⟩
  obtain ⟨w,h1,_,h3⟩:=R3.slots i _ true e4
  rw [s0] at h1; cases h1
  obtain ⟨p',ep,ow⟩:=h3 rfl
  cases ep
  obtain ⟨vs,hH,h4⟩:=ow.own
  have ey:=Vc R3.top e5
  subst ey
  exact ⟨p0,_,rfl,a7a.k hH (by rw [h4.length]; exact Nat.lt_of_lt_of_le hl lq),q _ _ S3 as3 (R3.drop.drop.turn e4 s0 ⟨_,dj,h4.put R3.top2⟩)⟩
end
end C
end
section
namespace C
open PySem PySem.Spec PyProof.Rows L2
theorem iy {ms:M (List T)} {n:Nat} (h:∀ st ts st',ms st=some (ts,st')→ts.length≤n) (hn:n≤1000):∀ st ts st',ms st=some (ts,st')→ts.length≤1000:=fun st ts st' e=>Nat.le_trans (h st ts st' e) hn
theorem xg {m:M T}:∀ st ts st',Aa m st=some (ts,st')→ts.length≤sizeLine:=fun st ts st' e=>by
  unfold Aa at e
  split at e
  · split at e
    · rename_i h; cases e; exact Nat.le_trans (Nat.le_of_lt h) lq
    · cases e
  · split at e
    · rename_i h; cases e; exact Nat.le_trans (Nat.le_of_lt h) lq
    · cases e
  · cases e
theorem Iv {m:M T}:∀ st ts st',Cz m st=some (ts,st')→ts.length≤sizeLine:=fun st ts st' e=>by
  obtain ⟨n,_,h,rfl⟩:=Mp e
  unfold rangeT
  rw [List.length_map,List.length_range]
  refine Nat.le_trans ?_ lq
  show n.toNat≤1000000
  omega
def iw (P:Program) (w:World) (K:PySem.W.Frag) (mg:Str→Option Value) (base:Heap) (x:Str) (k:Nat) (ps:List Str) (F:Fn):Prop :=
  ∃ f fd,Fg P w K mg base CX0 k f fd ps (spF K ps.length F)∧Binds K fd ps []∧PySem.W.keepIn K (.ref f)=true∧mg x=some (.ref f)
theorem iw.mono {P:Program} {w:World} {K:PySem.W.Frag} {mg:Str→Option Value} {base:Heap} {x:Str} {j k:Nat} {ps:List Str} {F:Fn} (d:iw P w K mg base x j ps F) (h:j≤k):iw P w K mg base x k ps F:=by
  obtain ⟨f,fd,h1,h2⟩:=d
  exact ⟨f,fd,h1.mono h,h2⟩
section
variable {X:Cx} {B:Bas} {a b c e o k:Expr} {m m1 m2:M T} {pos p:Pos} {es:List Expr} {ms:M (List T)} {F:Fn} {x:Str} {n:Nat} {pn:List Str}
theorem dg (D:iw X.prog X.w X.K X.mg X.base x n pn F) (hr:Ei n X.A) (hg:Gl X x)
    (ha:PA X (e::es) (aOf X.K B ms)) (hl:∀ st ts st',ms st=some (ts,st')→ts.length=pn.length) (hdb:(x==("__debug__" : Str))=false:=by decide)
    (he:starEach (e::es) X.env=(false,eval e X.env)::starEach es X.env:=by rfl) (hpl:(backTo pos (starEach es X.env)).any (·.1)=false:=by rfl) :
    PE X (.Call (.Name x p) (e::es) [] pos) (tOf X.K B (gb F ms)):=by
  obtain ⟨f,fd,h1,h2,h3,h4⟩:=D
  exact a78 h1 hr hg h4 h3 h2 ha hl hdb he hpl
theorem Gh (h:PA X es (aOf X.K B ms)) (hm:∀ st ts st',ms st=some (ts,st')→ts.length≤1000):PE X (.List es pos) (fOf X.K B (jo (fun l=>some (.lst l)) ms)) :=
  (V0 h).imp fun σ H Q z9=>by
    obtain ⟨st,ps,S,as,R,t,st',e,q⟩:=z9
    obtain ⟨ts,e1,e2⟩:=Bq e
    cases e2
    refine ⟨st,ps,S,as,R,ts,st',e1,fun vs H1 S1 as1 R1 rs=>⟨?_,fun p hp=>?_⟩⟩
    · rw [rs.length]; exact Nat.le_of_lt (Dw (hm _ _ _ e1))
    · obtain ⟨bD,sD,nD,no⟩:=R1.fresh hp
      exact q p _ S1 as1 (R1.a9l bD sD nD no) ⟨⟨vs,dj,rs⟩,sD,nD,bD⟩ no
theorem Rel.listAt {K:PySem.W.Frag} {B:Bas} {st:Sta} {σ:L2.St} {H S:Hp} {ps:List (V × T)} {as:List Addr} (r:Rel K B st σ H ps S as) {i:Nat} {xs:List T} {f:Bool} (e:st.env[i]? = some (some (.lst xs,f))):∃ p vs,σ[i]? = some (some (.ref p))∧SqL K H p vs∧m7 K S as vs xs:=by
  obtain ⟨v,h1,h2,h3⟩:=r.slots i _ f e
  cases f with
  | false =>
    have h:=h2 rfl
    cases h with
    | lst a b=>exact ⟨_,_,h1,ji r.sub a,b⟩
  | true =>
    obtain ⟨p,rfl,o⟩:=h3 rfl
    obtain ⟨vs,h,q⟩:=o.own
    exact ⟨p,vs,h1,SqL.of h,q⟩
theorem xq (i:Nat) {st:Stmt} (h:PS X st (a6a (tBM X.K "list" Sx (W9 i) (Pj (tOf X.K B m) a7e)))):PS X st (sOf X.K B (mz i m)):=h.imp fun D σ H z9=>by
  obtain ⟨st,ps,S,as,R,fl,st',e,q⟩:=z9
  obtain ⟨hd,t,s1,xs,e1,e2,hl,rfl,rfl⟩:=Ss e
  obtain ⟨xs0,f0,e0⟩:=Qt hd
  obtain ⟨p0,vs0,s0,q0,_⟩:=R.listAt e0
  refine ⟨_,s0,.inl ⟨rfl,_,q0⟩,st,ps,S,as,R,t,s1,e1,fun v H1 S1 as1 R1=>?_⟩
  obtain ⟨w,h1,_,h3⟩:=R1.slots i _ true e2
  rw [s0] at h1; cases h1
  obtain ⟨p',ep,ow⟩:=h3 rfl
  cases ep
  obtain ⟨vs,hH,h4⟩:=ow.own
  exact ⟨p0,vs,v,rfl,rfl,hH,by rw [h4.length]; exact Nat.lt_of_lt_of_le hl lq,q _ _ S1 as1 (R1.drop.turn e2 s0 ⟨_,dj,h4.append (.cons R1.top .nil)⟩)⟩
end
end C
end
section
namespace C
open PySem PySem.Spec PyProof.Rows L2
section
variable {X:Cx} {B:Bas} {a b c e o k:Expr} {m m1 m2:M T} {pos p:Pos}
theorem Qk {K:PySem.W.Frag} {S:Hp} {as:List Addr}:∀ {vs:List V} {ts:List T} {l:List Int},m7 K S as vs ts→Zg ts=some l→vs=l.map V.int
  | _,[],l,h0,h=>by cases h0; cases h; rfl
  | _,_::_,l,h0,h=>by
    cases h0 with | cons h1 h2=>?_
    cases h1 <;> first | exact jm h | skip
    obtain ⟨l',e1,e2⟩:=Option.map_eq_some_iff.mp h
    subst e2
    rw [Qk h2 e1]; rfl
theorem Qc {K:PySem.W.Frag} {S:Hp} {as:List Addr}:∀ {vs:List V} {ts:List T} {l:List Str},m7 K S as vs ts→Kh ts=some l→vs=l.map V.str
  | _,_,l,.nil,h=>by cases h; rfl
  | _,_,l,.cons (t:=t) h1 h2,h=>by
    cases h1 <;> first | exact jm h | skip
    obtain ⟨l',e1,e2⟩:=Option.map_eq_some_iff.mp h
    subst e2
    rw [Qc h2 e1]; rfl
theorem a1o {l:List Int} {us:List Value} (r:Vals (l.map V.int) us) {i:Nat} {v:Value} (h:us.toArray[i]? = some v):∃ t,v=.int (l.getD i 0) t:=by
  rw [List.getElem?_toArray] at h
  have hi:i<(l.map V.int).length:=by rw [r.length]; exact (List.getElem?_eq_some_iff.mp h).1
  rw [List.length_map] at hi
  have e:(l.map V.int)[i]? = some (.int l[i]):=by rw [List.getElem?_map,List.getElem?_eq_getElem hi]; rfl
  obtain ⟨u,h1,t,h2⟩:=r.get e
  rw [h] at h1; cases h1
  exact ⟨t,by rw [h2,List.getD_eq_getElem?_getD,List.getElem?_eq_getElem hi]; rfl⟩
theorem Inv.Hg {pins:List (Addr × Obj)} {σ:L2.St} {H:Hp} {s:Shared} {a:Addr} {xs:List V} (I:L2.Inv X pins σ H s) (h:SqL X.K H a xs):a<s.heap.objs.size:=by
  obtain ⟨its,_,⟨o,n,h1,_⟩,_⟩:=I.list h
  exact Heap.lt_size h1
theorem Oa (hc:X.calm=true):Wi X (.builtin "sum") a7w:=by
  intro pins s σ H xs us Q I rs z8
  obtain ⟨S,as,ts,w,sub,hr,hf,q⟩:=z8
  cases hr with
  | nil=>exact jm hf
  | @cons x t xs' ts' h1 h2 =>
    cases h2 with
    | cons h3 h4=>cases h1 <;> exact jm hf
    | nil =>
      cases h1 with
      | @lst a vs ts g1 g2 =>
        obtain ⟨l,e1,e2⟩:=Option.map_eq_some_iff.mp hf
        subst e2
        have ev:=Qk g2 e1
        subst ev
        obtain ⟨u,rfl,ru⟩:=rs.one
        cases ru
        obtain ⟨its,r,p,hz⟩:=I.list (ji sub g1)
        have hlt:=Inv.Hg I (ji sub g1)
        refine call_sum_walkG (wpAny_pyIter_list p.isList ?_)
        refine ⟨_,_,_,_,_,_,fun i=>l.getD i 0,rfl,Walks.list (A:=X.A.in1) (show X.A.in1.handled=none from I.ok.hd hc) s.heap.objs.size a (Nat.ne_of_lt hlt) its.toArray,And.intro ⟨_,Heap.get?_push_size _ rfl,rfl,rfl⟩ (PlainL.keeps p fun b o e=>Heap.get?_push_of_some _ e).isList,fun b hb=>?_,fun i v hv=>a1o r hv,fun h' tk t' hk=>?_⟩
        · rw [Heap.size_push]
          rcases List.mem_cons.mp hb with rfl | hb -- here
          · exact Nat.lt_succ_self _
          · rw [List.mem_singleton.mp hb]; exact Nat.lt_succ_of_lt hlt -- here
        · have hl:its.toArray.size=l.length:=by rw [List.size_toArray,← r.length,List.length_map]
          rw [hl,preSum_getD,List.take_length]
          exact ⟨.int l.sum,H,I.kept (h':=h') (t':=tk) fun b u e=>hk b u (by simp; exact Nat.ne_of_lt (Heap.lt_size e)) (Heap.get?_push_of_some _ e),⟨_,rfl⟩,q _ H S (Ext.refl sub) (.int _)⟩
      | _=>exact jm hf
theorem Ly:∀ {l:List Str} {us:List Value},Vals (l.map V.str) us→StrsAre us l
  | [],_,r=>by cases r; exact .nil
  | x::l,_,r=>by
    rw [List.map_cons] at r
    cases r with
    | cons r1 r2=>obtain ⟨t,rfl⟩:=r1; exact .cons x t (Ly r2)
theorem Oc {l:List Str} {us:List Value} (h:StrsAre us l):Vals (l.map V.str) us:=by
  induction h with
  | nil=>exact .nil
  | cons x t _ ih=>exact .cons ⟨t,rfl⟩ ih
abbrev Ek (a b:Str):Prop:=¬ b.cps.toList<a.cps.toList
theorem Kw {a b c:Str} (h1:Ek a b) (h2:Ek b c):Ek a c:=fun h=>by
  have h3:a.cps.toList≤b.cps.toList:=List.not_lt.mp h1
  have h4:b.cps.toList≤c.cps.toList:=List.not_lt.mp h2
  exact List.not_lt.mpr (List.le_trans h3 h4) h
theorem Vt {a b:Str} (h1:Ek a b) (h2:Ek b a):a=b:=by
  have h3:a.cps.toList≤b.cps.toList:=List.not_lt.mp h1
  have h4:b.cps.toList≤a.cps.toList:=List.not_lt.mp h2
  have h5:=List.le_antisymm h3 h4
  cases a; cases b
  simp at h5; subst h5; rfl
theorem Jj:∀ (p:Str) (l:List Str),risingS p l=true→(p::l).Pairwise Ek
  | p,[],_=>by simp
  | p,x::r,h=>by
    rw [risingS,Bool.and_eq_true] at h
    have ih:=Jj x r h.2
    have hx:Ek p x:=fun z=>by
      have:=h.1
      rw [ltCps_eq,decide_eq_true z] at this
      cases this
    refine List.pairwise_cons.mpr ⟨fun y hy=>?_,ih⟩
    rcases List.mem_cons.mp hy with rfl | hy -- here
    · exact hx
    · exact Kw hx (List.rel_of_pairwise_cons ih hy)
theorem Ru (l:List Str) (h:sortedS l=true):l.Pairwise Ek:=by
  cases l with
  | nil=>exact .nil
  | cons x r=>exact Jj x r h
theorem Ju (x:Str):∀ l,(O7 x l).Perm (x::l)
  | []=>.refl _
  | y::r=>by
    rw [O7]
    split
    · exact .refl _
    · exact ((Ju x r).cons y).trans (.swap x y r)
theorem Qh (x:Str):∀ l:List Str,l.Pairwise Ek→(O7 x l).Pairwise Ek
  | [],_=>by simp [O7]
  | y::r,h=>by
    rw [O7]
    split
    · rename_i hx
      have hx:=of_decide_eq_true hx
      have hxy:Ek x y:=fun z=>List.lt_irrefl _ (List.lt_trans hx z)
      refine List.pairwise_cons.mpr ⟨fun z hz=>?_,h⟩
      rcases List.mem_cons.mp hz with rfl | hz -- here
      · exact hxy
      · exact Kw hxy (List.rel_of_pairwise_cons h hz)
    · rename_i hx
      have hx:Ek y x:=fun z=>hx (decide_eq_true z)
      refine List.pairwise_cons.mpr ⟨fun z hz=>?_,Qh x r (List.pairwise_cons.mp h).2⟩
      rcases List.mem_cons.mp ((Ju x r).mem_iff.mp hz) with rfl | hz
      · exact hx
      · exact List.rel_of_pairwise_cons h hz
theorem Ag:∀ (l acc:List Str),acc.Pairwise Ek→(l.foldl (fun acc x=>O7 x acc) acc).Pairwise Ek∧(l.foldl (fun acc x=>O7 x acc) acc).Perm (l++acc)
  | [],acc,h=>⟨h,.refl _⟩
  | x::l,acc,h=>by
    obtain ⟨h1,h2⟩:=Ag l (O7 x acc) (Qh x acc h)
    exact ⟨h1,h2.trans (((Ju x acc).append_left l).trans (List.perm_middle))⟩
theorem Vy (l:List Str):(Ae l).Pairwise Ek:=(Ag l [] .nil).1
theorem Gq (l:List Str):(Ae l).Perm l:=by
  have:=(Ag l [] .nil).2
  rwa [List.append_nil] at this
theorem Ug {l l':List Str} (h1:sortedS l'=true) (h2:l'.Perm l):l'=Ae l :=
  List.Perm.eq_of_pairwise (le:=Ek) (fun _ _ _ _=>Vt) (Ru l' h1) (Vy l) (h2.trans (Gq l).symm)
theorem Jl {K:PySem.W.Frag} {S:Hp} {as:List Addr}:∀ l:List Str,m7 K S as (l.map V.str) (l.map T.str)
  | []=>.nil
  | x::l=>.cons (.str x) (Jl l)
theorem Va {pins:List (Addr × Obj)} {σ:L2.St} {H S:Hp} {s:Shared} {as:List Addr} {a:Addr} {l:List Str} {Q:VK} (I:L2.Inv X pins σ H s) (sub:Same S H) (g1:SqL X.K H a (l.map V.str)) (h64:l.length<64)
    (q:∀ v H' S',Ext S H S' H'→Rep X.K S' as v (.lst ((Ae l).map .str))→Q v H'):wpAny (model X.prog X.w) X.A (call (.builtin "sorted") [.ref a]) (EP X pins σ Q) X.xe s:=by
  obtain ⟨its,r,p,hz⟩:=I.list g1
  refine sorted_strs p.isList (Ly r) (by rw [← r.length,List.length_map]; exact h64) fun out ss' a1 a2 a3=>?_
  have es:=Ug a3 a2
  subst es
  obtain ⟨e,he⟩:=sortedAll_at s.heap its out
  have hl:(List.map V.str (Ae l)).length≤sizeLine:=by
    rw [List.length_map,(Gq l).length_eq]
    exact Nat.le_trans (Nat.le_of_lt h64) (by rw [sizeLine_eq]; decide)
  have hn:H (s.heap.objs.size+1)=none:=I.hok.fresh (Nat.le_succ _)
  have x:=Ext.laid sub hn (.lst ((Ae l).map V.str))
  refine ⟨.ref (s.heap.objs.size+1),_,I.laid (a:=s.heap.objs.size+1) (o:=.lst ((Ae l).map V.str)) (h':=sortedAll s.heap its out) (t':=s.toks) (fun _ _=>sortedAll_old) (Nat.le_succ _) ⟨hl,out.toList,e,Oc a1,he⟩,rfl,q _ _ _ x (.lst (SqL.of dj) (Jl _))⟩
theorem Ng:Eh X (.builtin "sorted") (fun xs H Q=>∃ S as ts l,Same S H∧m7 X.K S as xs [.lst ts]∧ts.length<64∧Kh ts=some l∧∀ v H' S',Ext S H S' H'→Rep X.K S' as v (.lst ((Ae l).map .str))→Q v H'):=by
  intro pins s σ H xs us Q I rs z8
  obtain ⟨S,as,ts,l,sub,hr,h64,e1,q⟩:=z8
  cases hr with
  | cons h1 h2 =>
    cases h2
    cases h1 with
    | @lst a vs _ g1 g2 =>
      have ev:=Qc g2 e1
      subst ev
      obtain ⟨u,rfl,ru⟩:=rs.one
      cases ru
      have hl:=g2.length
      rw [List.length_map] at hl
      exact Va I sub (ji sub g1) (by (clear rs g2 g1 q e1 sub I; omega)) q
def tyOf:T→Option Value
  | .non=>some (.type "NoneType")
  | .bl _=>some (.type "bool")
  | .int _=>some (.type "int")
  | .str _=>some (.type "str")
  | .tup _=>some (.type "tuple")
  | .lst _=>some (.type "list")
  | .dic _=>some (.type "dict")
  | .obj _=>none
theorem a8a {pins:List (Addr × Obj)} {σ:L2.St} {H S:Hp} {s:Shared} {as:List Addr} {x:V} {u c:Value} {t:T} {ty:Value} {b:Bool} {Q:Value→Shared→Prop} {E:Value→Shared→Prop} (I:L2.Inv X pins σ H s) (sub:Same S H) (rx:RelV x u) (r:Rep X.K S as x t) (hty:tyOf t=some ty)
    (e:PySem.W.kitOne X.K ty c=some b) (h:∀ tk,Q (.bool b) { s with toks:=tk }):wpAny (model X.prog X.w) X.A (call (.builtin "isinstance") [u,c]) Q E s:=by
  cases r with
  | non=>cases hty; exact G9 I rx .non e h
  | bl y=>cases hty; exact G9 I rx (.bl y) e h
  | int y=>cases hty; exact G9 I rx (.int y) e h
  | str y=>cases hty; exact G9 I rx (.str y) e h
  | @tup a vs ts g1 g2 =>
    cases hty
    cases (show u=Value.ref a from rx)
    obtain ⟨its,_,⟨o,h1,h2,_⟩,_⟩:=I.tuple (ju sub g1)
    exact PySem.W.kia_one PySem.W.kitx_tuple I.kIn ⟨o,h1,h2⟩ e (fun z=>nomatch z) h
  | @lst a vs ts g1 g2 =>
    cases hty
    cases (show u=Value.ref a from rx)
    obtain ⟨its,_,⟨o,n,h1,h2,_⟩,_⟩:=I.list (ji sub g1)
    exact PySem.W.kia_one PySem.W.kitx_list I.kIn ⟨o,h1,h2⟩ e (fun z=>nomatch z) h
  | @dic a kvs ts g1 g2 =>
    cases hty
    cases (show u=Value.ref a from rx)
    obtain ⟨_,_,vs,_,o,es,ep,h1,h2,_⟩:=Kz I.hok (yp sub g1)
    exact PySem.W.kia_one PySem.W.kitx_dict I.kIn ⟨o,h1,h2.1⟩ e (fun z=>nomatch z) h
  | obj h=>cases hty
def a8h (f:Value→Bool):List T→Option T
  | [t]=>(tyOf t).map fun ty=>.bl (f ty)
  | _=>none
theorem a82 {cn:String} {f:Value→Bool} {pc:Pos} (hg:Gl X "isinstance") (hm:X.mg "isinstance" = none) (hg2:Gl X (Str.ofString cn)) (hm2:X.mg (Str.ofString cn)=none) (hv:bootBuiltins (Str.ofString cn)=some (.type cn))
    (hf:∀ t ty,tyOf t=some ty→PySem.W.kitOne X.K ty (.type cn)=some (f ty)) (ha:PE X a (tOf X.K B m)) (hd:((Str.ofString cn)==("__debug__" : Str))=false) (hn:(Str.ofString cn) ≠ "__name__")
    (he:starEach [a,.Name (Str.ofString cn) pc] X.env=(false,eval a X.env)::starEach [.Name (Str.ofString cn) pc] X.env:=by rfl) (he2:starEach [.Name (Str.ofString cn) pc] X.env=(false,eval (.Name (Str.ofString cn) pc) X.env)::starEach [] X.env:=by rfl)
    (hpl:(backTo pos (starEach [.Name (Str.ofString cn) pc] X.env)).any (·.1)=false:=by rfl) :
    PE X (.Call (.Name "isinstance" p) [a,.Name (Str.ofString cn) pc] [] pos) (tOf X.K B (jo (a8h f) (ao m fu))):=by
  have hc:Eh X (.builtin "isinstance") (fun xs H Q=>∃ S as x t ty,xs=[x,.ty cn]∧Same S H∧Rep X.K S as x t∧tyOf t=some ty∧Q (.bl (f ty)) H):=by
    intro pins s σ H xs us Q I rs z8
    obtain ⟨S,as,x,t,ty,ex,sub,r,hty,q⟩:=z8
    subst ex
    obtain ⟨u,w,rfl,r1,r2⟩:=rs.two
    cases r2
    exact a8a I sub r1 r hty (hf t ty hty) fun tk=>⟨.bl (f ty),H,I.tok _,rfl,q⟩
  have hnm:PE X (.Name (Str.ofString cn) pc) (tC (.ty cn)):=Y9 hg2 hm2 hv rfl hn hd
  refine (u6 hc hg hm PyProof.Rows.boot_isinstance (jt ha (jt hnm wz he2) he) (by decide) (by decide) he hpl).imp fun σ H Q z0=>?_
  obtain ⟨st,ps,S,as,R,t,st',e,q⟩:=z0
  obtain ⟨ts,e1,e2⟩:=Bq e
  obtain ⟨t1,s1,us,ea,en,rfl⟩:=Dv e1
  cases en
  simp only [a8h] at e2
  obtain ⟨ty,e3,e4⟩:=Option.map_eq_some_iff.mp e2
  subst e4
  exact ⟨st,ps,S,as,R,t1,_,ea,fun v H1 S1 as1 R1=>⟨S1,as1,v,t1,ty,rfl,R1.sub,R1.top,e3,q _ H1 S1 as1 (R1.drop.push (.bl _))⟩⟩
example (K:PySem.W.Frag):PySem.W.kitOne K (.type "bool") (.type "int")=some true:=by rfl
example (K:PySem.W.Frag):PySem.W.kitOne K (.type "str") (.type "int")=some false:=by rfl
end
end C
end
section
namespace C
open PySem PySem.Spec PyProof.Rows L2
section
variable {X:Cx} {B:Bas} {m:M T}
end
end C
end
section
namespace C
open PySem PySem.Spec PyProof.Rows L2
theorem Rel.newObj {K:PySem.W.Frag} {B:Bas} {st:Sta} {σ:L2.St} {H S:Hp} {ps:List (V × T)} {as:List Addr} {p:Addr} {ob:HO} {so:SO} (r:Rel K B st σ H ps S as) (hp:H p=none) (h:Yj K S (as++[p]) (upd H p ob) p so) :
    Rel K B { st with sto:=st.sto++[so] } σ (upd H p ob) ((.ref p,.obj st.sto.length)::ps) S (as++[p]):=by
  obtain ⟨bD,sD,nD,no⟩:=r.fresh hp
  have mo:∃ l,as++[p]=as++l:=⟨[p],rfl⟩
  have other:∀ q,q≠p→H q=upd H p ob q:=fun q n=>(dw n).symm
  refine Rel.push (st:={ st with sto:=st.sto++[so] }) (H:=upd H p ob) (v:=.ref p) (t:=.obj st.sto.length) ⟨fun b u e=>?_,⟨r.grow.same,?_,fun q o a b c=>?_⟩,fun i t f e=>?_,r.apart,⟨?_,?_,fun n so2 e=>?_⟩,fun q hq=>(r.pend q hq).mono (Same.refl _) mo,r.len⟩ (.obj ?_)
  · rw [dw (fun z=>by subst z; rw [sD] at e; cases e)]; exact r.sub _ _ e
  · obtain ⟨l,e⟩:=r.grow.more
    exact ⟨l++[p],by rw [e,List.append_assoc]⟩
  · obtain ⟨x,y,z⟩:=r.grow.keep q o a b c
    have n:q≠p:=fun w=>by subst w; rw [bD] at a; cases a
    refine ⟨by rw [dw n]; exact x,y,fun m=>?_⟩
    rcases List.mem_append.mp m with m | m
    · exact z m
    · exact n (List.mem_singleton.mp m)
  · obtain ⟨v,h1,h2,h3⟩:=r.slots i t f e
    refine ⟨v,h1,fun z=>(h2 z).mono (Same.refl _) mo,fun z=>?_⟩
    obtain ⟨q,rfl,o⟩:=h3 z
    have n:q≠p:=fun w=>by subst w; subst z; exact no i t e h1
    refine ⟨q,rfl,o.own.more (Same.refl _) mo (other q n),o.out,fun m=>?_,o.new⟩
    rcases List.mem_append.mp m with m | m
    · exact o.nas m
    · exact n (List.mem_singleton.mp m)
  · show (as++[p]).length=(st.sto++[so]).length
    rw [List.length_append,List.length_append,r.sto.len]; rfl
  · refine List.nodup_append.mpr ⟨r.sto.nd,by simp,fun a ha b hb=>?_⟩
    rw [List.mem_singleton.mp hb]
    intro z; subst z; exact nD ha
  · have e:(st.sto++[so])[n]? = some so2:=e
    by_cases hn:n<st.sto.length
    · rw [List.getElem?_append_left hn] at e
      obtain ⟨a,h1,h2,h3⟩:=r.sto.at' n so2 e
      have na:a≠p:=fun z=>by subst z; exact nD (List.mem_of_getElem? h1)
      refine ⟨a,Yq h1,h2,?_⟩
      cases so2 with
      | dic ts=>obtain ⟨vs,x,y⟩:=h3; exact ⟨vs,by rw [dw na]; exact x,y.mono (Same.refl _) mo⟩
      | lst ts=>obtain ⟨vs,x,y⟩:=h3; exact ⟨vs,by rw [dw na]; exact x,y.mono (Same.refl _) mo⟩
      | dit ts=>obtain ⟨vs,x,y⟩:=h3; exact ⟨vs,by rw [dw na]; exact x,y.mono (Same.refl _) mo⟩
    · rw [List.getElem?_append_right (Nat.le_of_not_lt hn)] at e
      have hn0:n - st.sto.length=0:=by
        have:=(List.getElem?_eq_some_iff.mp e).1
        simp at this; omega
      rw [hn0] at e; cases e
      have hne:n=as.length:=by rw [r.sto.len]; omega
      subst hne
      exact ⟨p,by rw [List.getElem?_append_right (Nat.le_refl _),Nat.sub_self]; rfl,sD,h⟩
  · rw [← r.sto.len,List.getElem?_append_right (Nat.le_refl _),Nat.sub_self]; rfl
def PN (X:Cx) (e:Expr) (N:L2.St→V→Prop):Prop:=PE X e (fun σ H Q=>∃ v,N σ v∧Q v H)
def MN (K:PySem.W.Frag) (m:M T) (N:L2.St→V→Prop):Prop:=∀ (B:Bas) (st:Sta) (σ:L2.St) (H:Hp) (ps:List (V × T)) (S:Hp) (as:List Addr) (t:T) (st':Sta),Rel K B st σ H ps S as→m st=some (t,st')→st'=st∧∃ v,N σ v∧Rep K S as v t
structure PM (X:Cx) (e:Expr) (m:M T) (N:L2.St→V→Prop):Prop where
  p:PN X e N
  m:MN X.K m N
section
variable {X:Cx} {B:Bas} {a b e e1 e2:Expr} {m m1 m2:M T} {N N1 N2:L2.St→V→Prop} {pos p:Pos}
end
end C
end
section
namespace C
open PySem PySem.Spec PyProof.Rows L2
inductive a1i:List Expr→List Str→Prop where
  | nil:a1i [] []
  | cons {x:Str} {k:Nat} {q:Pos} {es:List Expr} {xs:List Str}:a1i es xs→a1i (.Constant (.str x) k q::es) (x::xs)
theorem Yl {X:Cx} {B:Bas}:∀ {es:List Expr} {xs:List Str},a1i es xs→PA X es (aOf X.K B (a09 xs))
  | _,_,.nil=>c7
  | _,_,.cons h=>aj mq (Yl h)
theorem len_strs:∀ (xs:List Str) (st:Sta) (ts:List T) (st':Sta),a09 xs st=some (ts,st')→ts.length≤xs.length
  | [],st,ts,st',e=>gj st ts st' e
  | _::xs,st,ts,st',e=>bw (len_strs xs) st ts st' e
section
variable {X:Cx} {B:Bas} {a b c e o k:Expr} {m m1 m2:M T} {pos p p2:Pos}
theorem a0x (l:List T):O5 l=a8h (fun ty=>ty == .type "list") l :=
  match l with
  | []=>rfl
  | [t]=>T.casesOn (motive_1:=fun t=>O5 [t]=a8h (fun ty=>ty == .type "list") [t]) t rfl (fun _=>rfl) (fun _=>rfl) (fun _=>rfl) (fun _=>rfl) (fun _=>rfl) (fun _=>rfl) fun _=>rfl
  | x::y::r=>T.casesOn (motive_1:=fun t=>O5 (t::y::r)=a8h (fun ty=>ty == .type "list") (t::y::r)) x rfl (fun _=>rfl) (fun _=>rfl) (fun _=>rfl) (fun _=>rfl) (fun _=>rfl) (fun _=>rfl) fun _=>rfl
theorem Rn {pc:Pos} (hg:Gl X "isinstance") (hm:X.mg "isinstance" = none) (hg2:Gl X "list") (hm2:X.mg "list" = none) (ha:PE X a (tOf X.K B m)) (he:starEach [a,.Name "list" pc] X.env=(false,eval a X.env)::starEach [.Name "list" pc] X.env:=by rfl) :
    PE X (.Call (.Name "isinstance" p) [a,.Name "list" pc] [] pos) (tOf X.K B (jo O5 (ao m fu))):=by
  rw [show O5=_ from funext a0x]
  exact a82 (cn := "list") hg hm hg2 hm2 boot_list (fun t ty h=>by cases t <;> cases h <;> rfl) ha (by decide) (by decide) he
theorem Ys (i:Nat) (hm:X.mg "len" = none) {es:Expr} (hg:Gl X "len") (h:PE X es (W9 i)) (he:starEach [es] X.env=(false,eval es X.env)::starEach [] X.env:=by rfl) (hpl:(backTo pos (starEach [] X.env)).any (·.1)=false:=by rfl) :
    PE X (.Call (.Name "len" p) [es] [] pos) (tOf X.K B (Gw i)):=by
  have hc:Eh X (.builtin "len") (fun xs H Q=>∃ q,xs=[.ref q]∧((∃ ys,SqL X.K H q ys∧Q (.int ys.length) H)∨(∃ kvs,Rd H q (.dK kvs)∧Q (.int kvs.length) H))):=by
    intro pins s σ H xs us Q I rs z8
    obtain ⟨q,ex,h⟩:=z8
    rcases h with ⟨ys,h1,h2⟩ | ⟨kvs,h1,h2⟩
    · exact Az pins s σ H xs us Q I rs ⟨q,ys,ex,.inl h1,h2⟩
    · subst ex
      obtain ⟨u,rfl,ru⟩:=rs.one
      cases ru
      exact a98 I h1 fun t s' I'=>⟨.int kvs.length,H,I',⟨t,rfl⟩,h2⟩
  refine (u6 hc hg hm PySem.boot_len (jt h wz he) (by decide) (by decide) he hpl).imp fun σ H Q z0=>?_
  obtain ⟨st,ps,S,as,R,t,st',e,q⟩:=z0
  obtain ⟨rfl,h⟩:=Sd e
  rcases h with ⟨xs,f,e1,rfl⟩ | ⟨xs,f,e1,rfl⟩
  · obtain ⟨p0,vs,s0,h1,h2⟩:=R.listAt e1
    exact ⟨_,s0,p0,rfl,.inl ⟨vs,h1,by rw [h2.length]; exact q _ H S as (R.push (.int _))⟩⟩
  · obtain ⟨p0,vs,s0,h1,h2⟩:=R.dictAt e1
    exact ⟨_,s0,p0,rfl,.inr ⟨vs,h1,by rw [h2.length]; exact q _ H S as (R.push (.int _))⟩⟩
end
end C
end
section
namespace C
open PySem
mutual
theorem Ce:∀ (t:T) {d:PyData},dat t=some d→d.canLay0=true
  | .non,_,h=>by simp only [dat] at h; cases h; simp only [PyData.canLay0]
  | .bl b,_,h=>by simp only [dat] at h; cases h; simp only [PyData.canLay0]
  | .int i,_,h=>by simp only [dat] at h; cases h; simp only [PyData.canLay0]
  | .str x,_,h=>by
    simp only [dat] at h
    split at h
    · rename_i hx; cases h; exact hx
    · cases h
  | .tup xs,_,h=>by
    simp only [dat] at h
    obtain ⟨l,e1,e2⟩:=Option.map_eq_some_iff.mp h
    subst e2
    simp only [PyData.canLay0]
    exact N5 xs e1
  | .lst xs,_,h=>by
    simp only [dat] at h
    obtain ⟨l,e1,e2⟩:=Option.map_eq_some_iff.mp h
    subst e2
    simp only [PyData.canLay0]
    exact N5 xs e1
  | .dic _,_,h=>by simp only [dat] at h; cases h
  | .obj _,_,h=>by simp only [dat] at h; cases h
theorem N5:∀ (ts:List T) {l:List PyData},Fz ts=some l→PyData.canLayAll0 l=true
  | [],_,h=>by simp only [Fz] at h; cases h; simp only [PyData.canLayAll0]
  | x::r,_,h=>by
    simp only [Fz] at h
    split at h
    · rename_i a ea
      obtain ⟨l,e1,e2⟩:=Option.map_eq_some_iff.mp h
      subst e2
      simp only [PyData.canLayAll0]
      rw [Ce x ea,N5 r e1]; rfl
    · cases h
end
theorem a08 {x:T} {r:List T} {l:List PyData} (h:Fz (x::r)=some l):∃ a l',dat x=some a∧Fz r=some l'∧l=a::l':=by
  simp only [Fz] at h
  split at h
  · rename_i a ea
    obtain ⟨l,e1,e2⟩:=Option.map_eq_some_iff.mp h
    exact ⟨a,l,ea,e1,e2.symm⟩
  · cases h
theorem Rp {t u:T} {b:Bool} (h:eqD t u=some b):∃ x y,dat t=some x∧dat u=some y∧x.depth≤40∧b=PyData.eqv x y:=by
  unfold eqD at h
  split at h
  · rename_i x ex
    split at h
    · rename_i y ey
      split at h
      · rename_i hd; cases h; exact ⟨x,y,ex,ey,hd,rfl⟩
      · cases h
    · cases h
  · cases h
theorem a6i {t u:T} {b:Bool} (h:eqT t u=some b):(∃ x y,t=.dic x∧u=.dic y∧((x.length=y.length∧a7j x y=some b)∨(x.length≠y.length∧b=false)))∨eqD t u=some b:=by
  unfold eqT at h
  split at h
  · split at h
    · rename_i hl; exact .inl ⟨_,_,rfl,rfl,.inl ⟨hl,h⟩⟩
    · rename_i hl; cases h; exact .inl ⟨_,_,rfl,rfl,.inr ⟨hl,rfl⟩⟩
  · exact .inr h
end C
end
section
namespace C
open PySem PySem.Spec PyProof.Rows L2
section
variable {X:Cx} {pins:List (Addr × Obj)} {σ:L2.St} {H S:Hp} {s:Shared} {as:List Addr}
theorem Yu (I:L2.Inv X pins σ H s) (sub:Same S H):(∀ {v:V} {t:T},Rep X.K S as v t→∀ {d:PyData} {u:Value},dat t=some d→RelV v u→∃ bs,Reads s.heap u d bs)∧∀ {vs:List V} {ts:List T},m7 X.K S as vs ts→∀ {ds:List PyData} {us:List Value},Fz ts=some ds→Vals vs us→∃ bs,ReadsAll s.heap us ds bs:=by
  have tp:∀ {a:Addr} {vs:List V} {ts:List T},SqT X.K S a vs→m7 X.K S as vs ts→(∀ {ds:List PyData} {us:List Value},Fz ts=some ds→Vals vs us→∃ bs,ReadsAll s.heap us ds bs)→∀ {d:PyData} {u:Value},dat (.tup ts)=some d→RelV (.ref a) u→∃ bs,Reads s.heap u d bs:=by
    intro a vs ts h _ q d u e r
    simp only [dat] at e
    obtain ⟨l,e1,e2⟩:=Option.map_eq_some_iff.mp e
    subst e2
    cases r
    obtain ⟨its,rv,⟨o,h1,h2,n,h3⟩,_⟩:=I.tuple (ju sub h)
    obtain ⟨bs,rb⟩:=q e1 rv
    exact ⟨_,.tuple h1 h2 h3 rb⟩
  have ls:∀ {a:Addr} {vs:List V} {ts:List T},SqL X.K S a vs→m7 X.K S as vs ts→(∀ {ds:List PyData} {us:List Value},Fz ts=some ds→Vals vs us→∃ bs,ReadsAll s.heap us ds bs)→∀ {d:PyData} {u:Value},dat (.lst ts)=some d→RelV (.ref a) u→∃ bs,Reads s.heap u d bs:=by
    intro a vs ts h _ q d u e r
    simp only [dat] at e
    obtain ⟨l,e1,e2⟩:=Option.map_eq_some_iff.mp e
    subst e2
    cases r
    obtain ⟨its,rv,⟨o,n,h1,h2,_,h3⟩,_⟩:=I.list (ji sub h)
    obtain ⟨bs,rb⟩:=q e1 rv
    exact ⟨_,.list h1 h2 h3 rb⟩
  have st:∀ (x:Str) {d:PyData} {u:Value},dat (.str x)=some d→RelV (.str x) u→∃ bs,Reads s.heap u d bs:=by
    intro x d u e r
    simp only [dat] at e
    split at e
    · cases e; obtain ⟨t,rfl⟩:=r; exact ⟨_,.str x t⟩
    · cases e
  have cn:∀ {v:V} {t:T} {vs:List V} {ts:List T},Rep X.K S as v t→m7 X.K S as vs ts→(∀ {d:PyData} {u:Value},dat t=some d→RelV v u→∃ bs,Reads s.heap u d bs)→(∀ {ds:List PyData} {us:List Value},Fz ts=some ds→Vals vs us→∃ bs,ReadsAll s.heap us ds bs)→∀ {ds:List PyData} {us:List Value},Fz (t::ts)=some ds→Vals (v::vs) us→∃ bs,ReadsAll s.heap us ds bs:=by
    intro v t vs ts _ _ h q ds us e r
    obtain ⟨a,l,e1,e2,e3⟩:=a08 e
    subst e3
    cases r with
    | cons r1 r2 =>
      obtain ⟨b1,x1⟩:=h e1 r1
      obtain ⟨b2,x2⟩:=q e2 r2
      exact ⟨_,.cons x1 x2⟩
  have nl:∀ {ds:List PyData} {us:List Value},Fz []=some ds→Vals [] us→∃ bs,ReadsAll s.heap us ds bs:=by
    intro ds us e r; simp only [Fz] at e; cases e; cases r; exact ⟨_,.nil⟩
  have no:∀ {d:PyData} {u:Value},dat .non=some d→RelV .non u→∃ bs,Reads s.heap u d bs:=by
    intro d u e r; simp only [dat] at e; cases e; cases r; exact ⟨_,.none⟩
  have bo:∀ (b:Bool) {d:PyData} {u:Value},dat (.bl b)=some d→RelV (.bl b) u→∃ bs,Reads s.heap u d bs:=by
    intro b d u e r; simp only [dat] at e; cases e; cases r; exact ⟨_,.bool b⟩
  have it:∀ (i:Int) {d:PyData} {u:Value},dat (.int i)=some d→RelV (.int i) u→∃ bs,Reads s.heap u d bs:=by
    intro i d u e r; simp only [dat] at e; cases e; obtain ⟨t,rfl⟩:=r; exact ⟨_,.int i t⟩
  have di:∀ {a:Addr} {ts:List (L2.Key × T)} {d:PyData} {u:Value},dat (.dic ts)=some d→RelV (.ref a) u→∃ bs,Reads s.heap u d bs:=by
    intro a ts d u e; simp only [dat] at e; cases e
  have ob:∀ {a:Addr} {n:Nat} {d:PyData} {u:Value},dat (.obj n)=some d→RelV (.ref a) u→∃ bs,Reads s.heap u d bs:=by
    intro a n d u e; simp only [dat] at e; cases e
  exact ⟨fun h=>Rep.rec (motive_1:=fun v t _=>∀ {d:PyData} {u:Value},dat t=some d→RelV v u→∃ bs,Reads s.heap u d bs) (motive_2:=fun vs ts _=>∀ {ds:List PyData} {us:List Value},Fz ts=some ds→Vals vs us→∃ bs,ReadsAll s.heap us ds bs) (motive_3:=fun _ _ _=>True) no bo it st tp ls (fun _ _ _=>di) (fun _=>ob) nl cn trivial (fun _ _ _ _=>trivial) h,
    fun h=>m7.rec (motive_1:=fun v t _=>∀ {d:PyData} {u:Value},dat t=some d→RelV v u→∃ bs,Reads s.heap u d bs) (motive_2:=fun vs ts _=>∀ {ds:List PyData} {us:List Value},Fz ts=some ds→Vals vs us→∃ bs,ReadsAll s.heap us ds bs) (motive_3:=fun _ _ _=>True) no bo it st tp ls (fun _ _ _=>di) (fun _=>ob) nl cn trivial (fun _ _ _ _=>trivial) h⟩
theorem Rep.reads (I:L2.Inv X pins σ H s) (sub:Same S H) {v:V} {t:T} (h:Rep X.K S as v t) {d:PyData} {u:Value} (e:dat t=some d) (r:RelV v u):∃ bs,Reads s.heap u d bs:=(Yu I sub).1 h e r
theorem a4b (I:L2.Inv X pins σ H s) (sub:Same S H) {x y:V} {t u:T} {v w:Value} {b:Bool} {A:Around} (hx:Rep X.K S as x t) (hy:Rep X.K S as y u) (rx:RelV x v) (ry:RelV y w) (e:eqD t u=some b) (hu:A.units+40<cLine):SeqAt.EqAt A s v w b:=by
  obtain ⟨dx,dy,e1,e2,hd,rfl⟩:=Rp e
  obtain ⟨b1,x1⟩:=hx.reads I sub e1 rx
  obtain ⟨b2,x2⟩:=hy.reads I sub e2 ry
  exact SeqAt.eqAt_reads dx dy A s v w b1 b2 x1 x2 (Ce _ e1) (Ce _ e2) (by have:=Nat.min_le_left dx.depth dy.depth; (clear this x2 x1 e e2 e1 ry rx hy hx sub I; omega))
theorem Zj (I:L2.Inv X pins σ H s) (sub:Same S H) {A:Around} (hu:A.units+40<cLine) {kb:List (L2.Key × V)} {ub:List (L2.Key × T)} {wb:List (L2.Key × Value)} (rb:Ac X.K S as kb ub) (vb:KV kb wb) :
    ∀ {ka:List (L2.Key × V)} {ua:List (L2.Key × T)} {wa:List (L2.Key × Value)} {r:Bool},Ac X.K S as ka ua→KV ka wa→a7j ua ub=some r→PySem.W.KeqHits A s wb wa r
  | _,[],_,_,h0,va,e=>by
    cases h0
    simp only [a7j] at e; cases e
    cases va
    exact .nil
  | _,(k,_)::_,_,_,h0,va,e=>by
    cases h0 with | cons h q=>?_
    simp only [a7j] at e
    cases va with
    | @cons _ p2 _ _ hp hr =>
      obtain ⟨pk,pv⟩:=p2
      obtain ⟨ek,rv⟩:=hp
      dsimp only at ek rv
      subst ek
      rcases rb.get k with ⟨z,t',a1,a2,a3⟩ | ⟨a1,a2⟩
      · rw [a2] at e
        dsimp only at e
        have rel:=KV.val vb k
        rw [a1] at rel
        obtain ⟨w',hw,rw'⟩:=Qy.some_of rel
        split at e
        · rename_i eb he
          obtain ⟨b',e1,e2⟩:=Option.map_eq_some_iff.mp e
          subst e2
          exact .hit hw (a4b I sub h a3 rv rw' he hu) (Zj I sub hu rb vb q hr e1)
        · cases e
      · rw [a2] at e
        cases e
        have rel:=KV.val vb k
        rw [a1] at rel
        exact .miss (Qy.none_of rel)
end
section
variable {X:Cx}
theorem Ph {op:CmpOp} {neg:Bool} (hop:(op=.Eq∧neg=false)∨(op=.NotEq∧neg=true)) {g:T→T→Option T} (hg:∀ t u w,g t u=some w→∃ b,eqT t u=some b∧w=.bl (xor neg b)) (hu:X.A.units+64<cLine):OpT X (compareOp op) g:=by
  intro pins s σ H x y v u Q I rx ry z8
  obtain ⟨S,as,t,t2,w,sub,ht,hu2,hf,q⟩:=z8
  obtain ⟨b,e,rfl⟩:=hg _ _ _ hf
  have fin:EP X pins σ Q (.bool (xor neg b)) s:=⟨.bl (xor neg b),H,I,rfl,q _ H S (Ext.refl sub) (.bl _)⟩
  rcases a6i e with ⟨xs,ys,rfl,rfl,hd⟩ | he
  · cases ht with
    | @dic a kvs _ g1 g2 =>
      cases hu2 with
      | @dic a' kvs' _ k1 k2 =>
        cases rx
        cases ry
        obtain ⟨z,hs,vs,rel,dd⟩:=Kz I.hok (yp sub g1)
        obtain ⟨z',hs',vs',rel',dd'⟩:=Kz I.hok (yp sub k1)
        have l1:vs.length=xs.length:=by rw [← rel.length]; exact g2.length
        have l2:vs'.length=ys.length:=by rw [← rel'.length]; exact k2.length
        have hu1:X.A.in1.units+40<cLine:=by show X.A.units+1+40<cLine; (clear l2 l1 dd' rel' hs' z' dd rel hs z k2 k1 g2 g1 hf e hd fin q sub I hg hop; omega)
        rcases hd with ⟨hl,eb⟩ | ⟨hl,rfl⟩
        · have hits:vs.length=vs'.length→PySem.W.KeqHits X.A.in1 s vs' vs b:=fun _=>Zj I sub hu1 k2 rel' g2 rel eb
          have el:(vs.length==vs'.length)=true:=by rw [l1,l2,hl]; exact beq_self_eq_true _
          rcases hop with ⟨rfl,rfl⟩ | ⟨rfl,rfl⟩
          · refine PySem.W.keq_eq hs hs' dd dd' (by (clear hf fin q hg el hits eb hl hu1 l2 l1 dd' rel' hs' z' dd rel hs z k2 k1 g2 g1 e sub I; omega)) hits ?_
            rw [el]; simpa using fin
          · refine PySem.W.keq_ne hs hs' dd dd' (by (clear hf fin q hg el hits eb hl hu1 l2 l1 dd' rel' hs' z' dd rel hs z k2 k1 g2 g1 e sub I; omega)) hits ?_
            rw [el]; simpa using fin
        · have hits:vs.length=vs'.length→PySem.W.KeqHits X.A.in1 s vs' vs true:=fun h=>absurd (by rw [← l1,← l2]; exact h) hl
          have el:(vs.length==vs'.length)=false:=by rw [l1,l2]; exact beq_eq_false_iff_ne.mpr hl
          rcases hop with ⟨rfl,rfl⟩ | ⟨rfl,rfl⟩
          · refine PySem.W.keq_eq hs hs' dd dd' (by (clear hf fin q hg el hits e hl hu1 l2 l1 dd' rel' hs' z' dd rel hs z k2 k1 g2 g1 sub I; omega)) hits ?_
            rw [el]; simpa using fin
          · refine PySem.W.keq_ne hs hs' dd dd' (by (clear hf fin q hg el hits e hl hu1 l2 l1 dd' rel' hs' z' dd rel hs z k2 k1 g2 g1 sub I; omega)) hits ?_
            rw [el]; simpa using fin
  · obtain ⟨dx,dy,e1,e2,hd,rfl⟩:=Rp he
    obtain ⟨b1,x1⟩:=ht.reads I sub e1 rx
    obtain ⟨b2,x2⟩:=hu2.reads I sub e2 ry
    have hm:X.A.units+min dx.depth dy.depth<cLine:=by have:=Nat.min_le_left dx.depth dy.depth; (clear this x2 x1 he fin q hf e e2 e1 hu2 ht sub ry rx I hg hop; omega)
    rcases hop with ⟨rfl,rfl⟩ | ⟨rfl,rfl⟩
    · exact SeqAt.compareEq_reads x1 x2 (Ce _ e1) (Ce _ e2) hm (by simpa using fin)
    · exact SeqAt.compareNe_reads x1 x2 (Ce _ e1) (Ce _ e2) hm (by simpa using fin)
theorem m5 (hu:X.A.units+64<cLine):OpT X (compareOp .Eq) eqO:=Ph (.inl ⟨rfl,rfl⟩) (fun t u w h=>by
  unfold eqO at h
  split at h
  · rename_i b e; cases h; exact ⟨b,e,by simp⟩
  · cases h) hu
theorem Oh (hu:X.A.units+64<cLine):OpT X (compareOp .NotEq) neO:=Ph (.inr ⟨rfl,rfl⟩) (fun t u w h=>by
  unfold neO at h
  split at h
  · rename_i b e; cases h; exact ⟨b,e,by simp⟩
  · cases h) hu
open Classical in
noncomputable def a4j (h:Heap) (dx:PyData) (y:Value):Bool:=if e:∃ d bs,Reads h y d bs∧d.canLay0=true then PyData.eqv (Classical.choose e) dx else false
theorem a4o {h:Heap} {dx d:PyData} {y:Value} {bs:List Addr} (r:Reads h y d bs) (l:d.canLay0=true):a4j h dx y=PyData.eqv d dx:=by
  have e:∃ d bs,Reads h y d bs∧d.canLay0=true:=⟨d,bs,r,l⟩
  unfold a4j
  rw [dif_pos e]
  obtain ⟨bs',r',l'⟩:=Classical.choose_spec e
  rw [SeqAt.Reads.unique _ _ _ _ _ l' r' r]
theorem Xy {pins:List (Addr × Obj)} {σ:L2.St} {H S:Hp} {s:Shared} {as:List Addr} {A:Around} (I:L2.Inv X pins σ H s) (sub:Same S H) (hu:A.units+40<cLine) {x:V} {t:T} {v:Value} {dx:PyData} (hx:Rep X.K S as x t) (rx:RelV x v) (ex:dat t=some dx) :
    ∀ {vs:List V} {ts:List T} {us:List Value} {b:Bool},m7 X.K S as vs ts→Vals vs us→inL t ts=some b→(∀ y∈us,SeqAt.EqAt A s y v (a4j s.heap dx y))∧us.any (a4j s.heap dx)=b
  | _,[],_,_,h0,r,e=>by cases h0; simp only [inL] at e; cases e; cases r; exact ⟨fun y h=>(nomatch h),rfl⟩
  | _,_::_,_,_,h0,r,e=>by
    cases h0 with | cons h q=>?_
    simp only [inL] at e
    cases r with
    | @cons _ u1 _ us1 r1 r2 =>
      split at e
      · rename_i eb he
        obtain ⟨b',e1,e2⟩:=Option.map_eq_some_iff.mp e
        subst e2
        obtain ⟨i1,i2⟩:=Xy I sub hu hx rx ex q r2 e1
        obtain ⟨dy,dx',f1,f2,hd,rfl⟩:=Rp he
        rw [ex] at f2; cases f2
        obtain ⟨b1,x1⟩:=h.reads I sub f1 r1
        have hb:=a4o (dx:=dx) x1 (Ce _ f1)
        refine ⟨fun y hy=>?_,by rw [List.any_cons,i2,hb]⟩
        rcases List.mem_cons.mp hy with rfl | hy -- here
        · rw [hb]; exact a4b I sub h hx r1 rx he hu
        · exact i1 y hy
      · cases e
theorem Xx {t u w:T} (h:inT t u=some w):(∃ ys b,(u=.tup ys∨u=.lst ys)∧inL t ys=some b∧(dat t).isSome=true∧w=.bl b)∨(∃ kvs q,u=.dic kvs∧keyOf t=some q∧w=.bl (Cm q kvs).isSome):=by
  unfold inT at h
  split at h
  · obtain ⟨q,e1,e2⟩:=Option.map_eq_some_iff.mp h
    exact .inr ⟨_,q,rfl,e1,e2.symm⟩
  · split at h
    · rename_i hd
      split at h
      · obtain ⟨b,e1,e2⟩:=Option.map_eq_some_iff.mp h; exact .inl ⟨_,b,.inl rfl,e1,hd,e2.symm⟩
      · obtain ⟨b,e1,e2⟩:=Option.map_eq_some_iff.mp h; exact .inl ⟨_,b,.inr rfl,e1,hd,e2.symm⟩
      · cases h
    · cases h
theorem Pb {op:CmpOp} {neg:Bool} (hop:(op=.In∧neg=false)∨(op=.NotIn∧neg=true)) {g:T→T→Option T} (hg:∀ t u w,g t u=some w→∃ w',inT t u=some w'∧∃ b,w'=.bl b∧w=.bl (xor neg b)) (hu:X.A.units+64<cLine):OpT X (compareOp op) g:=by
  intro pins s σ H x y v u Q I rx ry z8
  obtain ⟨S,as,t,t2,w,sub,ht,hu2,hf,q⟩:=z8
  obtain ⟨w',ei,b0,rfl,rfl⟩:=hg _ _ _ hf
  rcases Xx ei with ⟨ys,b,hy,e,hdt,eb⟩ | ⟨kvs,qk,rfl,ek,eb⟩
  · cases eb
    obtain ⟨dx,ex⟩:=Option.isSome_iff_exists.mp hdt
    have fin:EP X pins σ Q (.bool (xor neg b0)) s:=⟨.bl (xor neg b0),H,I,rfl,q _ H S (Ext.refl sub) (.bl _)⟩
    have hu1:X.A.in1.units+40<cLine:=by show X.A.units+1+40<cLine; (clear fin ex e hdt hy q hf ei hu2 ht sub ry rx I hg hop; omega)
    rcases hy with rfl | rfl
    · cases hu2 with
      | @tup a vs _ g1 g2 =>
        cases ry
        obtain ⟨its,r,p,hz⟩:=I.tuple (ju sub g1)
        obtain ⟨i1,i2⟩:=Xy I sub hu1 ht rx ex g2 r e
        have he:∀ y,y∈its.toArray→SeqAt.EqAt X.A.in1 s y v (a4j s.heap dx y):=fun y hy=>i1 y (by simpa using hy)
        have ha:its.toArray.any (a4j s.heap dx)=b0:=by rw [← i2]; simp
        rcases hop with ⟨rfl,rfl⟩ | ⟨rfl,rfl⟩
        · exact SeqAt.in_tupleAt _ (show s.heap.IsTuple a its.toArray from p) he (by rw [ha]; simpa using fin)
        · exact SeqAt.notIn_tupleAt _ (show s.heap.IsTuple a its.toArray from p) he (by rw [ha]; simpa using fin)
    · cases hu2 with
      | @lst a vs _ g1 g2 =>
        cases ry
        obtain ⟨its,r,p,hz⟩:=I.list (ji sub g1)
        obtain ⟨i1,i2⟩:=Xy I sub hu1 ht rx ex g2 r e
        have he:∀ y,y∈its.toArray→SeqAt.EqAt X.A.in1 s y v (a4j s.heap dx y):=fun y hy=>i1 y (by simpa using hy)
        have ha:its.toArray.any (a4j s.heap dx)=b0:=by rw [← i2]; simp
        rcases hop with ⟨rfl,rfl⟩ | ⟨rfl,rfl⟩
        · exact SeqAt.in_listAt _ p.isList he (by rw [ha]; simpa using fin)
        · exact SeqAt.notIn_listAt _ p.isList he (by rw [ha]; simpa using fin)
  · cases eb
    cases hu2 with
    | @dic a kv _ g1 g2 =>
      cases ry
      have ey:=Vc ht ek
      subst ey
      have hs:(Cm qk kvs).isSome=(R9 kv qk).isSome:=by
        rcases g2.get qk with ⟨z,t',a1,a2,_⟩ | ⟨a1,a2⟩
        · simp [a1,a2]
        · simp [a1,a2]
      rw [hs] at q
      have gd:Xm H a (kV qk) (R9 kv qk):=.inl ⟨kv,qk,yp sub g1,rfl,rfl⟩
      rcases hop with ⟨rfl,rfl⟩ | ⟨rfl,rfl⟩
      · exact adf (by (clear q hf hg gd hs ht rx g2 g1 ei ek sub I; omega)) I gd rx fun s' I'=>⟨.bl _,H,I',rfl,by simpa using q _ H S (Ext.refl sub) (.bl _)⟩
      · exact a6r (by (clear q hf hg gd hs ht rx g2 g1 ei ek sub I; omega)) I gd rx fun s' I'=>⟨.bl _,H,I',rfl,by simpa using q _ H S (Ext.refl sub) (.bl _)⟩
theorem U6 (hu:X.A.units+64<cLine):OpT X (compareOp .In) inT:=Pb (.inl ⟨rfl,rfl⟩) (fun t u w h=>by
  rcases Xx h with ⟨ys,b,h1,h2,h3,rfl⟩ | ⟨kvs,q,rfl,h2,rfl⟩
  · exact ⟨_,h,b,rfl,by simp⟩
  · exact ⟨_,h,_,rfl,by simp⟩) hu
theorem Jp (hu:X.A.units+64<cLine):OpT X (compareOp .NotIn) Cj:=Pb (.inr ⟨rfl,rfl⟩) (fun t u w h=>by
  unfold Cj at h
  split at h
  · rename_i b e
    cases h
    exact ⟨_,e,b,rfl,by simp⟩
  · cases h) hu
end
end C
end
section
namespace C
open PySem PySem.Spec PyProof.Rows L2
def ad6 (K:PySem.W.Frag) (ar:Nat) (F:Fn):Sp:=fun vs H Q _=>∃ S as sto ts t sto',Same S H∧Fe K S as H sto∧m7 K S as vs ts∧ts.length=ar∧F ts sto=some (t,sto') ∧
  ∀ p H' S' as',Us ⟨S,as,H⟩ S' as' H'→Same S' H'→Fe K S' as' H' sto'→Lh K ⟨S,as,H⟩ S' as' H' p t→Q (.ref p) H'
theorem a77 {g:G} {m:M T} {s s':Sta} {fl:Flow} (h:sGo g m s=some (fl,s')):∃ t s1,m s=some (t,s1)∧g t s1=some s'∧fl=.next:=by
  unfold sGo at h
  split at h
  · rename_i t s1 e
    split at h
    · rename_i s2 e2; cases h; exact ⟨t,s1,e,e2,rfl⟩
    · cases h
  · cases h
section
variable {X:Cx} {B:Bas} {a b c e:Expr} {m m1 m2:M T} {pos p:Pos} {u v:S} {es:List Expr} {ms:M (List T)} {k n:Nat} {f:Addr} {fd:FuncData} {pn:List Str} {F:Fn} {x:Str}
theorem a2v {g:G} {s:Stmt} (h:PS X s (a3p (tOf X.K B m) (gOf X.K B g))):PS X s (sOf X.K B (sGo g m)):=h.imp fun D σ H z9=>by
  obtain ⟨st,ps,S,as,R,fl,st',e,q⟩:=z9
  obtain ⟨t,s1,e1,e2,rfl⟩:=a77 e
  exact ⟨st,ps,S,as,R,t,s1,e1,fun v H' S' as' R'=>⟨s1,ps,S',as',t,R',st',e2,fun σ' H'' S'' as'' R''=>q σ' H'' S'' as'' R''⟩⟩
theorem Tr {is:List Nat} {env:List Slot} {j:Nat} {t:T} {f:Bool} (h:(lend is env)[j]? = some (some (t,f))):f=false∧∃ g,env[j]? = some (some (t,g))∧(g=true→j∈is):=by
  unfold lend at h
  rw [List.getElem?_mapIdx] at h
  obtain ⟨x,e1,e2⟩:=Option.map_eq_some_iff.mp h
  cases x with
  | none=>cases e2
  | some p =>
    obtain ⟨t',g⟩:=p
    dsimp only at e2
    cases g with
    | false=>simp at e2; obtain ⟨rfl,rfl⟩:=e2; exact ⟨rfl,false,e1,fun z=>by cases z⟩
    | true =>
      by_cases hj:j∈is
      · simp [hj] at e2; obtain ⟨rfl,rfl⟩:=e2; exact ⟨rfl,true,e1,fun _=>hj⟩
      · simp [hj] at e2
end
def Y7 (P:Program) (w:World) (K:PySem.W.Frag) (mg:Str→Option Value) (base:Heap) (x:Str) (k:Nat) (ps:List Str) (F:Fn):Prop :=
  ∃ f fd,Fg P w K mg base CX0 k f fd ps (ad6 K ps.length F)∧Binds K fd ps []∧PySem.W.keepIn K (.ref f)=true∧mg x=some (.ref f)
theorem Y7.mono {P:Program} {w:World} {K:PySem.W.Frag} {mg:Str→Option Value} {base:Heap} {x:Str} {j k:Nat} {ps:List Str} {F:Fn} (d:Y7 P w K mg base x j ps F) (h:j≤k):Y7 P w K mg base x k ps F:=by
  obtain ⟨f,fd,h1,h2⟩:=d
  exact ⟨f,fd,h1.mono h,h2⟩
section
variable {X:Cx} {B:Bas} {a b c e:Expr} {m m1 m2:M T} {pos p:Pos} {es:List Expr} {ms:M (List T)} {n:Nat} {pn:List Str} {F:Fn} {x:Str}
end
section
variable {P:Program} {w:World} {K:PySem.W.Frag} {mg:Str→Option Value} {base:Heap}
end
end C
end
section
namespace C
open PySem PySem.Spec PyProof.Rows L2
section
variable {X:Cx} {B:Bas} {a b c e:Expr} {m m1 m2:M T} {pos p p2 pos2:Pos}
def Ww:List Nat→TGs
  | []=>ac4
  | i::is=>a8p (Mv i) (Ww is)
theorem V6 {K:PySem.W.Frag} {H S:Hp} {as:List Addr} {ps:List (V × T)}:∀ (is:List Nat) {vs:List V} {xs:List T} {st:Sta} {σ:L2.St} {Q:L2.St→Hp→Prop},Rel K B st σ H ps S as→m7 K S as vs xs→xs.length=is.length →
    (∀ σ',Rel K B ((is.zip xs).foldl (fun s p=>jf p.1 p.2 false s) st) σ' H ps S as→Q σ' H)→Ww is vs σ H Q
  | [],_,_,_,_,_,R,.nil,_,q=>⟨rfl,q _ R⟩
  | i::is,_,_,_,_,_,R,.cons r rs,hl,q=>⟨_,_,rfl,V6 is (R.put (i:=i) r) rs (by simpa using hl) q⟩
  | [],_,_,_,_,_,_,.cons _ _,hl,_=>by simp at hl
  | _::_,_,_,_,_,_,_,.nil,hl,_=>by simp at hl
theorem Dj {is:List Nat} {tg:Expr} (h:PG X tg (acf X.K is.length (Ww is))):PG X tg (gOf X.K B (Ej is)):=fun pins s σ H x u Q I r z9=>h pins s σ H x u Q I r (by
  obtain ⟨st,ps,S,as,t,R,st',e,q⟩:=z9
  have top:=R.top
  cases t with
  | tup xs =>
    cases top with
    | @tup a vs _ g1 g2 =>
      obtain ⟨hl,e⟩:=zf e
      cases e
      exact ⟨a,vs,rfl,ju R.sub g1,by rw [g2.length]; exact hl,V6 is R.drop g2 hl fun σ' R'=>q σ' H S as R'⟩
  | _=>exact jm e)
end
end C
namespace C
open PySem PySem.Spec PyProof.Rows L2
end C
end
section
namespace C
open PySem PySem.Spec PyProof.Rows L2
section
variable {X:Cx} {B:Bas} {a b c e lo hi:Expr} {m m1 m2 ml mh:M T} {pos p p2:Pos}
theorem Ov {K:PySem.W.Frag} {S:Hp} {as:List Addr} {x:V} {t:T} (r:Rep K S as x t):decide (x=V.non)=Vg t:=by
  cases r <;> rfl
theorem Ui {K:PySem.W.Frag} {S:Hp} {as:List Addr} {x:V} {t:T} (r:Rep K S as x t) (h:Vg t=true):x=.non:=by
  cases r <;> first | rfl | cases h
theorem a3v:OpT X (compareOp .Is) Zq:=by
  intro pins s σ H x y v u Q I rx ry z8
  obtain ⟨S,as,t,t2,w,sub,ht,hu2,hf,q⟩:=z8
  unfold Zq at hf
  split at hf
  · rename_i hn; cases hf
    exact a7o pins s σ H x y v u Q I rx ry ⟨Ui hu2 hn,by rw [Ov ht]; exact q _ H S (Ext.refl sub) (.bl _)⟩
  · cases hf
theorem Jo:OpT X (compareOp .IsNot) Bj:=by
  intro pins s σ H x y v u Q I rx ry z8
  obtain ⟨S,as,t,t2,w,sub,ht,hu2,hf,q⟩:=z8
  unfold Bj at hf
  split at hf
  · rename_i hn; cases hf
    exact a5n pins s σ H x y v u Q I rx ry ⟨Ui hu2 hn,by rw [Ov ht]; exact q _ H S (Ext.refl sub) (.bl _)⟩
  · cases hf
theorem m7.take {K:PySem.W.Frag} {S:Hp} {as:List Addr}:∀ (n:Nat) {vs:List V} {ts:List T},m7 K S as vs ts→m7 K S as (vs.take n) (ts.take n)
  | 0,_,_,_=>.nil
  | _+1,_,_,.nil=>.nil
  | n+1,_,_,.cons h r=>.cons h (m7.take n r)
end
end C
end
section
namespace C
open PySem PySem.Spec PyProof.Rows L2
theorem W0 {o k:M T} {s s':Sta} {t:T} (h:Ab o k s=some (t,s')):∃ n s1 i xs j,o s=some (.obj n,s1)∧k s1=some (.int i,s')∧s'.sto[n]? = some (.lst xs)∧ixI xs.length i=some j∧xs[j]? = some t:=by
  unfold Ab at h
  split at h
  · rename_i n s1 e1
    split at h
    · rename_i i s2 e2
      split at h
      · rename_i xs e3
        split at h
        · rename_i t' e4
          cases h
          obtain ⟨j,e5,e6⟩:=Option.bind_eq_some_iff.mp e4
          exact ⟨n,s1,i,xs,j,e1,e2,e3,e5,e6⟩
        · cases h
      · cases h
    · cases h
  · cases h
theorem T7 {o:M T} {s s':Sta} {t:T} (h:Dz o s=some (t,s')):∃ n xs,o s=some (.obj n,s')∧s'.sto[n]? = some (.lst xs)∧t=.int xs.length:=by
  unfold Dz at h
  split at h
  · rename_i n s1 e1
    split at h
    · rename_i xs e3; cases h; exact ⟨n,xs,e1,e3,rfl⟩
    · cases h
  · cases h
theorem Te {a:M (List T)} {s s':Sta} {t:T} (h:Ec a s=some (t,s')):∃ ts s1,a s=some (ts,s1)∧t=.obj s1.sto.length∧s' = { s1 with sto:=s1.sto++[.lst ts] }:=by
  unfold Ec at h
  split at h
  · rename_i ts s1 e1; cases h; exact ⟨ts,s1,e1,rfl,rfl⟩
  · cases h
theorem Vx {o k v:M T} {s s':Sta} {fl:Flow} (h:En o k v s=some (fl,s')) :
    ∃ t s1 n s2 i s3 xs j,v s=some (t,s1)∧o s1=some (.obj n,s2)∧k s2=some (.int i,s3)∧s3.sto[n]? = some (.lst xs)∧ixI xs.length i=some j∧fl=.next∧s' = { s3 with sto:=s3.sto.set n (.lst (xs.set j t)) }:=by
  unfold En at h
  split at h
  · rename_i t s1 e
    split at h
    · rename_i n s2 eo
      split at h
      · rename_i i s3 ek
        split at h
        · rename_i xs ex
          split at h
          · rename_i j ej; cases h; exact ⟨t,s1,n,s2,i,s3,xs,j,e,eo,ek,ex,ej,rfl,rfl⟩
          · cases h
        · cases h
      · cases h
    · cases h
  · cases h
theorem T3 {i:Nat} {v:M T} {s s':Sta} {fl:Flow} (h:K9 i v s=some (fl,s')) :
    ∃ n ys t s1 xs,s.env[i]? = some (some (.obj n,false))∧s.sto[n]? = some (.lst ys)∧v s=some (t,s1)∧s1.sto[n]? = some (.lst xs)∧xs.length<lim∧fl=.next∧s' = { s1 with sto:=s1.sto.set n (.lst (xs++[t])) }:=by
  unfold K9 at h
  split at h
  · rename_i n e
    split at h
    · rename_i ys ey
      split at h
      · rename_i t s1 ev'
        split at h
        · rename_i xs ex
          split at h
          · rename_i hl; cases h; exact ⟨n,ys,t,s1,xs,e,ey,ev',ex,hl,rfl,rfl⟩
          · cases h
        · cases h
      · cases h
    · cases h
  · cases h
theorem m7.set {K:PySem.W.Frag} {S:Hp} {as:List Addr} {v:V} {t:T} (h:Rep K S as v t):∀ {vs:List V} {ts:List T} (j:Nat),m7 K S as vs ts→m7 K S as (vs.set j v) (ts.set j t)
  | _,_,_,.nil=>.nil
  | _,_,0,.cons _ r=>.cons h r
  | _,_,j+1,.cons q r=>.cons q (m7.set h j r)
section
variable {X:Cx} {B:Bas} {a b c e o k:Expr} {m mo mk mv:M T} {pos p:Pos}
theorem Ad (ho:PE X o (tOf X.K B mo)) (hk:PE X k (tOf X.K B mk)) (hs:Nm k):PE X (.Subscript o k pos) (tOf X.K B (Ab mo mk)):=(a5x Sh ho hk hs).imp fun σ H Q z9=>by
  obtain ⟨st,ps,S,as,R,t,st',e,q⟩:=z9
  obtain ⟨n,s1,i,xs,j,e1,e2,e3,e4,e5⟩:=W0 e
  refine ⟨st,ps,S,as,R,_,s1,e1,fun v H1 S1 as1 R1=>⟨s1,_,S1,as1,R1,_,st',e2,fun u H2 S2 as2 R2=>?_⟩⟩
  have t2:=R2.top2
  cases R2.top
  cases t2 with
  | @obj _ a ha =>
    obtain ⟨a',h1,h2,vs,h3,h4⟩:=R2.sto.at' n _ e3
    rw [ha] at h1; cases h1
    obtain ⟨z,hz,rz⟩:=h4.get e5
    refine ⟨a,vs,i,z,rfl,rfl,SqL.of h3,?_,q z H2 S2 as2 (R2.drop.drop.push rz)⟩
    rw [Ls,← h4.length] at e4
    unfold atI; rw [e4]; exact hz
theorem Yy (hg:Gl X "len") (hm:X.mg "len" = none) (ho:PE X o (tOf X.K B mo)) (he:starEach [o] X.env=(false,eval o X.env)::starEach [] X.env:=by rfl) (hpl:(backTo pos (starEach [] X.env)).any (·.1)=false:=by rfl) :
    PE X (.Call (.Name "len" p) [o] [] pos) (tOf X.K B (Dz mo)):=(u6 Az hg hm PySem.boot_len (jt ho wz he) (by decide) (by decide) he hpl).imp fun σ H Q z9=>by
  obtain ⟨st,ps,S,as,R,t,st',e,q⟩:=z9
  obtain ⟨n,xs,e1,e2,rfl⟩:=T7 e
  refine ⟨st,ps,S,as,R,_,st',e1,fun v H1 S1 as1 R1=>?_⟩
  have t1:=R1.top
  cases t1 with
  | @obj _ a ha =>
    obtain ⟨a',h1,h2,vs,h3,h4⟩:=R1.sto.at' n _ e2
    rw [ha] at h1; cases h1
    exact ⟨a,vs,rfl,.inl (SqL.of h3),by rw [h4.length]; exact q _ H1 S1 as1 (R1.drop.push (.int _))⟩
theorem Px {es:List Expr} {ms:M (List T)} (h:PA X es (aOf X.K B ms)) (hm:∀ st ts st',ms st=some (ts,st')→ts.length≤1000):PE X (.List es pos) (tOf X.K B (Ec ms)) :=
  (V0 h).imp fun σ H Q z9=>by
    obtain ⟨st,ps,S,as,R,t,st',e,q⟩:=z9
    obtain ⟨ts,s1,e1,rfl,rfl⟩:=Te e
    refine ⟨st,ps,S,as,R,ts,s1,e1,fun vs H1 S1 as1 R1 rs=>⟨?_,fun p hp=>?_⟩⟩
    · rw [rs.length]; exact Nat.le_of_lt (Dw (hm _ _ _ e1))
    · exact q _ _ _ _ (R1.newObj hp ⟨vs,dj,rs.mono (Same.refl _) ⟨[p],rfl⟩⟩)
theorem Iw {st:Stmt} (h:PS X st (a3p (tOf X.K B mv) (acg (tOf X.K B mo) (tOf X.K B mk) a7y))):PS X st (sOf X.K B (En mo mk mv)):=h.imp fun D σ H z9=>by
  obtain ⟨st,ps,S,as,R,fl,st',e,q⟩:=z9
  obtain ⟨t,s1,n,s2,i,s3,xs,j,e1,e2,e3,e4,e5,rfl,rfl⟩:=Vx e
  refine ⟨st,ps,S,as,R,t,s1,e1,fun v H1 S1 as1 R1=>⟨s1,_,S1,as1,R1,_,s2,e2,fun x H2 S2 as2 R2=>⟨s2,_,S2,as2,R2,_,s3,e3,fun y H3 S3 as3 R3=>?_⟩⟩⟩
  have t2:=R3.top2
  cases R3.top
  cases t2 with
  | @obj _ a ha =>
    obtain ⟨a',h1,h2,vs,h3,h4⟩:=R3.sto.at' n _ e4
    rw [ha] at h1; cases h1
    have tv:Rep X.K S3 as3 v t:=R3.pend _ (List.mem_cons_of_mem _ (List.mem_cons_of_mem _ List.mem_cons_self))
    rw [Ls,← h4.length] at e5
    exact ⟨a,vs,i,j,rfl,rfl,h3,e5,q _ _ S3 as3 (R3.drop.drop.drop.a3j e4 ha ⟨_,dj,m7.set tv j h4⟩)⟩
theorem a07 (i:Nat) {st:Stmt} (h:PS X st (a6a (tBM X.K "list" Sx (W9 i) (Pj (tOf X.K B mv) a7e)))):PS X st (sOf X.K B (K9 i mv)):=h.imp fun D σ H z9=>by
  obtain ⟨st,ps,S,as,R,fl,st',e,q⟩:=z9
  obtain ⟨n,ys,t,s1,xs,e0,ey,e1,e2,hl,rfl,rfl⟩:=T3 e
  obtain ⟨w,h1,h2,_⟩:=R.slots i _ false e0
  have r0:=h2 rfl
  cases r0 with
  | @obj _ a ha =>
    obtain ⟨a0,l0,_,vs0,l1,_⟩:=R.sto.at' n _ ey
    rw [ha] at l0; cases l0
    refine ⟨_,h1,.inl ⟨rfl,_,SqL.of l1⟩,st,(.ref a,.obj n)::ps,S,as,R.push (h2 rfl),t,s1,e1,fun v H1 S1 as1 R1=>?_⟩
    have t2:=R1.top2
    cases t2 with
    | @obj _ a2 ha2 =>
      obtain ⟨a',k1,k2,vs,k3,k4⟩:=R1.sto.at' n _ e2
      rw [ha2] at k1; cases k1
      exact ⟨a,vs,v,rfl,rfl,k3,by rw [k4.length]; exact Nat.lt_of_lt_of_le hl lq,q _ _ S1 as1 (R1.drop.drop.a3j e2 ha2 ⟨_,dj,k4.append (.cons R1.top .nil)⟩)⟩
end
end C
end
section
namespace C
open PySem PySem.Spec PyProof.Rows L2
section
variable {X:Cx} {B:Bas} {pins:List (Addr × Obj)} {σ:L2.St} {H S:Hp} {s:Shared} {as:List Addr} {Q:VK}
theorem gather {R:List Value→Shared→Prop} {A:Around} {E:Value→Shared→Prop} {T:String} {r d:Addr} {n:Nat} {P:Nat→Value→Prop} {OK:Heap→Prop} (KS:PySem.W.KdlSrc X.prog X.w T r d n P OK) (nh:A.handled=none) (ok0:OK s.heap) (sz:n≤sizeLine)
    (k:∀ (h1:Heap) (tk:Nat) (got:Array Value),s.heap.objs.size<h1.objs.size→(∀ b o,s.heap.get? b=some o→h1.get? b=some o)→ItemsOf P got n→R got.toList { s with heap:=h1,toks:=tk }) :
    wpAny (model X.prog X.w) A (collect (.ref r)) R E s:=by
  have lt0:=KS.there _ ok0
  unfold collect
  refine wpAny_bind (wpAny_runValue
    (codeAny_builtin entry_proto_collect' ?_))
  rw [Around.under_plainId
    PySem.F.plain_proto_collect _]
  show wpAny _ A.in1 (newList [] >>= fun z=>again (.builtin "list.__iadd__" ⟨[z,.ref r],[]⟩)) _ _ s
  refine wpAny_bind (wpAny_newObj_type (wpAny_pure ⟨plainId_quiet PySem.F.plain_list_iadd _,codeAny_builtin entry_list_iadd' ?_⟩))
  rw [Around.under_plainId
    PySem.F.plain_list_iadd _]
  change wpAny _ A.in1 (Builtin.List.listExtendWith (.ref s.heap.objs.size) (.ref r) (.ref s.heap.objs.size)) _ _ _
  have new0:(s.heap.push { cls:=.type "list",data:=.seq ([]:List Value).toArray }).get? s.heap.objs.size=some { cls:=.type "list",data:=.seq #[] }:=Heap.get?_push_size _ rfl
  have walk:=PySem.W.kdl_extend (A:=A) (s:={ s with heap:=s.heap.push { cls:=.type "list",data:=.seq ([]:List Value).toArray } })
    (R:=fun (f:Result) (s1:Shared)=>∃ (h1:Heap) (tk:Nat) (got:Array Value) (c1:Nat),f=.ok (.ret (.ref s.heap.objs.size))∧s1 = { s with heap:=h1,toks:=tk }∧(∀ b o,s.heap.get? b=some o→h1.get? b=some o) ∧
      h1.get? s.heap.objs.size=some { cls:=.type "list",dict:=none,data:=.seq got c1,slots:=#[] }∧ItemsOf P got n)
    KS nh (KS.keep _ _ ok0 fun b _ o e=>Heap.get?_push_of_some _ e) s.heap.objs.size (Nat.ne_of_gt lt0.1) (Nat.ne_of_gt lt0.2) (.ref s.heap.objs.size) 0 new0
    (fun h1 tk got c1 old at1 its=>⟨h1,tk,got,c1,rfl,rfl,fun b o e=>old b o (Nat.ne_of_lt (Heap.lt_size e)) (Heap.get?_push_of_some _ e),at1,its⟩) sz
  have last:∀ (h1:Heap) (tk:Nat) (got:Array Value) (c1:Nat),(∀ b o,s.heap.get? b=some o→h1.get? b=some o)→h1.get? s.heap.objs.size=some { cls:=.type "list",dict:=none,data:=.seq got c1,slots:=#[] }→ItemsOf P got n →
      wpAny (model X.prog X.w) A (load s.heap.objs.size >>= fun o=>match o.data with | .seq xs _=>pure xs.toList | _=>unsupported "internal:collect") R E { s with heap:=h1,toks:=tk } :=
    fun h1 tk got c1 old at1 its=>wpAny_bind (wpAny_load at1 (wpAny_pure (k h1 tk got (Heap.lt_size at1) old its)))
  refine wpAny_mono walk (fun fin s1 x=>?_) fun e s1 x=>?_
  · cases fin with
    | done f =>
      obtain ⟨h1,tk,got,c1,ef,rfl,old,at1,its⟩:=x
      cases ef
      exact last h1 tk got c1 old at1 its
    | again c =>
      refine ⟨x.1,codeAny_mono x.2 fun f s2 y=>?_⟩
      obtain ⟨h1,tk,got,c1,rfl,rfl,old,at1,its⟩:=y
      exact last h1 tk got c1 old at1 its
  · obtain ⟨_,_,_,_,ef,_⟩:=x
    cases ef
theorem Y0 {T:String} {r d:Addr} {n:Nat} {P:Nat→Value→Prop} {OK:Heap→Prop} {l:List Str} (KS:PySem.W.KdlSrc X.prog X.w T r d n P OK) (hc:X.calm=true) (I:L2.Inv X pins σ H s) (sub:Same S H) (hok:OK s.heap) (h64:n<64)
    (hi:∀ vs:List Value,vs.length=n→(∀ (j:Nat) (v:Value),vs[j]? = some v→P j v)→∃ l',StrsAre vs l'∧l'.Perm l)
    (q:∀ v H' S',Ext S H S' H'→Rep X.K S' as v (.lst ((Ae l).map .str))→Q v H'):wpAny (model X.prog X.w) X.A (call (.builtin "sorted") [.ref r]) (EP X pins σ Q) X.xe s:=by
  have hn:n≤sizeLine:=Nat.le_trans (Nat.le_of_lt h64) (by rw [sizeLine_eq]; decide)
  refine Calls.call_function_entry kind_sorted plain_sorted
    entry_sorted (args_sorted1 _) ?_
  unfold Builtin.«sorted»
  refine wpAny_bind (m:=checkCount "sorted" 1 1 _) (wpAny_pure (wpAny_bind ?_))
  refine (gather (A:=X.A.in1) KS (show X.A.in1.handled=none from I.ok.hd hc) hok hn fun h' tk acc hlt hk hacc=>?_)
  have hl:acc.toList.length=n:=Array.length_toList.trans hacc.1
  obtain ⟨l',hS,hp⟩:=hi acc.toList hl fun j v e=>hacc.2 j v (by rw [← Array.getElem?_toList]; exact e)
  refine wpAny_bind (wpAny_newList ?_ (hl ▸ hn))
  have hoL:(h'.push (seqObj "list" acc.toList.toArray 0)).get? h'.objs.size=some (seqObj "list" acc.toList.toArray 0):=Heap.get?_push_size _ rfl
  refine wpAny_bind (wpAny_holding (wpAny_call_entry slot_list_sort ⟨_,hoL,rfl⟩ entry_list_sort (list_sort_treeK strKind_oneLt hoL hS.keysOf (fun v₁ v₂ rest e=>keyKind_strs (by rw [← e]; exact hS)) (by rw [hl]; exact h64) fun st' a1 a2=>⟨_,rfl,?_⟩) (args_list_sort _)))
  refine wpAny_pure ⟨_,rfl,(?_:EP X pins σ Q _ _)⟩
  obtain ⟨ss',b1,b2,b3⟩:=sorted_out_str hS a1 a2
  have es:=Ug b3 (b2.trans hp)
  subst es
  have hle:=Nat.le_of_lt hlt
  obtain ⟨e,he⟩:=sortedHeap_at (out:=(arrOf st').map (·.2)) hoL
  have hsz:(List.map V.str (Ae l)).length≤sizeLine:=by
    rw [List.length_map,(Gq l).length_eq,← hp.length_eq,← hS.length,hl]
    exact hn
  have hnn:H h'.objs.size=none:=I.hok.fresh hle
  have x:=Ext.laid sub hnn (.lst ((Ae l).map V.str))
  refine ⟨.ref h'.objs.size,_,I.laid (a:=h'.objs.size) (o:=.lst ((Ae l).map V.str)) (t':=tk) (fun b u eb=>?_) hle ⟨hsz,_,e,Oc b1,he⟩,rfl,q _ _ _ x (.lst (SqL.of dj) (Jl _))⟩
  have hb:=Heap.lt_size (hk _ _ eb)
  rw [sortedHeap_old (Nat.ne_of_lt hb) (by rw [Heap.size_push]; exact Nat.lt_succ_of_lt hb)]
  exact Heap.get?_push_of_some _ (hk _ _ eb)
theorem Od:∀ {kvs:List (L2.Key × V)} {ts:List (L2.Key × T)} {l:List Str},kvs.map (·.1)=ts.map (·.1)→Kh (ts.map fun p=>W3 p.1)=some l→kvs.map (·.1)=l.map Sum.inr
  | [],[],l,_,h=>by simp only [List.map_nil,Kh] at h; cases h; rfl
  | (k,v)::kvs,(k2,t)::ts,l,e,h=>by
    simp only [List.map_cons,List.cons.injEq] at e
    obtain ⟨e1,e2⟩:=e
    subst e1
    cases k with
    | inl i=>simp only [List.map_cons,W3,Kh,reduceCtorEq] at h
    | inr x =>
      simp only [List.map_cons,W3,Kh] at h
      obtain ⟨l',h1,h2⟩:=Option.map_eq_some_iff.mp h
      subst h2
      rw [List.map_cons,List.map_cons,Od e2 h1]
theorem Ac.keys {K:PySem.W.Frag} {S:Hp} {as:List Addr}:∀ {kvs:List (L2.Key × V)} {ts:List (L2.Key × T)},Ac K S as kvs ts→kvs.map (·.1)=ts.map (·.1)
  | _,_,.nil=>rfl
  | _,_,.cons h q=>by rw [List.map_cons,List.map_cons,Ac.keys q]
theorem Hr {prog:Program} {w:World}:∀ {vs:List (L2.Key × Value)} {us:List Value} {l:List Str},vs.map (·.1)=l.map Sum.inr→us.length=vs.length→(∀ (j:Nat) (v:Value),us[j]? = some v→∃ k x,vs[j]? = some (k,x)∧(lg prog w).is k v=true)→StrsAre us l
  | [],us,l,e,hl,h=>by
    cases us with
    | cons _ _=>simp at hl
    | nil=>cases l with
      | nil=>exact .nil
      | cons _ _=>simp at e
  | (k,x)::vs,us,l,e,hl,h=>by
    cases us with
    | nil=>simp at hl
    | cons u us =>
      cases l with
      | nil=>simp at e
      | cons y l =>
        simp only [List.map_cons,List.cons.injEq] at e
        obtain ⟨e1,e2⟩:=e
        subst e1
        obtain ⟨k',x',h1,h2⟩:=h 0 u rfl
        simp only [List.getElem?_cons_zero,Option.some.injEq,Prod.mk.injEq] at h1
        obtain ⟨rfl,rfl⟩:=h1
        rw [V9] at h2
        have hu:∃ t,u=.str y t:=by
          rcases m9 h2 with ⟨i,t,e',_⟩ | ⟨z,t,e',hz⟩
          · cases e'
          · cases e'; exact ⟨t,hz⟩
        obtain ⟨t,rfl⟩:=hu
        exact .cons y t (Hr e2 (by simpa using hl) fun j v ev=>by simpa using h (j+1) v (by simpa using ev))
theorem Hv (hc:X.calm=true):Wi X (.builtin "sorted") K4:=by
  intro pins s σ H xs us Q I rs z8
  obtain ⟨S,as,ts,w,sub,hr,hf,q⟩:=z8
  cases hr with
  | nil=>exact jm hf
  | @cons x t xs' ts' h1 h2 =>
    cases h2 with
    | cons h3 h4=>cases h1 <;> exact jm hf
    | nil =>
      cases h1 with
      | @lst a vs ts g1 g2 =>
        obtain ⟨h64,hf⟩:=zf hf
        obtain ⟨l,e1,e2⟩:=Option.map_eq_some_iff.mp hf
        subst e2
        exact Ng pins s σ H _ us Q I rs ⟨S,as,ts,l,sub,.cons (.lst g1 g2) .nil,h64,e1,q⟩
      | @dic a kvs ts g1 g2 =>
        obtain ⟨h64,hf⟩:=zf hf
        obtain ⟨l,e1,e2⟩:=Option.map_eq_some_iff.mp hf
        subst e2
        obtain ⟨u,rfl,ru⟩:=rs.one
        cases ru
        obtain ⟨z,hd,vs,rel,dd⟩:=Kz I.hok (yp sub g1)
        obtain ⟨ep,hat⟩:=dd.dictAt
        have hlen:vs.length=ts.length:=by rw [← rel.length]; exact g2.length
        have hk:=Od g2.keys e1
        rw [KV.keys rel] at hk
        exact Y0 (PySem.W.kdl_dict (knd:=lg X.prog X.w) (kvs:=vs) (ep:=ep) hd) hc I sub hat (by rw [hlen]; exact h64) (fun us hl hp=>⟨l,Hr hk hl hp,.refl _⟩) q
      | _=>exact jm hf
end
end C
end
section
namespace C
open PySem PySem.Spec PyProof.Rows L2
section
variable {prog:Program} {w:World} {A:Around} {E:Value→Shared→Prop} {s:Shared}
theorem Lp:typeLookup (.type "list") "keys" = pure none:=am_miss_of_fast (by decide +kernel)
theorem Xq {l:Addr} {xs:Array Value} {k:Nat} {sl:Array (Option Value)} {Q:Option Value→Shared→Prop} (hx:s.heap.get? l=some { cls:=.type "list",dict:=none,data:=.seq xs k,slots:=sl }) (nh:A.handled=none)
    (h:∀ h' tk e,Heap.NewExcOf s.heap h' e "AttributeError" → Q none { s with heap:=h',toks:=tk }):wpAny (model prog w) A (getAttr? (.ref l) "keys") Q E s:=by
  obtain ⟨h0,g0,d0,tk,os⟩:=s
  have hT:∀ tk',(⟨h0,g0,d0,tk',os⟩:Shared).TypeIs (.ref l) "list" := fun _=>⟨_,hx,rfl⟩
  have g1:=sub_AttributeError
  have g3:=F.slot_list_getattribute.lookup
  have g4:=F.slot_list_getattribute.bind (.ref l)
  have g5:=am_list_getattr_none
  unfold getAttr?
  unfold getAttrBy?
  unfold getAttrBy
  repeat (any_goals (first | assumption | exact hT _ | ((with_reducible show wpAny _ _ (call (Value.builtin "list.__getattribute__") _ _) _ _ _); refine call_meets F.slot_list_getattribute (hT _) am_entry_list_getattribute (F.args_list_getattribute_2 _ _) (meets_getattribute_miss_list l xs k sl "keys" _ Lp (by decide +kernel)) ⟨hx,nh,fun h' tk' e y=>?_⟩) | wp_step))
  obtain ⟨t',u',he⟩:=y.there
  change wpAny _ _ (getattributeRaised _ _ _ _ _ _ _) _ _ _
  unfold getattributeRaised
  repeat (any_goals first | assumption | wp_step)
  exact h _ _ _ y.of
theorem K6:typeLookup (.type "tuple") "keys" = pure none:=am_miss_of_fast (by decide +kernel)
theorem Vv {l:Addr} {xs:Array Value} {k:Nat} {sl:Array (Option Value)} {Q:Option Value→Shared→Prop} (hx:s.heap.get? l=some { cls:=.type "tuple",dict:=none,data:=.seq xs k,slots:=sl }) (nh:A.handled=none)
    (h:∀ h' tk e,Heap.NewExcOf s.heap h' e "AttributeError" → Q none { s with heap:=h',toks:=tk }):wpAny (model prog w) A (getAttr? (.ref l) "keys") Q E s:=by
  obtain ⟨h0,g0,d0,tk,os⟩:=s
  have hT:∀ tk',(⟨h0,g0,d0,tk',os⟩:Shared).TypeIs (.ref l) "tuple" := fun _=>⟨_,hx,rfl⟩
  have g1:=sub_AttributeError
  have g3:=F.slot_tuple_getattribute.lookup
  have g4:=F.slot_tuple_getattribute.bind (.ref l)
  have g5:=am_tuple_getattr_none
  unfold getAttr?
  unfold getAttrBy?
  unfold getAttrBy
  repeat (any_goals (first | assumption | exact hT _ | ((with_reducible show wpAny _ _ (call (Value.builtin "tuple.__getattribute__") _ _) _ _ _); refine call_meets F.slot_tuple_getattribute (hT _) am_entry_tuple_getattribute (F.args_tuple_getattribute_2 _ _) (meets_getattribute_miss_tuple l xs k sl "keys" _ K6 (by decide +kernel)) ⟨hx,nh,fun h' tk' e y=>?_⟩) | wp_step))
  obtain ⟨t',u',he⟩:=y.there
  change wpAny _ _ (getattributeRaised _ _ _ _ _ _ _) _ _ _
  unfold getattributeRaised
  repeat (any_goals first | assumption | wp_step)
  exact h _ _ _ y.of
end
end C
end
section
namespace C
open PySem PySem.Spec PyProof.Rows L2
theorem Kr {prog:Program} {w:World} {A:Around} {E:Value→Shared→Prop} {s:Shared} {t:Addr} {o:Obj} {xs:Array Value} {m:Nat} {Q:Option (Array Value)→Shared→Prop} (h:s.heap.get? t=some o) (hd:o.data=.seq xs m) (q:Q (some xs) s):wpAny (model prog w) A (seqItems? (.ref t)) Q E s:=by
  show wpAny _ A (load t >>= fun o=>match o.data with | .seq xs _=>pure (some xs) | _=>pure none) _ _ s
  refine wpAny_bind (wpAny_load h ?_)
  rw [hd]
  exact wpAny_pure q
theorem vh:entryFor table "dict.update.loop" = some Builtin.«dict.update.loop»:=entryFor_of_tree (by kernel_rfl)
theorem je:plainId "dict.update.loop" = true:=by decide +kernel
section
variable {prog:Program} {w:World} {A:Around} {R:Result→Shared→Prop} {I:Addr} {fp wr:List Addr} {G:Array GenState→Array GenState→Prop} {n:Nat} {P:Nat→Value→Prop} {St:Nat→Shared→Prop} {κ:Type} [DecidableEq κ] {knd:PySem.KeyKind prog w κ}
theorem Uv (W:WalksS prog w A.in1 I fp wr G n P St) (D:Addr) (hDf:D∉fp) (result:Value) (h0:Heap) (kvs:Nat→List (κ × Value)) (key:Nat→κ) (val:Nat→Value) (hs:∀ i,kvs (i+1)=stored (kvs i) (key i) (val i)) (hz:∀ i,i≤n→(kvs i).length≤sizeLine)
    (hit:∀ i v,P i v→∃ t kx o m,v=.ref t∧t≠D∧t∉wr∧h0.get? t=some o∧o.cls=.type "tuple" ∧ o.data=.seq #[kx,val i] m∧knd.is (key i) kx=true) :
    ∀ (j i:Nat) (c:Nat) (s:Shared),n - i=j→i≤n→St i s→(∀ b o,b≠D→b∉wr→h0.get? b=some o→s.heap.get? b=some o)→s.heap.DictOf knd D (kvs i) →
      (∀ s',Moved (D::wr) G s s'→s'.heap.DictOf knd D (kvs n)→R (.ok (.ret result)) s')→codeAny (model prog w) A (.builtin "dict.update.loop" ⟨[.ref D,.ref I,rawInt (c:Int),result],[]⟩) R s:=by
  have hDw:D∉wr:=fun z=>hDf (W.sub _ z)
  have more:∀ b∈wr,b∈D::wr:=fun b hb=>List.mem_cons_of_mem _ hb
  intro j
  induction j with
  | zero =>
    intro i c s hk hi hst keep hD hR
    have e:i=n:=by (clear hR hD keep hst more hDw hit hz hs hDf W; omega)
    subst e
    refine codeAny_builtin vh ?_
    rw [Around.under_plainId je _]
    change wpAny _ A.in1 (pyNext (.ref I) >>= _) _ _ s
    refine wpAny_bind (W.done s _ _ hst (fun s' hm=>?_))
    show wpAny _ A.in1 (Builtin.Dict.addKeywords D [] >>= fun _=>ret result) _ _ s'
    refine wpAny_bind (wpAny_pure (wpAny_pure (hR s' (hm.mono more) ?_)))
    obtain ⟨o,es,ep,ho,rest⟩:=hD
    exact ⟨o,es,ep,hm.heap D _ hDw ho,rest⟩
  | succ j ih =>
    intro i c s hk hi hst keep hD hR
    have hlt:i<n:=by (clear hR hD keep hst hi ih more hDw hit hz hs hDf W; omega)
    refine codeAny_builtin vh ?_
    rw [Around.under_plainId je _]
    change wpAny _ A.in1 (pyNext (.ref I) >>= _) _ _ s
    refine wpAny_bind (W.item i s _ _ hlt hst (fun v s' hP hst' hm=>?_))
    obtain ⟨t,kx,o,m,rfl,htD,htw,ht,hc,hd,hkey⟩:=hit i v hP
    have ht':s'.heap.get? t=some o:=hm.heap t o htw (keep t o htD htw ht)
    have hD':s'.heap.DictOf knd D (kvs i):=by
      obtain ⟨o,es,ep,ho,rest⟩:=hD
      exact ⟨o,es,ep,hm.heap D _ hDw ho,rest⟩
    have hT:s'.TypeIs (.ref t) "tuple" := ⟨o,ht',hc⟩
    dsimp only
    refine wpAny_bind (wpAny_holding (wpAny_bind (wpAny_tryCatch ?_)))
    unfold Builtin.Dict.pairItems
    refine wpAny_bind (wpAny_typeOf (T := "tuple") hT ?_)
    rw [if_pos (by decide)]
    refine wpAny_bind (Kr ht' hd ?_)
    refine wpAny_pure ?_
    show wpAny _ A.in1 (holding [kx,val i] (dictSet D kx (val i))) _ _ s'
    refine wpAny_holding (wpAny_dictSet_pairs hkey hD' (fun h2 hD2 same=>?_) (hz i hi))
    rw [← hs i] at hD2
    refine wpAny_pure ⟨plainId_quiet je _,?_⟩
    have ec:((c:Int)+1)=((c+1:Nat):Int):=by (clear same hD2 hT hD' ht' hkey hd hc ht htw htD hP hm hst' hlt hR hD keep hst hi hk ih more hDw hit hz hs hDf W; omega)
    rw [ec]
    refine ih (i+1) (c+1) _ (by (clear ec same hD2 hT hD' ht' hkey hd hc ht htw htD hP hm hst' hlt hR hD keep hst hi ih more hDw hit hz hs hDf W; omega)) hlt (W.frame _ s' _ _ hst' (Nat.le_succ _) fun b hb o e=>?_) (fun b o hb hw e=>?_) hD2 fun s2 hm2 hD3=>?_
    · rw [same.2 b (fun h:b=D=>hDf (by rw [← h]; exact hb))]; exact e
    · show h2.get? b=some o
      rw [same.2 b hb]; exact hm.heap b o hw (keep b o hb hw e)
    · refine hR s2 (Moved.trans W.gtrans ((hm.mono more).then_heap (Nat.le_succ _) fun b o hb e=>?_) hm2) hD3
      rw [same.2 b (fun h:b=D=>hb (by rw [h]; exact List.mem_cons_self))]; exact e
end
end C
end
section
namespace C
open PySem PySem.Spec PyProof.Rows L2
section
variable {prog:Program} {w:World} {A:Around} {E:Value→Shared→Prop} {s:Shared} {κ:Type} [DecidableEq κ] {knd:PySem.KeyKind prog w κ}
def told (key:Nat→κ) (val:Nat→Value):Nat→List (κ × Value)
  | 0=>[]
  | i+1=>stored (told key val i) (key i) (val i)
theorem Vu (l:List (κ × Value)) (k:κ) (v:Value):(stored l k v).length≤l.length+1:=by
  unfold stored
  split
  · rw [List.length_map]; omega
  · rw [List.length_append,List.length_singleton]; exact Nat.le_refl _
theorem Bw (key:Nat→κ) (val:Nat→Value):∀ i,(told key val i).length≤i
  | 0=>Nat.le_refl _
  | i+1=>Nat.le_trans (Vu _ _ _) (Nat.succ_le_succ (Bw key val i))
theorem Qq {l:Addr} {its:Array Value} {m:Nat} {sl:Array (Option Value)} {key:Nat→κ} {val:Nat→Value} {Q:Value→Shared→Prop} (nh:A.handled=none) (hl:s.heap.get? l=some { cls:=.type "list",dict:=none,data:=.seq its m,slots:=sl }) (hz:its.size≤sizeLine)
    (hit:∀ i v,its[i]? = some v→∃ t kx o n,v=.ref t∧s.heap.get? t=some o∧o.cls=.type "tuple" ∧ o.data=.seq #[kx,val i] n∧knd.is (key i) kx=true)
    (q:∀ h' tk,h'.DictOf knd s.heap.objs.size (told key val its.size)→(∀ b o,s.heap.get? b=some o→h'.get? b=some o)→Q (.ref s.heap.objs.size) { s with heap:=h',toks:=tk }) :
    wpAny (model prog w) A (call (.type "dict") [.ref l]) Q E s:=by
  refine callType_codes (Q₁:=fun ob z=>ob=.ref s.heap.objs.size∧z = { s with heap:=s.heap.push { cls:=.type "dict",data:=.dict #[] } }) F.kt_called_dict (F.kt_typeCall_dict_1 _) F.entry_dict_init (kt_code_dict_new _ ⟨rfl,rfl⟩) ?_
  rintro obj s₁ ⟨rfl,rfl⟩
  have new0:(s.heap.push { cls:=.type "dict",data:=.dict #[] }).DictOf knd s.heap.objs.size []:=Heap.DictOf.new s.heap
  have hl1:(s.heap.push { cls:=.type "dict",data:=.dict #[] }).get? l=some { cls:=.type "list",dict:=none,data:=.seq its m,slots:=sl }:=Heap.get?_push_of_some _ hl
  have hll:l<s.heap.objs.size:=Heap.lt_size hl
  refine ⟨new0.typeIs,F.args_dict_init_2 _ _,?_⟩
  unfold Builtin.«dict.__init__» Builtin.Dict.selfAndRest
  refine wpAny_bind (wpAny_bind (wpAny_notOrdered_dict new0.typeIs ?_))
  show wpAny _ _ (pure (s.heap.objs.size,[Value.ref l])) _ _ _
  refine wpAny_pure ?_
  show wpAny _ _ (Builtin.Dict.updateFrom "dict.__init__" s.heap.objs.size (.ref l) [] .none) _ _ _
  unfold Builtin.Dict.updateFrom; refine wpAny_bind (wpAny_typeOf (T := "list") ⟨_,hl1,rfl⟩ ?_)
  rw [if_pos (by decide)]
  refine wpAny_bind (Xq hl1 nh fun h2 tk e ne=>?_)
  rw [if_pos (show (none:Option Value).isNone=true from rfl)]
  have old2:∀ b o,(s.heap.push { cls:=.type "dict",data:=.dict #[] }).get? b=some o→h2.get? b=some o:=fun b o hb=>ne.keeps b o hb
  have hl2:h2.IsList l its:=⟨_,old2 _ _ hl1,rfl,m,rfl⟩
  have hD2:s.heap.objs.size<h2.objs.size:=by
    obtain ⟨o,es,ep,ho,rest⟩:=new0
    exact Heap.lt_size (old2 _ _ ho)
  refine wpAny_bind (wpAny_rule (wpAny_bind (wpAny_pyIter_list hl2 ?_)))
  refine wpAny_pure ⟨plainId_quiet je _,?_⟩
  have nl:l≠h2.objs.size:=Nat.ne_of_lt (Nat.lt_trans hll hD2)
  have nD:s.heap.objs.size∉[h2.objs.size,l]:=by
    simp only [List.mem_cons,List.mem_singleton,List.not_mem_nil,or_false,not_or]
    exact ⟨Nat.ne_of_lt hD2,Nat.ne_of_gt hll⟩
  have hD3:(h2.push { cls:=.type "list_iterator",data:=.fields #[.ref l,.int 0 0] }).DictOf knd s.heap.objs.size (told key val 0):=by
    obtain ⟨o,es,ep,ho,rest⟩:=new0
    exact ⟨o,es,ep,Heap.get?_push_of_some _ (old2 _ _ ho),rest⟩
  refine Uv (knd:=knd) ((Walks.list (A:=A.in1.in1) (show A.in1.in1.handled=none from nh) h2.objs.size l nl its).toS) s.heap.objs.size nD .none s.heap (told key val) key val (fun _=>rfl) (fun i hi=>Nat.le_trans (Bw key val i) (Nat.le_trans hi hz))
    (fun i v hv=>?_) (its.size - 0) 0 0 _ rfl (Nat.zero_le _) ⟨⟨_,Heap.get?_push_size _ rfl,rfl,rfl⟩,hl2.push _⟩ (fun b o _ _ hb=>Heap.get?_push_of_some _ (old2 _ _ (Heap.get?_push_of_some _ hb))) hD3 fun s3 hm hD4=>?_
  · obtain ⟨t,kx,o,n,rfl,ht,hc,hd,hk⟩:=hit i v hv
    have tl:=Heap.lt_size ht
    refine ⟨t,kx,o,n,rfl,Nat.ne_of_lt tl,?_,ht,hc,hd,hk⟩
    simp only [List.mem_singleton]
    exact Nat.ne_of_lt (Nat.lt_trans tl hD2)
  · obtain ⟨h3,g3,d3,t3,o3⟩:=s3
    have eg:g3=s.gens:=hm.gens
    have ed:d3=s.drawn:=hm.drawn
    have eo:o3=s.os:=hm.os
    subst eg; subst ed; subst eo
    refine ⟨rfl,q h3 t3 hD4 fun b o hb=>?_⟩
    have bl:=Heap.lt_size hb
    refine hm.heap b o ?_ (Heap.get?_push_of_some _ (old2 _ _ (Heap.get?_push_of_some _ hb)))
    simp only [List.mem_cons,List.mem_singleton,List.not_mem_nil,or_false,not_or]
    exact ⟨Nat.ne_of_lt bl,Nat.ne_of_lt (Nat.lt_trans bl hD2)⟩
theorem Nr {l:Addr} {its:Array Value} {m:Nat} {sl:Array (Option Value)} {key:Nat→κ} {val:Nat→Value} {Q:Value→Shared→Prop} (nh:A.handled=none) (hl:s.heap.get? l=some { cls:=.type "tuple",dict:=none,data:=.seq its m,slots:=sl }) (hz:its.size≤sizeLine)
    (hit:∀ i v,its[i]? = some v→∃ t kx o n,v=.ref t∧s.heap.get? t=some o∧o.cls=.type "tuple" ∧ o.data=.seq #[kx,val i] n∧knd.is (key i) kx=true)
    (q:∀ h' tk,h'.DictOf knd s.heap.objs.size (told key val its.size)→(∀ b o,s.heap.get? b=some o→h'.get? b=some o)→Q (.ref s.heap.objs.size) { s with heap:=h',toks:=tk }) :
    wpAny (model prog w) A (call (.type "dict") [.ref l]) Q E s:=by
  refine callType_codes (Q₁:=fun ob z=>ob=.ref s.heap.objs.size∧z = { s with heap:=s.heap.push { cls:=.type "dict",data:=.dict #[] } }) F.kt_called_dict (F.kt_typeCall_dict_1 _) F.entry_dict_init (kt_code_dict_new _ ⟨rfl,rfl⟩) ?_
  rintro obj s₁ ⟨rfl,rfl⟩
  have new0:(s.heap.push { cls:=.type "dict",data:=.dict #[] }).DictOf knd s.heap.objs.size []:=Heap.DictOf.new s.heap
  have hl1:(s.heap.push { cls:=.type "dict",data:=.dict #[] }).get? l=some { cls:=.type "tuple",dict:=none,data:=.seq its m,slots:=sl }:=Heap.get?_push_of_some _ hl
  have hll:l<s.heap.objs.size:=Heap.lt_size hl
  refine ⟨new0.typeIs,F.args_dict_init_2 _ _,?_⟩
  unfold Builtin.«dict.__init__» Builtin.Dict.selfAndRest
  refine wpAny_bind (wpAny_bind (wpAny_notOrdered_dict new0.typeIs ?_))
  show wpAny _ _ (pure (s.heap.objs.size,[Value.ref l])) _ _ _
  refine wpAny_pure ?_
  show wpAny _ _ (Builtin.Dict.updateFrom "dict.__init__" s.heap.objs.size (.ref l) [] .none) _ _ _
  unfold Builtin.Dict.updateFrom; refine wpAny_bind (wpAny_typeOf (T := "tuple") ⟨_,hl1,rfl⟩ ?_)
  rw [if_pos (by decide)]
  refine wpAny_bind (Vv hl1 nh fun h2 tk e ne=>?_)
  rw [if_pos (show (none:Option Value).isNone=true from rfl)]
  have old2:∀ b o,(s.heap.push { cls:=.type "dict",data:=.dict #[] }).get? b=some o→h2.get? b=some o:=fun b o hb=>ne.keeps b o hb
  have hl2:h2.IsTuple l its:=⟨_,old2 _ _ hl1,rfl,m,rfl⟩
  have hD2:s.heap.objs.size<h2.objs.size:=by
    obtain ⟨o,es,ep,ho,rest⟩:=new0
    exact Heap.lt_size (old2 _ _ ho)
  refine wpAny_bind (wpAny_rule (wpAny_bind (wpAny_pyIter_tuple hl2 ?_)))
  refine wpAny_pure ⟨plainId_quiet je _,?_⟩
  have nl:l≠h2.objs.size:=Nat.ne_of_lt (Nat.lt_trans hll hD2)
  have nD:s.heap.objs.size∉[h2.objs.size,l]:=by
    simp only [List.mem_cons,List.mem_singleton,List.not_mem_nil,or_false,not_or]
    exact ⟨Nat.ne_of_lt hD2,Nat.ne_of_gt hll⟩
  have hD3:(h2.push { cls:=.type "tuple_iterator",data:=.fields #[.ref l,.int 0 0] }).DictOf knd s.heap.objs.size (told key val 0):=by
    obtain ⟨o,es,ep,ho,rest⟩:=new0
    exact ⟨o,es,ep,Heap.get?_push_of_some _ (old2 _ _ ho),rest⟩
  refine Uv (knd:=knd) ((Walks.tuple (A:=A.in1.in1) (show A.in1.in1.handled=none from nh) h2.objs.size l nl its).toS) s.heap.objs.size nD .none s.heap (told key val) key val (fun _=>rfl) (fun i hi=>Nat.le_trans (Bw key val i) (Nat.le_trans hi hz))
    (fun i v hv=>?_) (its.size - 0) 0 0 _ rfl (Nat.zero_le _) ⟨⟨_,Heap.get?_push_size _ rfl,rfl,rfl⟩,hl2.push _⟩ (fun b o _ _ hb=>Heap.get?_push_of_some _ (old2 _ _ (Heap.get?_push_of_some _ hb))) hD3 fun s3 hm hD4=>?_
  · obtain ⟨t,kx,o,n,rfl,ht,hc,hd,hk⟩:=hit i v hv
    have tl:=Heap.lt_size ht
    refine ⟨t,kx,o,n,rfl,Nat.ne_of_lt tl,?_,ht,hc,hd,hk⟩
    simp only [List.mem_singleton]
    exact Nat.ne_of_lt (Nat.lt_trans tl hD2)
  · obtain ⟨h3,g3,d3,t3,o3⟩:=s3
    have eg:g3=s.gens:=hm.gens
    have ed:d3=s.drawn:=hm.drawn
    have eo:o3=s.os:=hm.os
    subst eg; subst ed; subst eo
    refine ⟨rfl,q h3 t3 hD4 fun b o hb=>?_⟩
    have bl:=Heap.lt_size hb
    refine hm.heap b o ?_ (Heap.get?_push_of_some _ (old2 _ _ (Heap.get?_push_of_some _ hb)))
    simp only [List.mem_cons,List.mem_singleton,List.not_mem_nil,or_false,not_or]
    exact ⟨Nat.ne_of_lt bl,Nat.ne_of_lt (Nat.lt_trans bl hD2)⟩
end
end C
end
section
namespace C
open PySem PySem.Spec PyProof.Rows L2
theorem Jf {x:T} {xs:List T} {l:List (Key × T)} (h:vf (x::xs)=some l):∃ k v q l',x=.tup [k,v]∧keyOf k=some q∧vf xs=some l'∧l=(q,v)::l':=by
  match x,h with
  | .tup [k,v],h =>
    change (match keyOf k,vf xs with | some q,some l=>some ((q,v)::l) | _,_=>none)=some l at h
    cases e1:keyOf k with
    | none=>rw [e1] at h; exact jm h
    | some q =>
      cases e2:vf xs with
      | none=>rw [e1,e2] at h; exact jm h
      | some l'=>rw [e1,e2] at h; cases h; exact ⟨k,v,q,l',rfl,e1,rfl,rfl⟩
section
variable {X:Cx} {pins:List (Addr × Obj)} {σ:L2.St} {H S:Hp} {s:Shared} {as:List Addr}
inductive Eb (h:Heap) (prog:Program) (w:World):List Value→List L2.Key→List Value→Prop where
  | nil:Eb h prog w [] [] []
  | cons {t:Addr} {kx wv:Value} {o:Obj} {n:Nat} {q:L2.Key} {us:List Value} {qs:List L2.Key} {ws:List Value}:h.get? t=some o→o.cls=.type "tuple" → o.data=.seq #[kx,wv] n→(lg prog w).is q kx=true →
      Eb h prog w us qs ws→Eb h prog w (.ref t::us) (q::qs) (wv::ws)
theorem Eb.get {h:Heap} {prog:Program} {w:World}:∀ {us:List Value} {qs:List L2.Key} {ws:List Value},Eb h prog w us qs ws→∀ (i:Nat) (v:Value),us[i]? = some v→∃ t kx o n,v=.ref t∧h.get? t=some o∧o.cls=.type "tuple" ∧ o.data=.seq #[kx,ws.getD i .none] n∧(lg prog w).is (qs.getD i (.inl 0)) kx=true
  := by
  intro us qs ws h
  induction h with
  | nil=>intro i v e; simp at e -- here
  | cons h1 h2 h3 h4 r ih =>
    intro i v e
    cases i with
    | zero=>simp at e; subst e; exact ⟨_,_,_,_,rfl,h1,h2,h3,h4⟩
    | succ i=>simpa using ih i v (by simpa using e) -- here
theorem Eb.len {h:Heap} {prog:Program} {w:World}:∀ {us:List Value} {qs:List L2.Key} {ws:List Value},Eb h prog w us qs ws→us.length=qs.length∧us.length=ws.length:=by
  intro us qs ws h
  induction h with
  | nil=>exact ⟨rfl,rfl⟩
  | cons _ _ _ _ _ ih=>exact ⟨congrArg (· + 1) ih.1,congrArg (· + 1) ih.2⟩
theorem pairs_at (I:L2.Inv X pins σ H s) (sub:Same S H):∀ {vs:List V} {xs:List T} {us:List Value} {l:List (L2.Key × T)},m7 X.K S as vs xs→Vals vs us→vf xs=some l →
    ∃ ys ws,Eb s.heap X.prog X.w us (l.map (·.1)) ws∧Vals ys ws∧m7 X.K S as ys (l.map (·.2))
  | _,[],_,_,h0,r,e=>by cases h0; cases e; cases r; exact ⟨[],[],.nil,.nil,.nil⟩
  | _,_::_,_,_,h0,r,e=>by
    cases h0 with | cons h q=>?_
    obtain ⟨k,v,qk,l',rfl,e1,e2,rfl⟩:=Jf e
    cases r with
    | cons r1 r2 =>
      obtain ⟨ys,ws,p1,p2,p3⟩:=pairs_at I sub q r2 e2
      cases h with
      | tup g1 g2 =>
        cases g2 with
        | cons a1 g2 =>
          cases g2 with
          | cons a2 g2 =>
            cases g2
            cases r1
            obtain ⟨its,rv,⟨o,o1,o2,n,o3⟩,_⟩:=I.tuple (ju sub g1)
            cases rv with
            | cons b1 rv =>
              cases rv with
              | cons b2 rv =>
                cases rv
                have ek:=Vc a1 e1
                subst ek
                exact ⟨_::ys,_::ws,.cons o1 o2 o3 (Tg b1) p1,.cons b2 p2,.cons a2 p3⟩
theorem J7 (l:List (L2.Key × T)) {ys:List V} {ws:List Value} (hv:Vals ys ws) (hr:m7 X.K S as ys (l.map (·.2))):∀ i,i≤l.length →
    ∃ kv,KV kv (told (fun i=>(l.map (·.1)).getD i (.inl 0)) (fun i=>ws.getD i .none) i)∧Ac X.K S as kv ((l.take i).foldl (fun d p=>La p.1 p.2 d) [])
  | 0,_=>⟨[],.nil,.nil⟩
  | i+1,hi=>by
    obtain ⟨kv,k1,k2⟩:=J7 l hv hr i (by (clear hr hv; omega))
    have hlt:i<l.length:=Nat.lt_of_succ_le hi
    have e1:(l.map (·.2))[i]? = some l[i].2:=by rw [List.getElem?_map,List.getElem?_eq_getElem hlt]; rfl
    obtain ⟨y,h1,h2⟩:=hr.get e1
    obtain ⟨u,h3,h4⟩:=hv.get h1
    have e2:(l.map (·.1)).getD i (.inl 0)=l[i].1:=by rw [List.getD_eq_getElem?_getD,List.getElem?_map,List.getElem?_eq_getElem hlt]; rfl
    have e3:ws.getD i .none=u:=by rw [List.getD_eq_getElem?_getD,h3]; rfl
    refine ⟨putK kv l[i].1 y,?_,?_⟩
    · have:=k1.put l[i].1 h4
      show KV (putK kv l[i].1 y) (stored (told (fun i=>(l.map (·.1)).getD i (.inl 0)) (fun i=>ws.getD i .none) i) ((l.map (·.1)).getD i (.inl 0)) (ws.getD i .none))
      rw [e2,e3]
      exact this
    · rw [List.take_succ_eq_append_getElem hlt,List.foldl_append]
      exact k2.put h2
theorem Ie {Q:VK} {a:Addr} {vs:List V} {xs:List T} {l:List (L2.Key × T)} (hc:X.calm=true) (I:L2.Inv X pins σ H s) (sub:Same S H) (g1:SqL X.K S a vs) (g2:m7 X.K S as vs xs) (e:vf xs=some l) (hz:xs.length≤sizeLine)
    (q:∀ p kv,H p=none→kv.length≤sizeLine→Ac X.K S as kv (l.foldl (fun d p=>La p.1 p.2 d) [])→Q (.ref p) (upd H p (.dK kv))):wpAny (model X.prog X.w) X.A (call (.type "dict") [.ref a]) (EP X pins σ Q) X.xe s:=by
  obtain ⟨its,r,p,_⟩:=I.list (ji sub g1)
  obtain ⟨⟨cls,dd,data,sl⟩,n,ho,hcl,hd0,hd⟩:=id p
  simp only at hcl hd0 hd
  subst hcl hd0 hd
  obtain ⟨ys,ws,p1,p2,p3⟩:=pairs_at I sub g2 r e
  have hlen:its.length=l.length:=by rw [p1.len.1,List.length_map]
  have hlx:vs.length=its.length:=r.length
  obtain ⟨kv,k1,k2⟩:=J7 l p2 p3 l.length (Nat.le_refl _)
  rw [List.take_length] at k2
  refine Qq (knd:=lg X.prog X.w) (key:=fun i=>(l.map (·.1)).getD i (.inl 0)) (val:=fun i=>ws.getD i .none) (I.ok.hd hc) ho (by rw [List.size_toArray,← hlx,g2.length]; exact hz)
    (fun i v hv=>p1.get i v (by rw [List.getElem?_toArray] at hv; exact hv)) fun h' tk hD old=>?_
  rw [show its.toArray.size=l.length by rw [List.size_toArray,hlen]] at hD
  have kl:kv.length≤sizeLine:=by
    rw [k1.length]
    exact Nat.le_trans (Bw _ _ _) (by rw [← hlen,← hlx,g2.length]; exact hz)
  have hp:H s.heap.objs.size=none:=I.hok.fresh (Nat.le_refl _)
  exact ⟨.ref s.heap.objs.size,_,I.laid (a:=s.heap.objs.size) (o:=.dK kv) (h':=h') (t':=tk) old (Nat.le_refl _) (Ol kl (beq_eq_false_iff_ne.mpr (Ne.symm (Nat.ne_of_lt I.big))) k1 hD),rfl,q _ kv hp kl k2⟩
theorem Gj {Q:VK} {a:Addr} {vs:List V} {xs:List T} {l:List (L2.Key × T)} (hc:X.calm=true) (I:L2.Inv X pins σ H s) (sub:Same S H) (g1:SqT X.K S a vs) (g2:m7 X.K S as vs xs) (e:vf xs=some l) (hz:xs.length≤sizeLine)
    (q:∀ p kv,H p=none→kv.length≤sizeLine→Ac X.K S as kv (l.foldl (fun d p=>La p.1 p.2 d) [])→Q (.ref p) (upd H p (.dK kv))):wpAny (model X.prog X.w) X.A (call (.type "dict") [.ref a]) (EP X pins σ Q) X.xe s:=by
  obtain ⟨its,r,p,_⟩:=I.a8z (ju sub g1)
  obtain ⟨⟨cls,dd,data,sl⟩,ho,hcl,hd0,n,hd⟩:=id p
  simp only at hcl hd0 hd
  subst hcl hd0 hd
  obtain ⟨ys,ws,p1,p2,p3⟩:=pairs_at I sub g2 r e
  have hlen:its.length=l.length:=by rw [p1.len.1,List.length_map]
  have hlx:vs.length=its.length:=r.length
  obtain ⟨kv,k1,k2⟩:=J7 l p2 p3 l.length (Nat.le_refl _)
  rw [List.take_length] at k2
  refine Nr (knd:=lg X.prog X.w) (key:=fun i=>(l.map (·.1)).getD i (.inl 0)) (val:=fun i=>ws.getD i .none) (I.ok.hd hc) ho (by rw [List.size_toArray,← hlx,g2.length]; exact hz)
    (fun i v hv=>p1.get i v (by rw [List.getElem?_toArray] at hv; exact hv)) fun h' tk hD old=>?_
  rw [show its.toArray.size=l.length by rw [List.size_toArray,hlen]] at hD
  have kl:kv.length≤sizeLine:=by
    rw [k1.length]
    exact Nat.le_trans (Bw _ _ _) (by rw [← hlen,← hlx,g2.length]; exact hz)
  have hp:H s.heap.objs.size=none:=I.hok.fresh (Nat.le_refl _)
  exact ⟨.ref s.heap.objs.size,_,I.laid (a:=s.heap.objs.size) (o:=.dK kv) (h':=h') (t':=tk) old (Nat.le_refl _) (Ol kl (beq_eq_false_iff_ne.mpr (Ne.symm (Nat.ne_of_lt I.big))) k1 hD),rfl,q _ kv hp kl k2⟩
end
section
variable {X:Cx} {B:Bas} {a:Expr} {m:M T} {pos p:Pos}
theorem Mg (hc:X.calm=true):Wi X (.type "dict") G6:=by
  intro pins s σ H xs us Q I rs z8
  obtain ⟨S,as,ts,w,sub,hr,hf,q⟩:=z8
  cases hr with
  | nil=>exact jm hf
  | @cons x t xs' ts' h1 h2 =>
    cases h2 with
    | cons h3 h4=>cases h1 <;> exact jm hf
    | nil =>
      obtain ⟨u,rfl,ru⟩:=rs.one
      cases h1 with
      | @lst a vs ts g1 g2 =>
        cases ru
        obtain ⟨hl,hf⟩:=zf hf
        obtain ⟨l,e1,e2⟩:=Option.map_eq_some_iff.mp hf
        subst e2
        refine Ie hc I sub g1 g2 e1 (Nat.le_trans (Nat.le_of_lt hl) lq) fun p kv hp _ k2=>?_
        have x:=Ext.laid sub hp (.dK kv)
        exact q _ _ _ x (.dic (.inl dj) (k2.mono x.s nol))
      | @tup a vs ts g1 g2 =>
        cases ru
        obtain ⟨hl,hf⟩:=zf hf
        obtain ⟨l,e1,e2⟩:=Option.map_eq_some_iff.mp hf
        subst e2
        refine Gj hc I sub g1 g2 e1 (Nat.le_trans (Nat.le_of_lt hl) lq) fun p kv hp _ k2=>?_
        have x:=Ext.laid sub hp (.dK kv)
        exact q _ _ _ x (.dic (.inl dj) (k2.mono x.s nol))
      | @dic a kvs ts g1 g2 =>
        cases ru
        cases hf
        refine V4 I (yp sub g1) fun p s' hp I'=>⟨.ref p,_,I',rfl,?_⟩
        have x:=Ext.laid sub hp (.dK kvs)
        exact q _ _ _ x (.dic (.inl dj) (g2.mono x.s nol))
      | _=>exact jm hf
end
end C
end
section
namespace C
open PySem PySem.Spec PyProof.Rows L2
theorem iw.zero {P:Program} {w:World} {K:PySem.W.Frag} {mg:Str→Option Value} {base:Heap} {x qual:Str} {st:Stmt} {f:Addr} {fd:FuncData} {ps:List Str} {k:Nat} (F:Fun K x qual st f fd) (h:mg x=some (.ref f)) (b:Binds K fd ps []):iw P w K mg base x k ps (fun _ _=>none):=by
  have no:∀ vs H Q E,¬ spF K ps.length (fun _ _=>none) vs H Q E:=fun vs H Q E z=>by
    obtain ⟨S,as,sto,ts,t,sto',_,_,_,_,e,_⟩:=z
    cases e
  exact ⟨f,fd,⟨fun vs H Q E z=>absurd z (no vs H Q E),fun A outer s H args us vs Q E _ _ _ _ z=>absurd z (no vs H Q E)⟩,b,F.kp,h⟩
end C
end
section
namespace C
open PySem
end C
end
section
namespace C
open PySem PySem.Spec PyProof.Rows L2
section
variable {X:Cx} {B:Bas} {c e:Expr} {m:M T} {pos p:Pos} {u:S} {body:List Stmt}
end
end C
end
section
namespace C
open PySem PySem.Spec PyProof.Rows L2
section
variable {X:Cx} {B:Bas} {e st:Expr} {te:TE} {m:M T} {pos p2 p3 p4:Pos} {j:Nat}
end
end C
end
section
namespace C
open PySem PySem.Spec PyProof.Rows L2
section
variable {X:Cx} {B:Bas} {a:Expr} {m:M T} {pos p:Pos}
def a7z (K:PySem.W.Frag):List V→Hp→VK→Prop:=fun xs H Q=>∃ S as t u,Same S H∧m7 K S as xs [t]∧G6 [t]=some (.dic u)∧∀ p kv,H p=none→Ac K S as kv u→Q (.ref p) (upd H p (.dK kv))
theorem Ve (hc:X.calm=true):Eh X (.type "dict") (a7z X.K):=by
  intro pins s σ H xs us Q I rs z8
  obtain ⟨S,as,t,u,sub,hr,hf,q⟩:=z8
  cases hr with
  | cons h1 h2 =>
    cases h2
    obtain ⟨v,rfl,ru⟩:=rs.one
    cases h1 with
    | @lst a vs ts g1 g2 =>
      cases ru
      obtain ⟨hl,hf⟩:=zf hf
      obtain ⟨l,e1,e2⟩:=Option.map_eq_some_iff.mp hf
      cases e2
      exact Ie hc I sub g1 g2 e1 (Nat.le_trans (Nat.le_of_lt hl) lq) fun p kv hp _ k2=>q p kv hp k2
    | @tup a vs ts g1 g2 =>
      cases ru
      obtain ⟨hl,hf⟩:=zf hf
      obtain ⟨l,e1,e2⟩:=Option.map_eq_some_iff.mp hf
      cases e2
      exact Gj hc I sub g1 g2 e1 (Nat.le_trans (Nat.le_of_lt hl) lq) fun p kv hp _ k2=>q p kv hp k2
    | @dic a kvs ts g1 g2 =>
      cases ru
      cases hf
      exact V4 I (yp sub g1) fun p s' hp I'=>⟨.ref p,_,I',rfl,q p kvs hp g2⟩
    | _=>exact jm hf
theorem Z8 {t w:T} (h:G6 [t]=some w):∃ u,w=.dic u:=by
  cases t <;> first | exact jm h | skip
  · obtain ⟨l,_,e⟩:=Option.map_eq_some_iff.mp (zf h).2; exact ⟨_,e.symm⟩
  · obtain ⟨l,_,e⟩:=Option.map_eq_some_iff.mp (zf h).2; exact ⟨_,e.symm⟩
  · cases h; exact ⟨_,rfl⟩
theorem a6y (hc:X.calm=true) (hg:Gl X "dict") (hm:X.mg "dict" = none) (ha:PE X a (tOf X.K B m)) (he:starEach [a] X.env=(false,eval a X.env)::starEach [] X.env:=by rfl) (hpl:(backTo pos (starEach [] X.env)).any (·.1)=false:=by rfl) :
    PE X (.Call (.Name "dict" p) [a] [] pos) (fOf X.K B (jo G6 (ao m fu))):=by
  refine (m8 (Ve hc) hg hm PyProof.Rows.boot_dict (jt ha wz he) (by decide) (by decide) he hpl).imp fun σ H Q z0=>?_
  obtain ⟨st,ps,S,as,R,t,st',e,q⟩:=z0
  obtain ⟨ts,e1,e2⟩:=Bq e
  obtain ⟨t1,s1,us,ea,en,rfl⟩:=Dv e1
  cases en
  obtain ⟨u,rfl⟩:=Z8 e2
  refine ⟨st,ps,S,as,R,t1,_,ea,fun v H1 S1 as1 R1=>⟨S1,as1,t1,u,R1.sub,.cons R1.top .nil,e2,fun p kv hp k2=>?_⟩⟩
  obtain ⟨bD,sD,nD,no⟩:=R1.fresh hp
  exact q p _ S1 as1 (R1.drop.a9l bD sD nD (fun j w e1 e2=>no j w e1 e2)) ⟨⟨kv,dj,k2⟩,sD,nD,bD⟩ (fun j w e1 e2=>no j w e1 e2)
end
end C
end
section
namespace C
open PySem
def a69 (xs ys:List T):List T:=(xs.zip ys).map fun p=>.tup [p.1,p.2]
def sIx (n d:Nat):Option Int→Nat
  | none=>d
  | some v=>if v<0 then (v+(n:Int)).toNat else min v.toNat n
def a4i (xs:List T) (lo hi:Option Int):List T:=(xs.drop (sIx xs.length 0 lo)).take (sIx xs.length xs.length hi - sIx xs.length 0 lo)
def Wn (lo hi:Option Int):T→Option T
  | .lst xs=>some (.lst (a4i xs lo hi))
  | .tup xs=>if sIx xs.length 0 lo=0∧sIx xs.length xs.length hi=xs.length then none else some (.tup (a4i xs lo hi))
  | _=>none
def Og:M (Option Int):=fun s=>some (none,s)
def Ax (e:M T):M (Option Int):=fun s=>match e s with
  | some (.int i,s1)=>some (some i,s1)
  | _=>none
def zc (m:M T) (lo hi:M (Option Int)):M T:=fun s=>match m s with
  | some (t,s1)=>match lo s1 with
    | some (l,s2)=>match hi s2 with
      | some (h,s3)=>match Wn l h t with
        | some u=>some (u,s3)
        | none=>none
      | none=>none
    | none=>none
  | none=>none
def Bg (i:Nat) (k:M T):M T:=fun s=>if Hg i s then (match k s with
  | some (.int j,s1)=>match s1.env[i]? with
    | some (some (.lst xs,_))=>match (ixI xs.length j).bind (xs[·]?) with
      | some t=>some (t,s1)
      | none=>none
    | _=>none
  | _=>none) else none
end C
end
section
namespace C
open PySem PySem.Sem
def Di:Bool→Heap→Addr→Addr→Nat→Prop
  | true,h,it,a,i=>h.IsListIter it a i
  | false,h,it,a,i=>h.IsTupleIter it a i
def vq:Bool→Heap→Addr→Array Value→Prop
  | true,h,a,xs=>h.IsList a xs
  | false,h,a,xs=>h.IsTuple a xs
theorem Di.to {k:Bool} {h h':Heap} {it a:Addr} {i:Nat} (x:Di k h it a i) (e:∀ o,h.get? it=some o→h'.get? it=some o):Di k h' it a i:=by
  cases k <;> obtain ⟨o,ho,r⟩:=x <;> exact ⟨o,e o ho,r⟩
theorem Di.obj {k:Bool} {h:Heap} {it a:Addr} {i:Nat} (x:Di k h it a i):∃ o,h.get? it=some o∧∀ v,o.data≠.cell v:=by
  cases k <;> obtain ⟨o,ho,_,d⟩:=x <;> exact ⟨o,ho,fun v z=>by rw [d] at z; cases z⟩
theorem vq.to {k:Bool} {h h':Heap} {a:Addr} {xs:Array Value} (x:vq k h a xs) (e:∀ o,h.get? a=some o→h'.get? a=some o):vq k h' a xs:=by
  cases k <;> obtain ⟨o,ho,r⟩:=x <;> exact ⟨o,e o ho,r⟩
section
variable {prog:Program} {w:World} {A:Around} {E:Value→Shared→Prop} {s:Shared}
theorem nextT {it t:Addr} {i:Nat} {xs:Array Value} {x:Value} {Q:Value→Shared→Prop} (h1:s.heap.IsTupleIter it t i) (h2:s.heap.IsTuple t xs) (h3:xs[i]? = some x)
    (q:∀ h',h'.IsTupleIter it t (i+1)→Heap.SameBut it s.heap h'→Q x { s with heap:=h' }):wpAny (model prog w) A (Builtin.SmallTypes.nextOf (.ref it)) Q E s:=by
  have ty:s.TypeIs (.ref it) "tuple_iterator" := h1.typeIs
  obtain ⟨oi,gi,ci,di⟩:=h1
  obtain ⟨ot,gt,_,m,dt⟩:=h2
  have upd:∀ (h':Heap),h'=s.heap.update it (Obj.mapFields (·.setIfInBounds 1 (rawInt ((i:Int)+1))))→h'.IsTupleIter it t (i+1):=fun h' e=>by
    subst e
    refine ⟨_,Heap.get?_update_self _ gi (Obj.isFreed_of_fields (Obj.data_mapFields di _)),(Obj.cls_mapFields ..).trans ci,?_⟩
    rw [Obj.data_mapFields di]; rfl
  unfold Builtin.SmallTypes.nextOf -- here
  refine wpAny_bind (wpAny_callSpecial?_slot (name:=Str.ofString "__next__") ty F.slot_tuple_iterator_next (wpAny_call_entry F.slot_tuple_iterator_next ty F.entry_tuple_iterator_next ?_ (F.args_tuple_iterator_next_1 _)))
  refine (show wpAny _ _ (field (.ref it) 0 >>= _) _ _ s from wpAny_bind (wpAny_field gi di (x:=.ref t) rfl ?_))
  dsimp only
  rw [if_neg (by intro z; cases z)]
  refine (show wpAny _ _ (field (.ref it) 1 >>= _) _ _ s from wpAny_bind (wpAny_field gi di (x:=.int i 0) rfl ?_))
  refine (show wpAny _ _ (seqItems? (.ref t) >>= _) _ _ s from wpAny_bind (wpAny_seqItems gt dt ?_))
  dsimp only
  rw [Int.toNat_natCast,h3]
  exact wpAny_bind (wpAny_setField gi di (by simp) (wpAny_pure ⟨x,rfl,wpAny_pure (q _ (upd _ rfl) (Heap.SameBut.update ..))⟩))
theorem Z9 {it t:Addr} {i:Nat} {xs:Array Value} {Q:Value→Shared→Prop} (hh:A.handled=none) (h1:s.heap.IsTupleIter it t i) (h2:s.heap.IsTuple t xs) (h3:xs[i]? = none)
    (q:∀ h' e,Heap.ExtBut it s.heap h'→(∃ o,h'.get? e=some o∧o.cls=.type "StopIteration")→E (.ref e) { s with heap:=h' }):wpAny (model prog w) A (Builtin.SmallTypes.nextOf (.ref it)) Q E s:=by
  have ty:s.TypeIs (.ref it) "tuple_iterator" := h1.typeIs
  obtain ⟨oi,gi,ci,di⟩:=h1
  obtain ⟨ot,gt,_,m,dt⟩:=h2
  unfold Builtin.SmallTypes.nextOf -- here
  refine wpAny_bind (wpAny_callSpecial?_slot (name:=Str.ofString "__next__") ty F.slot_tuple_iterator_next (wpAny_call_entry F.slot_tuple_iterator_next ty F.entry_tuple_iterator_next ?_ (F.args_tuple_iterator_next_1 _)))
  refine (show wpAny _ _ (field (.ref it) 0 >>= _) _ _ s from wpAny_bind (wpAny_field gi di (x:=.ref t) rfl ?_))
  dsimp only
  rw [if_neg (by intro z; cases z)]
  refine (show wpAny _ _ (field (.ref it) 1 >>= _) _ _ s from wpAny_bind (wpAny_field gi di (x:=.int i 0) rfl ?_))
  refine (show wpAny _ _ (seqItems? (.ref t) >>= _) _ _ s from wpAny_bind (wpAny_seqItems gt dt ?_))
  dsimp only
  rw [Int.toNat_natCast,h3]
  refine wpAny_bind (wpAny_rule (wpAny_bind (wpAny_setField gi di (by simp) ?_)))
  refine (show wpAny _ _ (newExc (.type "StopIteration") [] >>= _) _ _ _ from wpAny_bind ?_)
  simp only [newExc,newTuple]
  refine wpAny_bind (wpAny_newObj_type (wpAny_bind (m:=firstArgMember _ _) (wpAny_of_eq (a:=Value.none) (by first | rfl | (simp only [firstArgMember]; rfl)) (wpAny_newObj_type ?_ (by size_fits)))) (by size_fits))
  simp only [raiseNew]
  refine wpAny_bind (wpAny_handled ?_) -- here
  rw [show A.in1.handled=none from hh] -- here
  exact wpAny_bind (wpAny_pure (wpAny_throw (q _ _ (((Heap.SameBut.update ..).extBut.push _).push _) ⟨_,Heap.get?_push_size _ rfl,rfl⟩)))
theorem Ef {k:Bool} {it a:Addr} {i:Nat} {xs:Array Value} {x:Value} {Q:Value→Shared→Prop} (h1:Di k s.heap it a i) (h2:vq k s.heap a xs) (h3:xs[i]? = some x)
    (q:∀ h',Di k h' it a (i+1)→Heap.SameBut it s.heap h'→Q x { s with heap:=h' }):wpAny (model prog w) A (Builtin.SmallTypes.nextOf (.ref it)) Q E s:=by
  cases k with
  | true=>exact wpAny_nextOf_list_item h1 h2 h3 q
  | false=>exact nextT h1 h2 h3 q
theorem Ba {k:Bool} {it a:Addr} {i:Nat} {xs:Array Value} {Q:Value→Shared→Prop} (hh:A.handled=none) (h1:Di k s.heap it a i) (h2:vq k s.heap a xs) (h3:xs[i]? = none)
    (q:∀ h' e,Heap.ExtBut it s.heap h'→(∃ o,h'.get? e=some o∧o.cls=.type "StopIteration")→E (.ref e) { s with heap:=h' }):wpAny (model prog w) A (Builtin.SmallTypes.nextOf (.ref it)) Q E s:=by
  cases k with
  | true=>exact wpAny_nextOf_list_end hh h1 h2 h3 q
  | false=>exact Z9 hh h1 h2 h3 q
end
structure Le (h:Heap) (z ti to' i1 i2:Addr) (f:Value):Prop where
  zip:IsZip h z ti to' f
  its:IsPair h ti (.ref i1) (.ref i2)
  kept:∃ a b,IsPair h to' a b
structure Far (z ti to' i1 i2:Addr):Prop where
  nd:[z,ti,to',i1,i2].Nodup
theorem Far.all {z ti to' i1 i2:Addr} (f:Far z ti to' i1 i2):ti≠z∧to'≠z∧i1≠z∧i2≠z∧ti≠to'∧ti≠i1∧ti≠i2∧to'≠i1∧to'≠i2∧i1≠i2:=by
  have:=f.nd
  simp only [List.nodup_cons,List.mem_cons,List.not_mem_nil,or_false,not_or] at this
  obtain ⟨⟨a,b,c,d⟩,⟨e,f,g⟩,⟨h,i⟩,j,_⟩:=this
  exact ⟨Ne.symm a,Ne.symm b,Ne.symm c,Ne.symm d,e,f,g,h,i,j⟩
def Ry (z to' i1 i2:Addr) (h h':Heap):Prop:=∀ c o,c≠z→c≠to'→c≠i1→c≠i2→h.get? c=some o→h'.get? c=some o
section
variable {prog:Program} {w:World} {A:Around} {E:Value→Shared→Prop} {s:Shared}
theorem a0z {k1 k2:Bool} {z ti to' i1 i2 a1 a2:Addr} {j1 j2:Nat} {xs ys:Array Value} {x y:Value} {Q:Value→Shared→Prop} (D:Far z ti to' i1 i2) (Z:Le s.heap z ti to' i1 i2 .none)
    (h1:Di k1 s.heap i1 a1 j1) (h2:Di k2 s.heap i2 a2 j2) (r1:vq k1 s.heap a1 xs) (r2:vq k2 s.heap a2 ys) (n2:a2≠z∧a2≠to'∧a2≠i1∧a2≠i2) (n1:a1≠z) (hx:xs[j1]? = some x) (hy:ys[j2]? = some y)
    (q:∀ h',Le h' z ti to' i1 i2 (rawInt s.heap.objs.size)→Di k1 h' i1 a1 (j1+1)→Di k2 h' i2 a2 (j2+1)→IsPair h' s.heap.objs.size x y→Ry z to' i1 i2 s.heap h'→Q (.ref s.heap.objs.size) { s with heap:=h' }) :
    wpAny (model prog w) A (Builtin.«zip.__next__» ⟨[.ref z],[]⟩) (fun fin s'=>∃ v,fin=.done (.ret v)∧Q v s') E s:=by -- here
  obtain ⟨hz,hI,a,b,hO⟩:=Z
  obtain ⟨d1,d2,d3,d4,d5,d6,d7,d8,d9,d10⟩:=D.all
  refine (show wpAny _ _ (field (.ref z) 2 >>= _) _ _ _ from wpAny_bind (wpAny_field hz rfl (x:=.bool false) rfl ?_))
  refine (show wpAny _ _ (field (.ref z) 3 >>= _) _ _ _ from wpAny_bind (wpAny_field hz rfl (x:=.ref ti) rfl (wpAny_bind (wpAny_seqItems hI rfl ?_))))
  refine (show wpAny _ _ (Builtin.SmallTypes.ownedTupleIsFree (.ref z) >>= _) _ _ _ from wpAny_bind ?_)
  unfold Builtin.SmallTypes.ownedTupleIsFree -- here
  refine wpAny_bind (wpAny_field hz rfl (x:=.none) rfl (wpAny_pure ?_)) -- here
  dsimp only
  rw [if_pos rfl]
  refine wpAny_bind (wpAny_rule (wpAny_bind (wpAny_field hz rfl (x:=.ref to') rfl (wpAny_bind (wpAny_setField_rec hz (by simp) fun g1 z1 s1=>wpAny_bind ?_)))))
  have z1:IsZip g1 z ti to' .ellipsis:=z1
  simp only [List.zipIdx_cons,List.zipIdx_nil,List.forIn_cons,List.forIn_nil] -- here
  refine wpAny_bind (wpAny_bind (wpAny_onRaise (show wpAny _ _ (Builtin.SmallTypes.nextOf (.ref i1) >>= _) _ _ _ from wpAny_bind (Ef (h1.to fun o e=>s1.extBut _ _ d3 e) (r1.to fun o e=>s1.extBut _ _ n1 e) hx fun g2 t2 s2=>wpAny_pure ?_))))
  have o2:IsPair g2 to' a b:=s2.extBut _ _ d8 (s1.extBut _ _ d2 hO)
  refine wpAny_bind (wpAny_seqItems o2 rfl (wpAny_bind (wpAny_updateSeq_pair o2 fun g3 o3 s3=>wpAny_bind (wpAny_letGo (wpAny_pure ?_)))))
  have o3:IsPair g3 to' x b:=o3
  have e3:∀ c o,c≠z→c≠i1→c≠to'→s.heap.get? c=some o→g3.get? c=some o:=fun c o c1 c2 c3 e=>s3.extBut _ _ c3 (s2.extBut _ _ c2 (s1.extBut _ _ c1 e))
  refine wpAny_bind (wpAny_bind (wpAny_onRaise (show wpAny _ _ (Builtin.SmallTypes.nextOf (.ref i2) >>= _) _ _ _ from wpAny_bind (Ef (h2.to fun o e=>e3 _ o d4 (Ne.symm d10) (Ne.symm d9) e) (r2.to fun o e=>e3 _ o n2.1 n2.2.2.1 n2.2.1 e) hy fun g4 t4 s4=>wpAny_pure ?_))))
  have o4:IsPair g4 to' x b:=s4.extBut _ _ d9 o3
  refine wpAny_bind (wpAny_seqItems o4 rfl (wpAny_bind (wpAny_updateSeq_pair o4 fun g5 o5 s5=>wpAny_bind (wpAny_letGo (wpAny_pure (wpAny_pure ?_))))))
  have o5:IsPair g5 to' x y:=o5
  have sz:g5.objs.size=s.heap.objs.size:=by rw [s5.1,s4.1,s3.1,s2.1,s1.1]
  have z5:IsZip g5 z ti to' .ellipsis:=s5.extBut _ _ (Ne.symm d2) (s4.extBut _ _ (Ne.symm d4) (s3.extBut _ _ (Ne.symm d2) (s2.extBut _ _ (Ne.symm d3) z1)))
  have t5:Di k1 g5 i1 a1 (j1+1):=t2.to fun o e=>s5.extBut _ _ (Ne.symm d8) (s4.extBut _ _ d10 (s3.extBut _ _ (Ne.symm d8) e))
  have u5:Di k2 g5 i2 a2 (j2+1):=t4.to fun o e=>s5.extBut _ _ (Ne.symm d9) e
  refine wpAny_bind (wpAny_seqItems o5 rfl (wpAny_bind (wpAny_newTuple ?_)))
  refine (show wpAny _ _ (Builtin.SmallTypes.ownedTupleHandOut (.ref z) (.ref g5.objs.size) >>= _) _ _ _ from wpAny_bind ?_)
  unfold Builtin.SmallTypes.ownedTupleHandOut -- here
  have z6:IsZip (g5.push { cls:=.type "tuple",data:=.seq #[x,y] }) z ti to' .ellipsis:=Heap.get?_push_of_some _ z5
  refine wpAny_bind (wpAny_setField_rec z6 (by simp) fun g7 z7 s7=>?_)
  have z7:IsZip g7 z ti to' (rawInt g5.objs.size):=z7
  refine wpAny_setField_rec z7 (by simp) fun g8 z8 s8=>wpAny_pure ⟨_,rfl,?_⟩
  have z8:IsZip g8 z ti to' (rawInt g5.objs.size):=z8
  have e8:∀ c o,c≠z→g5.get? c=some o→g8.get? c=some o:=fun c o c1 e=>s8.extBut _ _ c1 (s7.extBut _ _ c1 (Heap.get?_push_of_some _ e))
  have p8:IsPair g8 g5.objs.size x y:=s8.extBut _ _ (Nat.ne_of_gt (Heap.lt_size z5)) (s7.extBut _ _ (Nat.ne_of_gt (Heap.lt_size z5)) (Heap.get?_push_size _ rfl))
  have all:∀ c o,c≠z→c≠to'→c≠i1→c≠i2→s.heap.get? c=some o→g8.get? c=some o:=fun c o c1 c2 c3 c4 e=>e8 c o c1 (s5.extBut _ _ c2 (s4.extBut _ _ c4 (e3 c o c1 c3 c2 e)))
  rw [sz] at z8 p8
  show Q (.ref g5.objs.size) _
  rw [sz]
  exact q g8 ⟨z8,all _ _ d1 d5 d6 d7 hI,x,y,e8 _ _ d2 o5⟩ (t5.to fun o e=>e8 _ o d3 e) (u5.to fun o e=>e8 _ o d4 e) p8 all
theorem a1v {k1 k2:Bool} {z ti to' i1 i2 a1 a2:Addr} {j1 j2:Nat} {xs ys:Array Value} {Q:PySem.Fin→Shared→Prop} (hh:A.handled=none) (D:Far z ti to' i1 i2) (Z:Le s.heap z ti to' i1 i2 .none)
    (h1:Di k1 s.heap i1 a1 j1) (h2:Di k2 s.heap i2 a2 j2) (r1:vq k1 s.heap a1 xs) (r2:vq k2 s.heap a2 ys) (n2:a2≠z∧a2≠to'∧a2≠i1∧a2≠i2) (n1:a1≠z) (hend:xs[j1]? = none∨ys[j2]? = none)
    (q:∀ h' e,Ry z to' i1 i2 s.heap h'→(∃ o,h'.get? e=some o∧o.cls=.type "StopIteration")→E (.ref e) { s with heap:=h' }) :
    wpAny (model prog w) A (Builtin.«zip.__next__» ⟨[.ref z],[]⟩) Q E s:=by -- here
  obtain ⟨hz,hI,a,b,hO⟩:=Z
  obtain ⟨d1,d2,d3,d4,d5,d6,d7,d8,d9,d10⟩:=D.all
  refine (show wpAny _ _ (field (.ref z) 2 >>= _) _ _ _ from wpAny_bind (wpAny_field hz rfl (x:=.bool false) rfl ?_))
  refine (show wpAny _ _ (field (.ref z) 3 >>= _) _ _ _ from wpAny_bind (wpAny_field hz rfl (x:=.ref ti) rfl (wpAny_bind (wpAny_seqItems hI rfl ?_))))
  refine (show wpAny _ _ (Builtin.SmallTypes.ownedTupleIsFree (.ref z) >>= _) _ _ _ from wpAny_bind ?_)
  unfold Builtin.SmallTypes.ownedTupleIsFree -- here
  refine wpAny_bind (wpAny_field hz rfl (x:=.none) rfl (wpAny_pure ?_)) -- here
  dsimp only
  rw [if_pos rfl]
  refine wpAny_bind (wpAny_rule (wpAny_bind (wpAny_field hz rfl (x:=.ref to') rfl (wpAny_bind (wpAny_setField_rec hz (by simp) fun g1 z1 s1=>wpAny_bind ?_)))))
  have z1:IsZip g1 z ti to' .ellipsis:=z1
  simp only [List.zipIdx_cons,List.zipIdx_nil,List.forIn_cons,List.forIn_nil] -- here
  have fin:∀ (g:Heap) (e:Addr) (zg:IsZip g z ti to' .ellipsis) (he:∃ o,g.get? e=some o∧o.cls=.type "StopIteration") (kg:Ry z to' i1 i2 s.heap g),wpAny (model prog w) A (setField (.ref z) 0 .none) (fun _ s'=>E (.ref e) s') E { s with heap:=g }:=fun g e zg ⟨o,ho,hc⟩ kg=>by
    have ne:e≠z:=fun x=>by subst x; rw [zg] at ho; cases ho; simp at hc
    exact wpAny_setField_rec zg (by simp) fun g' _ s'=>q g' e (fun c o c1 c2 c3 c4 x=>s'.extBut _ _ c1 (kg c o c1 c2 c3 c4 x)) ⟨o,s'.extBut _ _ ne ho,hc⟩
  cases hx:xs[j1]? with
  | none =>
    refine wpAny_bind (wpAny_bind (wpAny_onRaise (show wpAny _ _ (Builtin.SmallTypes.nextOf (.ref i1) >>= _) _ _ _ from wpAny_bind (Ba hh (h1.to fun o e=>s1.extBut _ _ d3 e) (r1.to fun o e=>s1.extBut _ _ n1 e) hx fun g2 e s2 he=>?_))))
    exact fin g2 e (s2 _ _ (Ne.symm d3) z1) he fun c o c1 _ c3 _ x=>s2 _ _ c3 (s1.extBut _ _ c1 x)
  | some x =>
    have hy:ys[j2]? = none:=hend.resolve_left fun h=>by rw [hx] at h; cases h
    refine wpAny_bind (wpAny_bind (wpAny_onRaise (show wpAny _ _ (Builtin.SmallTypes.nextOf (.ref i1) >>= _) _ _ _ from wpAny_bind (Ef (h1.to fun o e=>s1.extBut _ _ d3 e) (r1.to fun o e=>s1.extBut _ _ n1 e) hx fun g2 t2 s2=>wpAny_pure ?_))))
    have o2:IsPair g2 to' a b:=s2.extBut _ _ d8 (s1.extBut _ _ d2 hO)
    refine wpAny_bind (wpAny_seqItems o2 rfl (wpAny_bind (wpAny_updateSeq_pair o2 fun g3 o3 s3=>wpAny_bind (wpAny_letGo (wpAny_pure ?_)))))
    have e3:∀ c o,c≠z→c≠i1→c≠to'→s.heap.get? c=some o→g3.get? c=some o:=fun c o c1 c2 c3 e=>s3.extBut _ _ c3 (s2.extBut _ _ c2 (s1.extBut _ _ c1 e))
    refine wpAny_bind (wpAny_bind (wpAny_onRaise (show wpAny _ _ (Builtin.SmallTypes.nextOf (.ref i2) >>= _) _ _ _ from wpAny_bind (Ba hh (h2.to fun o e=>e3 _ o d4 (Ne.symm d10) (Ne.symm d9) e) (r2.to fun o e=>e3 _ o n2.1 n2.2.2.1 n2.2.1 e) hy fun g4 e s4 he=>?_))))
    exact fin g4 e (s4 _ _ (Ne.symm d4) (s3.extBut _ _ (Ne.symm d2) (s2.extBut _ _ (Ne.symm d3) z1))) he fun c o c1 c2 c3 c4 x=>s4 _ _ c4 (e3 c o c1 c3 c2 x)
theorem a2k {k1 k2:Bool} {z ti to' i1 i2 a1 a2:Addr} {j1 j2:Nat} {xs ys:Array Value} {x y:Value} {Q:Option Value→Shared→Prop} (D:Far z ti to' i1 i2) (Z:Le s.heap z ti to' i1 i2 .none)
    (h1:Di k1 s.heap i1 a1 j1) (h2:Di k2 s.heap i2 a2 j2) (r1:vq k1 s.heap a1 xs) (r2:vq k2 s.heap a2 ys) (n2:a2≠z∧a2≠to'∧a2≠i1∧a2≠i2) (n1:a1≠z) (hx:xs[j1]? = some x) (hy:ys[j2]? = some y)
    (q:∀ h',Le h' z ti to' i1 i2 (rawInt s.heap.objs.size)→Di k1 h' i1 a1 (j1+1)→Di k2 h' i2 a2 (j2+1)→IsPair h' s.heap.objs.size x y→Ry z to' i1 i2 s.heap h'→Q (some (.ref s.heap.objs.size)) { s with heap:=h' }) :
    wpAny (model prog w) A (pyNext (.ref z)) Q E s:=by -- here
  have ty:s.TypeIs (.ref z) "zip" := ⟨_,Z.zip,rfl⟩
  unfold pyNext
  exact wpAny_bind (wpAny_attempt (wpAny_callSpecial?_slot (name:=Str.ofString "__next__") ty F.slot_zip_next (wpAny_call_entry F.slot_zip_next ty F.entry_zip_next
    (a0z D Z h1 h2 r1 r2 n2 n1 hx hy fun h' a b c d e=>wpAny_pure (q h' a b c d e)) (F.args_zip_next_1 _))))
theorem a1z {k1 k2:Bool} {z ti to' i1 i2 a1 a2:Addr} {j1 j2:Nat} {xs ys:Array Value} {Q:Option Value→Shared→Prop} (hh:A.handled=none) (D:Far z ti to' i1 i2) (Z:Le s.heap z ti to' i1 i2 .none)
    (h1:Di k1 s.heap i1 a1 j1) (h2:Di k2 s.heap i2 a2 j2) (r1:vq k1 s.heap a1 xs) (r2:vq k2 s.heap a2 ys) (n2:a2≠z∧a2≠to'∧a2≠i1∧a2≠i2) (n1:a1≠z) (hend:xs[j1]? = none∨ys[j2]? = none)
    (q:∀ h',Ry z to' i1 i2 s.heap h'→Q none { s with heap:=h' }):wpAny (model prog w) A (pyNext (.ref z)) Q E s:=by
  have ty:s.TypeIs (.ref z) "zip" := ⟨_,Z.zip,rfl⟩
  unfold pyNext
  refine wpAny_bind (wpAny_attempt (wpAny_callSpecial?_slot (name:=Str.ofString "__next__") ty F.slot_zip_next (wpAny_call_entry F.slot_zip_next ty F.entry_zip_next
    (a1v hh D Z h1 h2 r1 r2 n2 n1 hend fun h' e kp he=>?_) (F.args_zip_next_1 _))))
  obtain ⟨o,ho,hc⟩:=he
  exact wpAny_bind (wpAny_isInstance (T := "StopIteration") (b:=true) ⟨o,ho,hc⟩ isSubtype_stop (wpAny_pure (q _ kp)))
end
abbrev Y4 (k:Bool) (a:Addr):Obj:={ cls:=.type (if k then "list_iterator" else "tuple_iterator"),data:=.fields #[.ref a,.int 0 0] }
abbrev zh1 (h:Heap) (k1:Bool) (a1:Addr):Heap:=h.push (Y4 k1 a1)
abbrev zh2 (h:Heap) (k1 k2:Bool) (a1 a2:Addr):Heap:=(zh1 h k1 a1).push (Y4 k2 a2)
abbrev zh3 (h:Heap) (k1 k2:Bool) (a1 a2:Addr):Heap:=(zh2 h k1 k2 a1 a2).push { cls:=.type "tuple",data:=.seq #[.ref h.objs.size,.ref (zh1 h k1 a1).objs.size] }
abbrev zh4 (h:Heap) (k1 k2:Bool) (a1 a2:Addr):Heap:=(zh3 h k1 k2 a1 a2).push { cls:=.type "tuple",data:=.seq #[.none,.none] }
abbrev zh5 (h:Heap) (k1 k2:Bool) (a1 a2:Addr):Heap:=(zh4 h k1 k2 a1 a2).push { cls:=.type "zip",data:=.fields #[.none,.bool false,.bool false,.ref (zh2 h k1 k2 a1 a2).objs.size,.ref (zh3 h k1 k2 a1 a2).objs.size] }
set_option maxHeartbeats 4000000 in
theorem Rz (a1 a2:Addr) (xs ys:Array Value):Meets (Builtin.«zip.__new__» ⟨[.type "zip",.ref a1,.ref a2],[]⟩) (fun _ R s=>s.heap.IsTuple a1 xs∧s.heap.IsTuple a2 ys ∧
      R (.ok (.ret (.ref (zh4 s.heap false false a1 a2).objs.size))) { s with heap:=zh5 s.heap false false a1 a2 }) :=
  .of_wp fun prog w A R s z9=>by
    obtain ⟨r1,r2,fin⟩:=z9
    obtain ⟨hp,g,d,tk,os⟩:=s -- here
    have hsub:=sub_zip
    have q1:Heap.IsTuple (Shared.heap ⟨hp,g,d,tk,os⟩) a1 xs:=r1
    have q2:Heap.IsTuple (Shared.heap ⟨hp.push { cls:=.type "tuple_iterator",data:=.fields #[.ref a1,.int 0 0] },g,d,tk,os⟩) a2 ys:=Heap.IsTuple.push r2 _
    wp_walk using wpAny_pyIter_tuple q1,wpAny_pyIter_tuple q2
    exact ⟨_,rfl,fin⟩
set_option maxHeartbeats 4000000 in
theorem S8 (a1 a2:Addr) (xs ys:Array Value):Meets (Builtin.«zip.__new__» ⟨[.type "zip",.ref a1,.ref a2],[]⟩) (fun _ R s=>s.heap.IsTuple a1 xs∧s.heap.IsList a2 ys ∧
      R (.ok (.ret (.ref (zh4 s.heap false true a1 a2).objs.size))) { s with heap:=zh5 s.heap false true a1 a2 }) :=
  .of_wp fun prog w A R s z9=>by
    obtain ⟨r1,r2,fin⟩:=z9
    obtain ⟨hp,g,d,tk,os⟩:=s -- here
    have hsub:=sub_zip
    have q1:Heap.IsTuple (Shared.heap ⟨hp,g,d,tk,os⟩) a1 xs:=r1
    have q2:Heap.IsList (Shared.heap ⟨hp.push { cls:=.type "tuple_iterator",data:=.fields #[.ref a1,.int 0 0] },g,d,tk,os⟩) a2 ys:=Heap.IsList.push r2 _
    wp_walk using wpAny_pyIter_tuple q1,wpAny_pyIter_list q2
    exact ⟨_,rfl,fin⟩
set_option maxHeartbeats 4000000 in
theorem Tc (a1 a2:Addr) (xs ys:Array Value):Meets (Builtin.«zip.__new__» ⟨[.type "zip",.ref a1,.ref a2],[]⟩) (fun _ R s=>s.heap.IsList a1 xs∧s.heap.IsTuple a2 ys ∧
      R (.ok (.ret (.ref (zh4 s.heap true false a1 a2).objs.size))) { s with heap:=zh5 s.heap true false a1 a2 }) :=
  .of_wp fun prog w A R s z9=>by
    obtain ⟨r1,r2,fin⟩:=z9
    obtain ⟨hp,g,d,tk,os⟩:=s -- here
    have hsub:=sub_zip
    have q1:Heap.IsList (Shared.heap ⟨hp,g,d,tk,os⟩) a1 xs:=r1
    have q2:Heap.IsTuple (Shared.heap ⟨hp.push { cls:=.type "list_iterator",data:=.fields #[.ref a1,.int 0 0] },g,d,tk,os⟩) a2 ys:=Heap.IsTuple.push r2 _
    wp_walk using wpAny_pyIter_list q1,wpAny_pyIter_tuple q2
    exact ⟨_,rfl,fin⟩
set_option maxHeartbeats 4000000 in
theorem Rq (a1 a2:Addr) (xs ys:Array Value):Meets (Builtin.«zip.__new__» ⟨[.type "zip",.ref a1,.ref a2],[]⟩) (fun _ R s=>s.heap.IsList a1 xs∧s.heap.IsList a2 ys ∧
      R (.ok (.ret (.ref (zh4 s.heap true true a1 a2).objs.size))) { s with heap:=zh5 s.heap true true a1 a2 }) :=
  .of_wp fun prog w A R s z9=>by
    obtain ⟨r1,r2,fin⟩:=z9
    obtain ⟨hp,g,d,tk,os⟩:=s -- here
    have hsub:=sub_zip
    have q1:Heap.IsList (Shared.heap ⟨hp,g,d,tk,os⟩) a1 xs:=r1
    have q2:Heap.IsList (Shared.heap ⟨hp.push { cls:=.type "list_iterator",data:=.fields #[.ref a1,.int 0 0] },g,d,tk,os⟩) a2 ys:=Heap.IsList.push r2 _
    wp_walk using wpAny_pyIter_list q1,wpAny_pyIter_list q2
    exact ⟨_,rfl,fin⟩
theorem a1a (k1 k2:Bool) (a1 a2:Addr) (xs ys:Array Value):Meets (Builtin.«zip.__new__» ⟨[.type "zip",.ref a1,.ref a2],[]⟩) (fun _ R s=>vq k1 s.heap a1 xs∧vq k2 s.heap a2 ys ∧
      R (.ok (.ret (.ref (zh4 s.heap k1 k2 a1 a2).objs.size))) { s with heap:=zh5 s.heap k1 k2 a1 a2 }):=by
  cases k1 <;> cases k2
  · exact Rz a1 a2 xs ys
  · exact S8 a1 a2 xs ys
  · exact Tc a1 a2 xs ys
  · exact Rq a1 a2 xs ys
theorem Ur {k:Bool} {h:Heap} {p a:Addr} (e:h.get? p=some (Y4 k a)):Di k h p a 0:=by
  cases k <;> exact ⟨_,e,rfl,rfl⟩
section
variable {prog:Program} {w:World} {A:Around} {E:Value→Shared→Prop} {s:Shared}
theorem a1c {k1 k2:Bool} {a1 a2:Addr} {xs ys:Array Value} {Q:Value→Shared→Prop} (r1:vq k1 s.heap a1 xs) (r2:vq k2 s.heap a2 ys)
    (q:∀ h',Le h' (s.heap.objs.size+4) (s.heap.objs.size+2) (s.heap.objs.size+3) s.heap.objs.size (s.heap.objs.size+1) .none→Di k1 h' s.heap.objs.size a1 0→Di k2 h' (s.heap.objs.size+1) a2 0 →
      (∀ c o,s.heap.get? c=some o→h'.get? c=some o)→Q (.ref (s.heap.objs.size+4)) { s with heap:=h' }):wpAny (model prog w) A (call (.type "zip") [.ref a1,.ref a2]) Q E s:=by
  refine callType_new F.called_zip (by decide) (F.typeCall_zip_2 _ _) (F.newCall_zip_2 _ _) (fun obj=>F.args_object_init_3 obj _ _) F.entry_zip_new (a1a k1 k2 a1 a2 xs ys) ⟨r1,r2,?_⟩
  have y1:(zh1 s.heap k1 a1).objs.size=s.heap.objs.size+1:=Heap.size_push ..
  have y2:(zh2 s.heap k1 k2 a1 a2).objs.size=s.heap.objs.size+2:=by rw [Heap.size_push,y1]
  have y3:(zh3 s.heap k1 k2 a1 a2).objs.size=s.heap.objs.size+3:=by rw [Heap.size_push,y2]
  have y4:(zh4 s.heap k1 k2 a1 a2).objs.size=s.heap.objs.size+4:=by rw [Heap.size_push,y3]
  have up:∀ {h:Heap} {o:Obj} {c:Addr} {u:Obj},h.get? c=some u→(h.push o).get? c=some u:=fun e=>Heap.get?_push_of_some _ e
  have g5:(zh5 s.heap k1 k2 a1 a2).get? (zh4 s.heap k1 k2 a1 a2).objs.size=some _:=Heap.get?_push_size _ rfl
  have g4:(zh5 s.heap k1 k2 a1 a2).get? (zh3 s.heap k1 k2 a1 a2).objs.size=some _:=up (Heap.get?_push_size _ rfl)
  have g3:(zh5 s.heap k1 k2 a1 a2).get? (zh2 s.heap k1 k2 a1 a2).objs.size=some _:=up (up (Heap.get?_push_size _ rfl))
  have g2:(zh5 s.heap k1 k2 a1 a2).get? (zh1 s.heap k1 a1).objs.size=some (Y4 k2 a2):=up (up (up (Heap.get?_push_size _ rfl)))
  have g1:(zh5 s.heap k1 k2 a1 a2).get? s.heap.objs.size=some (Y4 k1 a1):=up (up (up (up (Heap.get?_push_size _ rfl))))
  show _∧_
  rw [y2,y3,y4] at g5
  rw [y1,y2] at g3
  rw [y3] at g4
  rw [y1] at g2
  rw [y4]
  exact ⟨⟨_,g5,rfl⟩,q _ ⟨g5,g3,_,_,g4⟩ (Ur g1) (Ur g2) fun c o x=>up (up (up (up (up x))))⟩
end
end C
end
section
namespace C
open PySem PySem.Spec PyProof.Rows L2
theorem Inv.Yp {X:Cx} {pins:List (Addr × Obj)} {σ:L2.St} {H:Hp} {s:Shared} {h':Heap} {t':Nat} {ch:List Addr} {n:Addr} {o:HO} (I:L2.Inv X pins σ H s) (hch:∀ b∈ch,Ra X pins H b)
    (k:∀ b u,b∉ch→s.heap.get? b=some u→h'.get? b=some u) (hp:s.heap.objs.size≤n) (new:su X.prog X.w (upd H n o) h' n o):L2.Inv X pins σ (upd H n o) { s with heap:=h',toks:=t' }:=by
  have fr:=I.hok.fresh hp
  have nn:∀ b u,s.heap.get? b=some u→b≠n:=fun b u e=>Nat.ne_of_lt (Nat.lt_of_lt_of_le (Heap.lt_size e) hp)
  have nch:∀ b u,H b=some u→b∉ch:=fun b u e z=>by rw [(hch b z).1] at e; cases e
  refine I.step (g':=s.gens) (d':=s.drawn) (ch:=ch) (fun b hb=>?_) (fun b u _ _ hc e _=>k b u hc e) (fun b u _ _ hc e _=>⟨u.slots,k b u hc e⟩) (fun b u _ e z=>by rw [dw (nn b u e)]; exact z)
    (fun b u hc e=>⟨u,k b u hc e⟩) (fun b xs e=>by rw [dw (jr e fr)]; exact e) (fun b u xs e=>by rw [dw (jr e fr)]; exact e) (fun b ps e=>⟨#[],by rw [dw (jr e fr),e]; simp⟩) (fun m hm=>?_) (fun b u e=>?_) I.bare
  · obtain ⟨f0,f1,f2,f3,f4,f5⟩:=hch b hb
    exact ⟨f3,f1,f4,f5⟩
  · obtain ⟨ob,es,ep,ho,r⟩:=hm
    exact ⟨ob,es,ep,k _ ob (fun z=>(hch _ z).2.1 rfl) ho,r⟩
  · by_cases hb:b=n
    · subst hb; rw [dj] at e; cases e; exact new
    · rw [dw hb] at e
      refine (I.hok b u e).stay (fun c v hc q=>k c v ?_ q) (fun c q=>by rw [dw (jr q fr)]; exact q) fun c xs q=>by rw [dw (jr q fr)]; exact q
      rcases hc with rfl | hc
      · exact nch _ _ e
      · exact nch _ _ hc
theorem Inv.a5z {X:Cx} {pins:List (Addr × Obj)} {σ:L2.St} {H:Hp} {s:Shared} {h':Heap} {t':Nat} {ch:List Addr} (I:L2.Inv X pins σ H s) (hch:∀ b∈ch,Ra X pins H b)
    (k:∀ b u,b∉ch→s.heap.get? b=some u→h'.get? b=some u):L2.Inv X pins σ H { s with heap:=h',toks:=t' }:=by
  have nch:∀ b u,H b=some u→b∉ch:=fun b u e z=>by rw [(hch b z).1] at e; cases e
  refine I.step (g':=s.gens) (d':=s.drawn) (ch:=ch) (fun b hb=>?_) (fun b u _ _ hc e _=>k b u hc e) (fun b u _ _ hc e _=>⟨u.slots,k b u hc e⟩) (fun b u _ e z=>z)
    (fun b u hc e=>⟨u,k b u hc e⟩) (fun b xs e=>e) (fun b u xs e=>e) (fun b ps e=>⟨#[],by rw [e]; simp⟩) (fun m hm=>?_) (fun b u e=>?_) I.bare
  · obtain ⟨f0,f1,f2,f3,f4,f5⟩:=hch b hb
    exact ⟨f3,f1,f4,f5⟩
  · obtain ⟨ob,es,ep,ho,r⟩:=hm
    exact ⟨ob,es,ep,k _ ob (fun z=>(hch _ z).2.1 rfl) ho,r⟩
  · refine (I.hok b u e).stay (fun c v hc q=>k c v ?_ q) (fun c q=>q) fun c xs q=>q
    rcases hc with rfl | hc
    · exact nch _ _ e
    · exact nch _ _ hc
def Sq:Bool→PySem.W.Frag→Hp→Addr→List V→Prop
  | true,K,H,a,xs=>SqL K H a xs
  | false,K,H,a,xs=>SqT K H a xs
section
variable {X:Cx} {pins:List (Addr × Obj)} {σ:L2.St} {H:Hp} {s:Shared} {a:Addr} {xs ys:List V} {k:Bool}
theorem Sq.row (I:L2.Inv X pins σ H s) (h:Sq k X.K H a xs):∃ its:List Value,Vals xs its∧vq k s.heap a its.toArray:=by
  cases k with
  | true=>obtain ⟨its,r,p,_⟩:=I.list h; exact ⟨its,r,p.isList⟩
  | false=>obtain ⟨its,r,p,_⟩:=I.tuple h; exact ⟨its,r,p⟩
end
theorem a5b (n:Nat):Far (n+4) (n+2) (n+3) n (n+1):=⟨by
  have h1:n+4≠n+2:=by omega
  have h2:n+4≠n+3:=by omega
  have h3:n+4≠n:=by omega
  have h4:n+4≠n+1:=by omega
  have h5:n+2≠n+3:=by omega
  have h6:n+2≠n:=by omega
  have h7:n+2≠n+1:=by omega
  have h8:n+3≠n:=by omega
  have h9:n+3≠n+1:=by omega
  have h10:n≠n+1:=by omega
  exact List.nodup_cons.mpr ⟨by simp only [List.mem_cons,List.not_mem_nil,or_false,not_or]; exact ⟨h1,h2,h3,h4⟩,List.nodup_cons.mpr ⟨by simp only [List.mem_cons,List.not_mem_nil,or_false,not_or]; exact ⟨h5,h6,h7⟩,List.nodup_cons.mpr ⟨by simp only [List.mem_cons,List.not_mem_nil,or_false,not_or]; exact ⟨h8,h9⟩,List.nodup_cons.mpr ⟨by simp only [List.mem_cons,List.not_mem_nil,or_false]; exact h10,List.nodup_cons.mpr ⟨by simp,.nil⟩⟩⟩⟩⟩⟩
section
variable {X:Cx} {B:Bas} {a b:Expr} {m m1 m2:M T} {pos p:Pos} {elts:List Expr} {x1:Nat} {tpos:Pos}
theorem Wz {K:PySem.W.Frag} {S:Hp} {as:List Addr} {v:V} {t:T} {xs:List T} (r:Rep K S as v t) (e:N8 t=some xs):∃ k a vs,v=.ref a∧Sq k K S a vs∧m7 K S as vs xs∧(k=true∧t=.lst xs∨k=false∧t=.tup xs):=by
  cases r with
  | @lst a vs ts g1 g2=>simp only [N8] at e; cases e; exact ⟨true,a,vs,rfl,g1,g2,.inl ⟨rfl,rfl⟩⟩
  | @tup a vs ts g1 g2=>simp only [N8] at e; cases e; exact ⟨false,a,vs,rfl,g1,g2,.inr ⟨rfl,rfl⟩⟩
  | _=>simp only [N8,reduceCtorEq] at e
theorem Sq.mono {k:Bool} {K:PySem.W.Frag} {S H:Hp} {a:Addr} {vs:List V} (e:Same S H) (h:Sq k K S a vs):Sq k K H a vs:=by
  cases k with
  | true=>exact ji e h
  | false=>exact ju e h
end
end C
end
section
namespace C
open PySem PySem.Spec PyProof.Rows L2
section
variable {X:Cx}
variable {B:Bas} {o e:Expr} {m1 m2:M T} {apos cpos:Pos}
end
end C
end
section
namespace C
open PySem PySem.Spec PyProof.Rows L2
theorem Tq (n d:Nat) (o:Option Int):sIx n d o=HT.sIx n d o:=by cases o <;> rfl
inductive oOf (K:PySem.W.Frag) (B:Bas) (m:M (Option Int)) (σ:L2.St) (H:Hp) (Q:Option Int→Hp→Prop):Prop
  | mk (st:Sta) (ps:List (V × T)) (S:Hp) (as:List Addr) (R:Rel K B st σ H ps S as) (o:Option Int) (st':Sta) (e:m st=some (o,st')) (q:∀ H' S' as',Rel K B st' σ H' ps S' as'→Q o H')
section
variable {X:Cx} {B:Bas} {a e:Expr} {m:M T} {ml mh:M (Option Int)} {lo hi:Option Expr} {pos p2:Pos}
theorem Z7:PO X none (oOf X.K B Og):=fun pins s σ H Q I ⟨st,ps,S,as,R,o,st',e,q⟩=>a5s pins s σ H Q I (by cases e; exact q H S as R)
theorem Gn (h:PE X e (tOf X.K B m)):PO X (some e) (oOf X.K B (Ax m)):=fun pins s σ H Q I z9=>a6d h pins s σ H Q I (by
  obtain ⟨st,ps,S,as,R,o,st',eo,q⟩:=z9
  unfold Ax at eo
  split at eo
  · rename_i i s1 e1
    cases eo
    refine ⟨st,ps,S,as,R,.int i,_,e1,fun v H1 S1 as1 R1=>?_⟩
    cases R1.top
    exact ⟨i,rfl,q H1 S1 as1 R1.drop⟩
  · cases eo)
theorem W7 {s s':Sta} {v:T} (h:zc m ml mh s=some (v,s')):∃ t s1 l s2 u,m s=some (t,s1)∧ml s1=some (l,s2)∧mh s2=some (u,s')∧Wn l u t=some v:=by
  unfold zc at h
  split at h
  · rename_i t s1 e1
    split at h
    · rename_i l s2 e2
      split at h
      · rename_i u s3 e3
        split at h
        · rename_i w e4; cases h; exact ⟨t,s1,l,s2,u,e1,e2,e3,e4⟩
        · cases h
      · cases h
    · cases h
  · cases h
theorem m7.takes {K:PySem.W.Frag} {S:Hp} {as:List Addr}:∀ (n:Nat) {vs:List V} {ts:List T},m7 K S as vs ts→m7 K S as (vs.take n) (ts.take n)
  | 0,_,_,_=>.nil
  | _+1,_,_,.nil=>.nil
  | n+1,_,_,.cons h r=>.cons h (m7.takes n r)
theorem Uh {K:PySem.W.Frag} {S:Hp} {as:List Addr} {vs:List V} {ts:List T} (r:m7 K S as vs ts) (lo hi:Option Int):m7 K S as (a0a vs lo hi) (a4i ts lo hi):=by
  unfold a0a a4i
  rw [Tq,Tq,r.length]
  exact m7.takes _ (r.drop _)
theorem Iz (ha:PE X a (tOf X.K B m)) (hl:PO X lo (oOf X.K B ml)) (hh:PO X hi (oOf X.K B mh)):PE X (.Subscript a (.Slice lo hi none p2) pos) (tOf X.K B (zc m ml mh)) :=
  (a1t (a4y.or a8f) ha hl hh).imp fun σ H Q z9=>by
    obtain ⟨st,ps,S,as,R,t,st',e,q⟩:=z9
    obtain ⟨t1,s1,l,s2,u,e1,e2,e3,e4⟩:=W7 e
    refine ⟨st,ps,S,as,R,t1,s1,e1,fun v H1 S1 as1 R1=>⟨s1,_,S1,as1,R1,l,s2,e2,fun H2 S2 as2 R2=>⟨s2,_,S2,as2,R2,u,st',e3,fun H3 S3 as3 R3=>?_⟩⟩⟩
    have top:=R3.top
    cases top with
    | @lst b vs ts g1 g2 =>
      simp only [Wn] at e4; cases e4
      refine .inl ⟨b,vs,rfl,ji R3.sub g1,fun p hp=>?_⟩
      have x:=Ext.laid R3.sub hp (.lst (a0a vs l u))
      exact q _ _ _ _ ((R3.drop.ext x).push (.lst (SqL.of dj) ((Uh g2 l u).mono x.s nol)))
    | @tup b vs ts g1 g2 =>
      simp only [Wn] at e4
      split at e4
      · cases e4
      · rename_i hw
        cases e4
        refine .inr ⟨b,vs,rfl,ju R3.sub g1,?_,fun p hp=>?_⟩
        · rw [Tq,Tq,← g2.length] at hw; exact hw
        · have x:=Ext.laid R3.sub hp (.tup (a0a vs l u))
          exact q _ _ _ _ ((R3.drop.ext x).push (.tup (SqT.of dj) ((Uh g2 l u).mono x.s nol)))
    | _=>exact jm e4
end
section
variable {prog:Program} {w:World} {A:Around} {E:Value→Shared→Prop} {s:Shared}
end
section
variable {X:Cx} {B:Bas} {e:Expr} {te:TE} {m m1 m2:M T} {pos p p2 p3 p4:Pos} {j:Nat}
theorem W2 {i:Nat} {k:M T} {s s':Sta} {t:T} (h:Bg i k s=some (t,s')):Hg i s=true∧∃ j xs f n,k s=some (.int j,s')∧s'.env[i]? = some (some (.lst xs,f))∧ixI xs.length j=some n∧xs[n]? = some t:=by
  unfold Bg at h
  split at h
  · rename_i hd
    refine ⟨hd,?_⟩
    split at h
    · rename_i j s1 e1
      split at h
      · rename_i xs f e2
        split at h
        · rename_i u e3
          cases h
          obtain ⟨n,h1,h2⟩:=Option.bind_eq_some_iff.mp e3
          exact ⟨j,xs,f,n,e1,e2,h1,h2⟩
        · cases h
      · cases h
    · cases h
  · cases h
theorem Nx (i:Nat) {o k:Expr} {mk:M T} (ho:PE X o (W9 i)) (hk:PE X k (tOf X.K B mk)) (hs:Nm k):PE X (.Subscript o k pos) (tOf X.K B (Bg i mk)):=(a5x Sh ho hk hs).imp fun σ H Q z9=>by
  obtain ⟨st,ps,S,as,R,t,st',e,q⟩:=z9
  obtain ⟨hd,j,xs,f,n,e1,e2,e3,e4⟩:=W2 e
  obtain ⟨xs0,f0,e0⟩:=Qt hd
  obtain ⟨p0,vs0,s0,_⟩:=R.listAt e0
  refine ⟨_,s0,st,ps,S,as,R,.int j,st',e1,fun u H2 S2 as2 R2=>?_⟩
  cases R2.top
  obtain ⟨p1,vs1,s1,rd1,h4⟩:=R2.listAt e2
  rw [s0] at s1; cases s1
  obtain ⟨z,hz,rz⟩:=h4.get e4
  refine ⟨p0,vs1,j,z,rfl,rfl,rd1,?_,q z H2 S2 as2 (R2.drop.push rz)⟩
  rw [Ls,← h4.length] at e3
  unfold atI; rw [e3]; exact hz
end
end C
end
section
end
section
namespace C
open PySem PySem.Spec L2
def Held (K:PySem.W.Frag) (u:Value) (t:T):Prop:=∃ v,RelV v u∧∀ S as,Rep K S as v t
def Rj (K:PySem.W.Frag) (us:List Value) (ts:List T):Prop:=∃ vs,Vals vs us∧∀ S as,m7 K S as vs ts
section
variable {K:PySem.W.Frag}
theorem Held.int {i:Int} {tk:Tok}:Held K (.int i tk) (.int i):=⟨.int i,⟨tk,rfl⟩,fun _ _=>.int i⟩
theorem Held.str {x:Str} {tk:Tok}:Held K (.str x tk) (.str x):=⟨.str x,⟨tk,rfl⟩,fun _ _=>.str x⟩
theorem Held.bl {b:Bool}:Held K (.bool b) (.bl b):=⟨.bl b,rfl,fun _ _=>.bl b⟩
theorem Held.non:Held K .none .non:=⟨.non,rfl,fun _ _=>.non⟩
theorem Rj.nil:Rj K [] []:=⟨[],.nil,fun _ _=>.nil⟩
theorem Rj.cons {u:Value} {t:T} {us:List Value} {ts:List T} (h:Held K u t) (hs:Rj K us ts):Rj K (u::us) (t::ts):=by
  obtain ⟨v,r,e⟩:=h
  obtain ⟨vs,rs,es⟩:=hs
  exact ⟨v::vs,.cons r rs,fun S as=>.cons (e S as) (es S as)⟩
theorem Held.tup {a:Addr} {us:List Value} {n:Nat} {sl:Array (Option Value)} {ts:List T} (h:K.lookup a=some ⟨.type "tuple",none,.seq us.toArray n,sl⟩) (hz:us.length≤1000) (hs:Rj K us ts):Held K (.ref a) (.tup ts):=by
  obtain ⟨vs,rs,es⟩:=hs
  refine ⟨.ref a,rfl,fun S as=>.tup (.inr ⟨_,us.toArray,n,h,rfl,rfl,rfl,?_,?_⟩) (es S as)⟩
  · rw [List.size_toArray,sizeLine_eq]; omega
  · exact rs
theorem Held.lst {a:Addr} {us:List Value} {n:Nat} {sl:Array (Option Value)} {ts:List T} (h:K.lookup a=some ⟨.type "list",none,.seq us.toArray n,sl⟩) (hz:us.length≤1000) (hs:Rj K us ts):Held K (.ref a) (.lst ts):=by
  obtain ⟨vs,rs,es⟩:=hs
  refine ⟨.ref a,rfl,fun S as=>.lst (.inr ⟨_,us.toArray,n,h,rfl,rfl,rfl,?_,?_⟩) (es S as)⟩
  · rw [List.size_toArray,sizeLine_eq]; omega
  · exact rs
end
section
variable {X:Cx} {B:Bas} {pos:Pos}
end
end C
end
section
namespace C
open PySem PySem.Spec PyProof.Rows
section
variable {prog:Program} {w:World} {A:Around} {E:Value→Shared→Prop} {s:Shared}
end
end C
end
section
namespace C
open PySem PySem.Spec PyProof.Rows
section
variable {prog:Program} {w:World} {A:Around} {R:Result→Shared→Prop} {I:Addr} {fp wr:List Addr} {G:Array GenState→Array GenState→Prop} {n:Nat} {P:Nat→Value→Prop} {St:Nat→Shared→Prop} -- here
end
section
variable {prog:Program} {w:World} {A:Around} {E:Value→Shared→Prop} {s:Shared}
end
end C
end
section
namespace C
open PySem PySem.Spec PyProof.Rows
section
variable {prog:Program} {w:World} {A:Around} {E:Value→Shared→Prop} {s:Shared}
end
end C
end
section
namespace C
open PySem PySem.Spec PyProof.Rows
section
variable {prog:Program} {w:World} {A:Around} {E:Value→Shared→Prop} {s:Shared}
end
end C
end
section
namespace C
open PySem PySem.Spec PyProof.Rows
section
variable {prog:Program} {w:World} {A:Around} {E:Value→Shared→Prop} {s:Shared} {I a:Addr} {i n ep:Nat} {o:Obj} {es:Array (Int × Value)} {t:SetTable} {Q:Option Value→Shared→Prop}
end
end C
end
section
namespace C
open PySem PySem.Spec PyProof.Rows
section
variable {prog:Program} {w:World} {A:Around} {E:Value→Shared→Prop} {s:Shared} {I a q:Addr} {i n ep:Nat} {o:Obj} {es:Array (Int × Value)} {t:SetTable} {Q:Option Value→Shared→Prop} {ps:List Nat}
end
end C
end
section
namespace C
open PySem PySem.Spec PyProof.Rows
section
variable {prog:Program} {w:World} {A:Around} {E:Value→Shared→Prop} {s:Shared} {I a q:Addr} {n ep:Nat} {o:Obj} {es:Array (Int × Value)} {t:SetTable} {ps:List Nat}
end
end C
end
section
namespace C
open PySem PySem.Spec PyProof.Rows
section
variable {prog:Program} {w:World} {A:Around} {E:Value→Shared→Prop} {s:Shared} {a:Addr} {o:Obj} {l:List Str}
end
end C
end
section
namespace C
open PySem PySem.Spec PyProof.Rows
section
variable {prog:Program} {w:World} {A:Around} {E:Value→Shared→Prop} {s:Shared} {a:Addr} {o:Obj} {l:List Str}
end
end C
end
section
namespace C
open PySem PySem.Spec PyProof.Rows L2
section
variable {X:Cx} {B:Bas} {e:Expr} {m1:M T} {p1 p2 p3 p4:Pos}
theorem Inv.drawn {pins:List (Addr × Obj)} {σ:L2.St} {H:Hp} {s:Shared} (I:L2.Inv X pins σ H s) (d:Drawn):L2.Inv X pins σ H { s with drawn:=d } :=
  ⟨I.ok,I.os,I.bare,I.base,I.loc,I.cell,I.free,I.freeC,I.pin,I.hok,I.len⟩
end
end C
end
section
namespace C
open PySem PySem.Spec PyProof.Rows L2
open AutoSeq1 (wpAny_loadPart') -- here
open MeetsSeq MeetsSeq2 MeetsSeq3 -- here
section
variable {prog:Program} {w:World} -- here
end
section
variable {X:Cx} {pins:List (Addr × Obj)} {σ:L2.St} {H S:Hp} {s:Shared} {as:List Addr}
end
end C
end
section
namespace C
open PySem PySem.Spec PyProof.Rows L2
theorem a71 {K:PySem.W.Frag} {F:Fn} {H:Hp} {a:Addr} {ns:List Int} (hS:SqL K H a (ns.map V.int)) (hE:∃ st,F [.lst (ns.map T.int)] []=some (.bl true,st)):spF K 1 F [.ref a] H (fun v _=>v=.bl true) fun _ _ _=>False:=by
  obtain ⟨st,hF⟩:=hE
  have reps:∀ (S:Hp) (l:List Int),m7 K S [] (l.map V.int) (l.map T.int):=fun S l=>by
    induction l with
    | nil=>exact .nil
    | cons x l ih=>exact .cons (.int x) ih
  let S:Hp:=fun p=>if p=a then H p else none
  have sa:S a=H a:=if_pos rfl
  have sub:Same S H:=fun p u h=>by
    by_cases e:p=a
    · subst e; rw [← sa]; exact h
    · have:S p=none:=if_neg e
      rw [this] at h; cases h
  have sq:SqL K S a (ns.map V.int):=by
    rcases hS with h | h
    · refine .inl ?_
      unfold Rd at h ⊢
      rw [sa]; exact h
    · exact .inr h
  refine ⟨S,[],[],[.lst (ns.map T.int)],.bl true,st,sub,⟨rfl,.nil,fun n so e=>by simp at e⟩,.cons (.lst sq (reps S ns)) .nil,rfl,hF,fun v H' S' as' _ _ _ r=>?_⟩
  cases r
  rfl
end C
end
section
namespace C
open PySem
def G3 (t u:T):Option T:=match N8 t,N8 u with
  | some xs,some ys=>if xs.length<lim∧ys.length<lim then (vf (a69 xs ys)).map fun l=>.dic (l.foldl (fun d p=>La p.1 p.2 d) []) else none
  | _,_=>none
def Lb (xs:List T):List T:=xs.zipIdx.map fun p=>.tup [.int (p.2:Int),p.1]
def Gv (a:M T):M (List T):=fun s=>match a s with
  | some (.lst xs,s1)=>if xs.length<lim then some (Lb xs,s1) else none
  | _=>none
def a8w (f:List (Key × T)→List T) (a:M T):M (List T):=fun s=>match a s with
  | some (.dic kvs,s1)=>if kvs.length<lim then some (f kvs,s1) else none
  | _=>none
def Ib (kvs:List (Key × T)):List T:=kvs.map fun p=>.tup [W3 p.1,p.2]
def Oi (a:M T):M (List T):=a8w Ib a
def Vq:T→T→Option T
  | .lst xs,.int j=>if 0≤j∧j<1000000∧xs.length * j.toNat<lim then some (.lst (List.replicate j.toNat xs).flatten) else none
  | _,_=>none
mutual
def noObj:T→Bool
  | .obj _=>false
  | .tup xs=>Hw xs
  | .lst xs=>Hw xs
  | .dic kvs=>O8 kvs
  | _=>true
def Hw:List T→Bool
  | []=>true
  | x::r=>noObj x&&Hw r
def O8:List (Key × T)→Bool
  | []=>true
  | (_,x)::r=>noObj x&&O8 r
end
def O1 (is:List Nat) (env:List Slot):List Slot:=(lend is env).map fun s=>match s with
  | some (t,f)=>if noObj t then some (t,f) else none
  | none=>none
def Ob (is:List Nat) (m:M Bool):M Bool:=fun s=>match m ⟨O1 is s.env,[]⟩ with
  | some (b,s1)=>match s1.sto with
    | []=>some (b,s)
    | _=>none
  | none=>none
end C
end
section
namespace C
open PySem PySem.Spec PyProof.Rows L2
theorem a8y {kvs:List (L2.Key × V)} {vs:List (L2.Key × Value)} (r:KV kvs vs):∀ {i:Nat} {k:L2.Key} {v:V},kvs[i]? = some (k,v)→∃ u,vs[i]? = some (k,u)∧RelV v u:=by
  unfold KV at r
  induction r with
  | nil=>intro i k v e; simp at e
  | cons h _ ih =>
    intro i k v e
    cases i with
    | zero =>
      simp at e
      rename_i p q _ _ _
      subst e
      exact ⟨q.2,by obtain ⟨a,b⟩:=q; simp at h ⊢; exact h.1.symm,h.2⟩
    | succ j =>
      obtain ⟨u,h1,h2⟩:=ih (i:=j) (k:=k) (v:=v) (by simpa using e)
      exact ⟨u,by simpa using h1,h2⟩
theorem a6m {k:L2.Key} {u:Value} (h:Qf k u=true):RelV (kV k) u:=by
  rcases m9 h with ⟨i,t,rfl,rfl⟩ | ⟨x,t,rfl,rfl⟩
  · exact ⟨t,rfl⟩
  · exact ⟨t,rfl⟩
theorem Zw {P:Program} {w:World} {H:Hp} {h:Heap} {d:Addr} {o:Obj} {kvs:List (L2.Key × V)} {es:Array DictEntry} {ep:Nat} (hd:o.data=.dict es ep) (ok:HOk P w H h) (e:H d=some (.frz o (.dK kvs))) :
    (d==sysModules)=false∧∃ vs,KV kvs vs∧h.DictAt (lg P w) d vs ep:=by
  obtain ⟨ho,z,y,vs,r,o',es',ep',ho',hx,hd',q⟩:=(show su P w H h d (.frz o (.dK kvs)) from ok d _ e)
  rw [ho] at ho'; cases ho'
  rw [hd] at hd'; cases hd'
  exact ⟨y,vs,r,o,es,ho,hx,hd,q⟩
def ab5 (J:Addr→Obj→List (L2.Key × V)→It) (i:Nat):TI:=fun σ H R=>∃ d o kvs,σ[i]? = some (some (.ref d))∧H d=some (.frz o (.dK kvs))∧R (J d o kvs) H
section
variable {K:PySem.W.Frag} {S S':Hp} {as:List Addr}
def Jh (S S':Hp):Prop:=∀ a u,(∀ o v,u≠HO.frz o v)→Rd S a u→Rd S' a u
mutual
theorem Rep.rdx (e:Jh S S'):∀ {v:V} {t:T},Rep K S as v t→Rep K S' as v t
  | _,_,.non=>.non
  | _,_,.bl b=>.bl b
  | _,_,.int i=>.int i
  | _,_,.str y=>.str y
  | _,_,.tup h r=>.tup (h.imp (e _ _ fun _ _=>HO.noConfusion) id) (m7.rdx e r)
  | _,_,.lst h r=>.lst (h.imp (e _ _ fun _ _=>HO.noConfusion) id) (m7.rdx e r)
  | _,_,.dic h r=>.dic (e _ _ (fun _ _=>HO.noConfusion) h) (Ac.rdx e r)
  | _,_,.obj h=>.obj h
theorem m7.rdx (e:Jh S S'):∀ {v:List V} {t:List T},m7 K S as v t→m7 K S' as v t
  | _,_,.nil=>.nil
  | _,_,.cons h r=>.cons (Rep.rdx e h) (m7.rdx e r)
theorem Ac.rdx (e:Jh S S'):∀ {v:List (L2.Key × V)} {t:List (L2.Key × T)},Ac K S as v t→Ac K S' as v t
  | _,_,.nil=>.nil
  | _,_,.cons h r=>.cons (Rep.rdx e h) (Ac.rdx e r)
end
theorem W6.rdx (e:Jh S S'):∀ {v:List (List L2.Key × V)} {t:List (List L2.Key × T)},W6 K S as v t→W6 K S' as v t
  | _,_,.nil=>.nil
  | _,_,.cons h r=>.cons (Rep.rdx e h) (W6.rdx e r)
theorem Own.rdx {H H':Hp} {p:Addr} {t:T} (e:Jh S S') (hh:H p=H' p) (o:Own K S as H p t):Own K S' as H' p t:=by
  cases t with
  | lst ts=>obtain ⟨vs,h,r⟩:=o; exact ⟨vs,hh ▸ h,r.rdx e⟩
  | dic ts=>obtain ⟨vs,h,r⟩:=o; exact ⟨vs,hh ▸ h,r.rdx e⟩
  | _=>exact o.elim
theorem Yj.rdx {H H':Hp} {a:Addr} {so:SO} (e:Jh S S') (hh:H a=H' a) (o:Yj K S as H a so):Yj K S' as H' a so:=by
  cases so with
  | dic ts=>obtain ⟨vs,h,r⟩:=o; exact ⟨vs,hh ▸ h,r.rdx e⟩
  | lst ts=>obtain ⟨vs,h,r⟩:=o; exact ⟨vs,hh ▸ h,r.rdx e⟩
  | dit ts=>obtain ⟨vs,h,r⟩:=o; exact ⟨vs,hh ▸ h,r.rdx e⟩
def Still (z:HO) (kvs:List (L2.Key × V)):Prop:=z=.dK kvs∨∃ o,z=.frz o (.dK kvs)
theorem K1 {d:Addr} {kvs:List (L2.Key × V)} {z z':HO} (hd:S d=some z') (h':Still z' kvs) (h:Still z kvs):Jh S (upd S d z):=fun a u hu r=>by
  by_cases e:a=d
  · subst e
    have eu:u=.dK kvs:=by
      rcases r with r | ⟨o,r⟩
      · rw [hd] at r; cases r
        rcases h' with h' | ⟨o,h'⟩
        · exact h'
        · exact absurd h' (hu _ _)
      · rw [hd] at r; cases r
        rcases h' with h' | ⟨o,h'⟩
        · cases h'
        · cases h'; rfl
    subst eu
    rcases h with rfl | ⟨o,rfl⟩
    · exact .inl dj
    · exact .inr ⟨o,dj⟩
  · rcases r with r | ⟨o,r⟩
    · exact .inl (by rw [dw e]; exact r)
    · exact .inr ⟨o,by rw [dw e]; exact r⟩
theorem Lh.swap {B B':Bas} {H:Hp} {p d:Addr} {t:T} {kvs:List (L2.Key × V)} {z z':HO} (o:Lh K B S as H p t) (hd:S d=some z') (h':Still z' kvs) (h:Still z kvs) (hB:B.H p=none→B'.H p=none) :
    Lh K B' (upd S d z) as (upd H d z) p t:=by
  have ne:p≠d:=fun e=>by have:=o.out; rw [e,hd] at this; cases this
  exact ⟨o.own.rdx (K1 hd h' h) (dw ne).symm,by rw [dw ne]; exact o.out,o.nas,hB o.new⟩
theorem Rel.swap {B B':Bas} {st:Sta} {σ:L2.St} {H:Hp} {ps:List (V × T)} {d:Addr} {kvs:List (L2.Key × V)} {z z':HO} (r:Rel K B st σ H ps S as) (hd:S d=some z') (h':Still z' kvs) (h:Still z kvs)
    (hg:Us B' (upd S d z) as (upd H d z)) (hB:∀ p,B.H p=none→B'.H p=none):Rel K B' st σ (upd H d z) ps (upd S d z) as where
  sub:=fun b u e=>by
    by_cases eb:b=d
    · subst eb; rw [dj] at e ⊢; exact e
    · rw [dw eb] at e ⊢; exact r.sub _ _ e
  grow:=hg
  slots:=fun i t f e=>by
    obtain ⟨v,h1,h2,h3⟩:=r.slots i t f e
    refine ⟨v,h1,fun q=>(h2 q).rdx (K1 hd h' h),fun q=>?_⟩
    obtain ⟨p,ep,o⟩:=h3 q
    exact ⟨p,ep,o.swap hd h' h (hB p)⟩
  apart:=r.apart
  sto:=⟨r.sto.len,r.sto.nd,fun n so e=>by
    obtain ⟨a,h1,h2,h3⟩:=r.sto.at' n so e
    have ne:a≠d:=fun e=>by rw [e,hd] at h2; cases h2
    exact ⟨a,h1,by rw [dw ne]; exact h2,h3.rdx (K1 hd h' h) (dw ne).symm⟩⟩
  pend:=fun p hp=>(r.pend p hp).rdx (K1 hd h' h)
  len:=r.len
theorem Us.still {B:Bas} {H:Hp} {d:Addr} {z z':HO} (g:Us B S as H) (hd:S d=some z'):Us ⟨upd S d z,as,B.H⟩ (upd S d z) as (upd H d z) where
  same:=Same.refl _
  more:=nol
  keep:=fun p o h1 h2 h3=>by
    have ne:p≠d:=fun e=>by subst e; change upd S p z p=none at h2; rw [dj] at h2; cases h2
    have h2':S p=none:=by rw [← dw (H:=S) (o:=z) ne]; exact h2
    have b2:B.S p=none:=by
      cases q:B.S p with
      | none=>rfl
      | some u=>have:=g.same _ _ q; rw [h2'] at this; cases this
    have b3:p∉B.as:=fun q=>by obtain ⟨l,e⟩:=g.more; exact h3 (by show p∈as; rw [e]; exact List.mem_append_left _ q)
    exact ⟨by rw [dw ne]; exact (g.keep p o h1 b2 b3).1,h2,h3⟩
theorem Us.back {B:Bas} {H H':Hp} {as':List Addr} {d:Addr} {z z':HO} (g:Us B S as H) (hd:S d=some z') (g':Us ⟨upd S d z,as,B.H⟩ S' as' H'):Us B (upd S' d z') as' (upd H' d z') where
  same:=fun b u e=>by
    have e1:=g.same _ _ e
    by_cases eb:b=d
    · subst eb; rw [hd] at e1; cases e1; exact dj
    · rw [dw eb]; exact g'.same _ _ (by show upd S d z b=some u; rw [dw eb]; exact e1)
  more:=by
    obtain ⟨l,e⟩:=g.more
    obtain ⟨l',e'⟩:=g'.more
    exact ⟨l++l',by rw [e',← List.append_assoc,← e]⟩
  keep:=fun p o h1 h2 h3=>by
    obtain ⟨a,b,c⟩:=g.keep p o h1 h2 h3
    have ne:p≠d:=fun e=>by subst e; rw [hd] at b; cases b
    obtain ⟨a',b',c'⟩:=g'.keep p o h1 (by show upd S d z p=none; rw [dw ne]; exact b) c
    exact ⟨by rw [dw ne]; exact a',by rw [dw ne]; exact b',c'⟩
end
theorem a1m {X:Cx} {pins:List (Addr × Obj)} {σ:L2.St} {H:Hp} {s:Shared} {d:Addr} {o:Obj} {kvs:List (L2.Key × V)} (I:Inv X pins σ H s) (e:H d=some (.frz o (.dK kvs))) (n:∀ o u,X.H₀ d≠some (.frz o u)) :
    Inv X pins σ (upd H d (.dK kvs)) s:=by
  have nn:∀ b,H b=none→upd H d (.dK kvs) b=none:=fun b h=>by rw [dw (fun q=>by subst q; rw [e] at h; cases h)]; exact h
  have nt:∀ b xs,H b=some (.tup xs)→upd H d (.dK kvs) b=some (.tup xs):=fun b xs h=>by rw [dw (fun q=>by subst q; rw [e] at h; cases h)]; exact h
  have no:∀ b x,H b=some (.own x)→upd H d (.dK kvs) b=some (.own x):=fun b xs h=>by rw [dw (fun q=>by subst q; rw [e] at h; cases h)]; exact h
  have hok:HOk X.prog X.w (upd H d (.dK kvs)) s.heap:=fun b u q=>by
    by_cases eb:b=d
    · subst eb
      rw [dj] at q; cases q
      obtain ⟨_,x⟩:=(show su X.prog X.w H s.heap b (.frz o (.dK kvs)) from I.hok b _ e)
      exact su.stay x (fun _ _ _ q=>q) (fun b q=>no b _ q) nt
    · rw [dw eb] at q
      exact (I.hok b u q).stay (fun _ _ _ q=>q) (fun b q=>no b _ q) nt
  refine ⟨I.ok,I.os,I.bare,⟨I.base.keep,I.base.slot,fun b ob h1 h2 h3=>nn b (I.base.free b ob h1 h2 h3),I.base.there,fun b xs q=>nt b xs (I.base.tups b xs q),fun b ob u q=>?_,fun b ps q=>?_⟩,I.loc,I.cell,nn _ I.free,fun x c q=>nn c (I.freeC x c q),fun p hp=>?_,hok,I.len⟩
  · rw [dw (fun z=>by subst z; exact n _ _ q)]; exact I.base.frzs b ob u q
  · obtain ⟨m,hm⟩:=I.base.tbls b ps q
    exact ⟨m,by rw [dw (fun z=>by subst z; rw [e] at hm; cases hm)]; exact hm⟩
  · obtain ⟨a,b,c⟩:=I.pin p hp
    exact ⟨a,nn _ b,c⟩
section
variable {X:Cx} {scope:Scope} {N:List Str} {B:Bas} {nv:Nat} {cap:List Nat} {g:G} {c:M Bool} {e:M T} {tg iter elt:Expr} {ifs:List Expr} {pos:Pos} {i:Nat}
theorem a1f {f:List (L2.Key × T)→List T} {ts:List T} {s s1:Sta} (h:a8w f (bh i) s=some (ts,s1)):∃ kvs,ts=f kvs∧kvs.length<lim∧((s.env[i]? = some (some (.dic kvs,false))∧s1=s)∨(s.env[i]? = some (some (.dic kvs,true))∧s1 = { s with env:=s.env.set i (some (.dic kvs,false)) })):=by
  unfold a8w at h
  split at h
  · rename_i kvs s2 e2
    split at h
    · rename_i hl
      cases h
      exact ⟨kvs,rfl,hl,U0 e2⟩
    · cases h
  · cases h
def Walk (K:PySem.W.Frag) (J:Addr→Obj→List (L2.Key × V)→It) (f:List (L2.Key × T)→List T):Prop:=∀ S as H d o vs ts,Same S H→H d=some (.frz o (.dK vs))→Ac K S as vs ts→Js K S as H (J d o vs) (f ts)
theorem Mq {J:Addr→Obj→List (L2.Key × V)→It} {f:List (L2.Key × T)→List T} (wk:Walk X.K J f) (co:Zo X scope N nv cap) {st s1 s2:Sta} {ps:List (V × T)} {S:Hp} {as:List Addr} {σ:L2.St} {H:Hp} {d:Addr} {o:Obj} {vs:List (L2.Key × V)} {ts:List (L2.Key × T)} {us:List T} {Q:VK}
    (R:Rel X.K B s1 σ H ps S as) (hσ:σ[i]? = some (some (.ref d))) (hB:B.S d=some (.frz o (.dK vs))) (hk:Ac X.K B.S B.as vs ts)
    (hc:Bp g c e (f ts) ⟨List.replicate nv none++cap.map (fun i=>((jg cap s1.env)[i]?).getD none),s1.sto⟩ []=some (us,s2))
    (q:∀ p H' S' as',Rel X.K B ⟨jg cap s1.env,s2.sto⟩ σ H' ps S' as'→Lh X.K B S' as' H' p (.lst us)→J8 ⟨jg cap s1.env,s2.sto⟩ σ p→Q (.ref p) H') :
    a3c X scope N (ab5 J i) (gE X.K g) (cE X.K c) (eE X.K e) σ H Q:=by
  obtain ⟨S2,R2⟩:=R.jg cap
  refine ⟨d,o,vs,hσ,R.sub _ _ (R.grow.same _ _ hB),?_⟩
  exact Ot (ps':=[]) co.len (fun _ _ _ _=>trivial) co.at' R2 (fun k hk=>Fo cap s1.env k hk) (fun S as H sB mr _ sub=>wk S as H d o vs ts sub (sub _ _ (sB _ _ hB)) (hk.mono sB mr)) hc fun D H' S' as' R' o n=>q D H' S' as' R' o n
theorem a0i {J:Addr→Obj→List (L2.Key × V)→It} {f:List (L2.Key × T)→List T} (wk:Walk X.K J f) (co:Zo X scope N nv cap) (sc:Ht X scope N) (calm:X.calm=true) (hi:PI X tg iter (ab5 J i))
    (hg:∀ C s₀ H₀ ex pn,PG (qz X scope N C s₀ H₀ ex pn) tg (gE X.K g)) (hc:∀ C s₀ H₀ ex pn,PTs (qz X scope N C s₀ H₀ ex pn) ifs (cE X.K c)) (he:∀ C s₀ H₀ ex pn,PE (qz X scope N C s₀ H₀ ex pn) elt (eE X.K e))
    (hs:∀ x,foldedSetIterable iter X.env x=pure x:=by intro _; rfl):PE X (.ListComp elt [⟨tg,iter,ifs,0⟩] scope pos) (fOf X.K B (uy nv cap g (a8w f (bh i)) c e)):=by
  have P:=Yg (pos:=pos) sc calm hi hg hc he hs
  intro pins s σ H Q I z8
  obtain ⟨st,ps,S0,as,R0,t,st',em,q⟩:=z8
  obtain ⟨ts0,s1,us,s2,e1,e2,rfl,rfl⟩:=Pr em
  obtain ⟨ts,rfl,hl,hst⟩:=a1f e1
  have hR:∃ S,Rel X.K B s1 σ H ps S as∧s1.env[i]? = some (some (.dic ts,false)):=by
    rcases hst with ⟨h1,rfl⟩ | ⟨h1,rfl⟩
    · exact ⟨S0,R0,h1⟩
    · obtain ⟨S,R⟩:=R0.Sw h1
      exact ⟨S,R,List.getElem?_set_self (List.getElem?_eq_some_iff.mp h1).1⟩
  obtain ⟨S,R,hE⟩:=hR
  obtain ⟨v,hσ,hv,_⟩:=R.slots i _ _ hE
  cases hv rfl with
  | @dic d vs _ hrd hrk =>
    obtain ⟨z',hS,hz'⟩:∃ z',S d=some z'∧Still z' vs:=by
      rcases hrd with h | ⟨o,h⟩
      · exact ⟨_,h,.inl rfl⟩
      · exact ⟨_,h,.inr ⟨o,rfl⟩⟩
    have hH:=R.sub _ _ hS
    obtain ⟨o,ho⟩:∃ o,s.heap.get? d=some o:=by
      have:=(I.hok d _ hH).lt
      rcases hz' with rfl | ⟨o,rfl⟩
      · obtain ⟨_,_,_,_,o,_,_,e,_⟩:=(show su X.prog X.w H s.heap d (.dK vs) from I.hok d _ hH); exact ⟨o,e⟩
      · exact ⟨o,(show su X.prog X.w H s.heap d (.frz o (.dK vs)) from I.hok d _ hH).1⟩
    rcases hz' with rfl | ⟨o',rfl⟩
    · have nf:∀ o u,X.H₀ d≠some (.frz o u):=fun o u h=>by have:=I.base.frzs d o u h; rw [hH] at this; cases this
      have I1:Inv X pins σ (upd H d (.frz o (.dK vs))) s:=I.write (x:=d) (e:=d) (h':=s.heap) (t':=s.toks) (by rw [hH]; trivial) (.inl rfl) (fun _ _ _ q=>q) ⟨o,ho⟩
        ⟨ho,su.stay (show su X.prog X.w H s.heap d (.dK vs) from I.hok d _ hH) (fun _ _ _ q=>q) (fun b q=>by rw [dw (fun z=>by subst z; rw [hH] at q; cases q)]; exact q) fun b xs q=>by rw [dw (fun z=>by subst z; rw [hH] at q; cases q)]; exact q⟩
      have R1:=R.swap (B':=⟨upd S d (.frz o (.dK vs)),as,B.H⟩) (z:=.frz o (.dK vs)) hS (.inl rfl) (.inr ⟨o,rfl⟩) (R.grow.still hS) fun _ h=>h
      refine thn (P pins s σ _ (fun v H'=>H' d=some (.frz o (.dK vs))∧Q v (upd H' d (.dK vs))) I1 (Mq wk (st:=st) (o:=o) (vs:=vs) (ts:=ts) co R1 hσ dj (hrk.rdx (K1 hS (.inl rfl) (.inr ⟨o,rfl⟩))) e2 fun p H' S' as' R' ow n=>?_)) fun u s' ⟨v,H',I',r,hf,hq⟩=>⟨v,_,a1m I' hf nf,r,hq⟩
      have hS':S' d=some (.frz o (.dK vs)):=R'.grow.same _ _ dj
      refine ⟨R'.sub _ _ hS',q p _ (upd S' d (.dK vs)) as' (R'.swap hS' (.inr ⟨o,rfl⟩) (.inl rfl) (R.grow.back hS R'.grow) fun _ h=>h) (ow.swap hS' (.inr ⟨o,rfl⟩) (.inl rfl) fun h=>h) n⟩
    · have R1:Rel X.K ⟨S,as,B.H⟩ s1 σ H ps S as:=⟨R.sub,⟨Same.refl _,nol,fun p o h1 h2 h3=>by
          change S p=none at h2
          have b2:B.S p=none:=by
            cases q:B.S p with
            | none=>rfl
            | some u=>have:=R.grow.same _ _ q; rw [h2] at this; cases this
          have b3:p∉B.as:=fun q=>by obtain ⟨l,e⟩:=R.grow.more; exact h3 (by show p∈as; rw [e]; exact List.mem_append_left _ q)
          exact ⟨(R.grow.keep p o h1 b2 b3).1,h2,h3⟩⟩,fun i t f e=>by
            obtain ⟨v,h1,h2,h3⟩:=R.slots i t f e
            exact ⟨v,h1,h2,fun q=>by obtain ⟨p,ep,o⟩:=h3 q; exact ⟨p,ep,o.own,o.out,o.nas,o.new⟩⟩,R.apart,R.sto,R.pend,R.len⟩
      refine P pins s σ _ Q I (Mq wk (st:=st) (o:=o') (vs:=vs) (ts:=ts) co R1 hσ hS hrk e2 fun p H' S' as' R' ow n=>q p H' S' as' ⟨R'.sub,⟨R.grow.same.trans R'.grow.same,?_,fun p o h1 h2 h3=>?_⟩,fun i t f e=>?_,R'.apart,R'.sto,R'.pend,R'.len⟩ ⟨ow.own,ow.out,ow.nas,ow.new⟩ n)
      · obtain ⟨l,e⟩:=R.grow.more
        obtain ⟨l',e'⟩:=R'.grow.more
        exact ⟨l++l',by rw [e',← List.append_assoc,← e]⟩
      · obtain ⟨a,b,c⟩:=R.grow.keep p o h1 h2 h3
        exact R'.grow.keep p o h1 b c
      · obtain ⟨v,h1,h2,h3⟩:=R'.slots i t f e
        exact ⟨v,h1,h2,fun q=>by obtain ⟨p,ep,o⟩:=h3 q; exact ⟨p,ep,o.own,o.out,o.nas,o.new⟩⟩
end
section
def Itp (d:Addr) (o:Obj) (kvs:List (L2.Key × V)):It :=
  ⟨fun i H=>H d=some (.frz o (.dK kvs))∧∃ p,kvs[i]? = some p,fun i H v H'=>∃ p,H p=none∧v=.ref p∧∀ q,kvs[i]? = some q→H'=upd H p (.tup [kV q.1,q.2]),fun i H=>H d=some (.frz o (.dK kvs))∧kvs.length≤i⟩
theorem Fl:entryFor table "dict_itemiterator.__iter__" = some Builtin.«dict_keyiterator.__iter__» :=
  entryFor_alias (id' := "dict_keyiterator.__iter__") (by kernel_rfl) (by first | rfl | decide +kernel | (unfold String.splitOn; simp +decide [String.splitOnAux])) (by decide +kernel) (by kernel_rfl) -- here
theorem Jk {prog:Program} {w:World} {A:Around} {E:Value→Shared→Prop} {s:Shared} {it d:Addr} {i n ep:Nat} {ok ov:Value} {Q:Value→Shared→Prop} (hit:IsItemIter s.heap it d i n ep ok ov) (h:Q (.ref it) s):wpAny (model prog w) A (pyIter (.ref it)) Q E s:=by
  have hT:s.TypeIs (.ref it) "dict_itemiterator" := ⟨_,hit,rfl⟩ -- here
  refine wpAny_pyIter_slot hT PySem.F.slot_dict_itemiterator_iter (wpAny_call_entry PySem.F.slot_dict_itemiterator_iter hT Fl ?_ (PySem.F.args_dict_itemiterator_iter_1 _))
  show wpAny _ _ (ret (.ref it)) _ _ s -- here
  exact wpAny_pure ⟨_,rfl,"dict_itemiterator",_,hT,PySem.F.slot_dict_itemiterator_next.lookup,h⟩ -- here
theorem Vl {P:Program} {w:World} {K:PySem.W.Frag} {elts:List Expr} {x1:Nat} {pos:Pos} (d it:Addr) {o:Obj} {kvs:List (L2.Key × V)} {es:Array DictEntry} {ep:Nat} (hd:o.data=.dict es ep) :
    Turn P w K (.Tuple elts x1 pos) (Itp d o kvs) [it] it (fun i h=>∃ ok ov,IsItemIter h it d i kvs.length ep ok ov) where
  mem:=by simp
  obj:=fun i h ⟨ok,ov,st⟩ b hb=>by
    have e:b=it:=by simpa using hb
    subst e
    exact ⟨_,st,fun v z=>by cases z⟩
  keep:=fun i h h' ⟨ok,ov,st⟩ k=>⟨ok,ov,k it (by simp) _ st⟩
  item:=by
    intro X hP hw hK hc i pins s σ H E I hf z8 hg
    obtain ⟨ok,ov,st⟩:=z8
    subst hP hw hK
    obtain ⟨hF,⟨k,v⟩,hx⟩:=hg
    obtain ⟨_,vs,rv,da⟩:=Zw hd I.hok hF
    obtain ⟨u,hu,ru⟩:=a8y rv hx
    rw [KV.length rv] at st
    refine wpAny_pyNext_items_item st da hu fun key h' hk st' hp hsz kp=>?_
    refine ⟨_,rfl,wpAny_letOwnedTupleGo_items (s:={ s with heap:=h' }) st' fun h2 st2 s2=>?_⟩
    have lt:s.heap.objs.size≠it:=Nat.ne_of_gt (Heap.lt_size st)
    have pair:h2.get? s.heap.objs.size=some { cls:=.type "tuple",data:=.seq #[key,u] }:=s2.extBut _ _ lt hp
    have J:L2.Inv X pins σ (upd H s.heap.objs.size (.tup [kV k,v])) { s with heap:=h2,toks:=s.toks }:=Inv.Yp (ch:=[it]) I hf (fun b o hb eb=>by
      have hb':b≠it:=by simpa using hb
      exact s2.extBut _ _ hb' (kp b o hb' eb)) (Nat.le_refl _) ⟨by show 2≤sizeLine; rw [sizeLine_eq]; decide,[key,u],.cons (a6m hk) (.cons ru .nil),⟨_,pair,rfl,rfl,0,rfl⟩⟩
    refine ⟨.ref s.heap.objs.size,_,J,rfl,⟨s.heap.objs.size,I.hok.fresh (Nat.le_refl _),rfl,fun q hq=>by rw [hx] at hq; cases hq; rfl⟩,⟨key,u,by rw [KV.length rv]; exact st2⟩,fun b hb=>?_⟩
    have e:b=it:=by simpa using hb
    subst e
    rw [dw (Ne.symm lt)]; exact (hf b hb).1
  done:=by
    intro X hP hw hK hc i pins s σ H E I hf z8 hg
    obtain ⟨ok,ov,st⟩:=z8
    subst hP hw hK
    obtain ⟨hF,hx⟩:=hg
    obtain ⟨_,vs,rv,da⟩:=Zw hd I.hok hF
    obtain ⟨f0,f1,f2,f3,f4,f5⟩:=hf it (by simp)
    rw [KV.length rv] at st hx
    exact wpAny_pyNext_items_end (I.ok.hd hc) st da (List.getElem?_eq_none hx) fun h' eb=>⟨rfl,I.turned (t':=s.toks) (fun b o hb e=>eb b o hb e) f0 f1 f3 f4 f5⟩
  self:=fun _ _ _ _ _ ⟨ok,ov,st⟩ h=>Jk st h
theorem a1j {X:Cx} {elts:List Expr} {x1:Nat} {tpos apos cpos:Pos} {l:Expr} {i:Nat} (hl:PE X l (W9 i)) (hbase:attributeBase l "items" X.env (eval l X.env)=eval l X.env:=by rfl) (hline:(apos.endLine==cpos.line)=true:=by rfl) :
    PI X (.Tuple elts x1 tpos) (.Call (.Attribute l "items" apos) [] [] cpos) (ab5 Itp i):=by
  intro pins s σ H R I z8
  obtain ⟨d,o,kvs,e1,e2,q⟩:=z8
  refine wpAny_Call_method0_late hbase hline (thn (hl pins s σ H (fun x H1=>x=.ref d∧H1=H) I ⟨_,e1,rfl,rfl⟩) fun v s1 z0=>?_)
  obtain ⟨x,H1,I1,r1,hx,hH⟩:=z0
  subst hx; subst hH
  cases r1
  obtain ⟨ho,z,y,vs,r,o',es,ep,ho',hxd,hd',qq⟩:=(show su X.prog X.w H1 s1.heap d (.frz o (.dK kvs)) from I1.hok d _ e2)
  rw [ho] at ho'; cases ho'
  obtain ⟨_,vs',rv,da⟩:=Zw hd' I1.hok e2
  refine ⟨"dict","dict.items",PySem.F.plainAttrs_dict,PySem.F.slot_dict_items,PySem.F.type_dict_items,da.dictOf.typeIs,da.dictOf.mapOf.noDict,Calls.callWith_builtin rfl (PySem.evalArgs_none ?_)⟩
  refine call_meetsIn PySem.F.slot_dict_items da.dictOf.typeIs PySem.F.entry_dict_items (PySem.F.args_dict_items_1 _) (meets_dict_items (lg X.prog X.w) d y) ⟨⟨vs',da.dictOf⟩,?_⟩
  have I2:=I1.kept (h':=s1.heap.push { cls:=.type "dict_items",data:=.fields #[.ref d] }) (t':=s1.toks) fun b o e=>Heap.get?_push_of_some _ e
  refine wpAny_pyIter_items (s:={ s1 with heap:=s1.heap.push { cls:=.type "dict_items",data:=.fields #[.ref d] } }) ⟨_,Heap.get?_push_size _ rfl,rfl,rfl⟩ (da.push _) ?_
  generalize hg:s1.heap.push { cls:=.type "dict_items",data:=.fields #[.ref d] } = g at *
  refine ⟨g.objs.size,[g.objs.size],_,_,H1,rfl,I2.kept (t':=s1.toks) fun b o e=>Heap.get?_push_of_some _ e,Vl d g.objs.size hd',⟨.none,.none,?_⟩,fun b hb=>?_,q⟩
  · show (g.push _).get? g.objs.size=_
    rw [Heap.get?_push_size _ rfl,KV.length rv]; rfl
  have e:b=g.objs.size:=by simpa using hb
  subst e
  exact I2.a7f (Nat.le_refl _) (I2.hok.fresh (Nat.le_refl _))
theorem Qm {K:PySem.W.Frag} {S:Hp} {as:List Addr}:∀ {vs:List (L2.Key × V)} {ts:List (L2.Key × T)},Ac K S as vs ts→∀ (i:Nat) (t:T),(Ib ts)[i]? = some t→∃ k v u,vs[i]? = some (k,v)∧t=.tup [W3 k,u]∧Rep K S as v u
  | _,_,.nil,i,t,e=>by simp [Ib] at e
  | _,_,.cons (k:=k) (v:=v) (t:=u) hu hr,0,t,e=>by simp [Ib] at e; exact ⟨k,v,u,rfl,e.symm,hu⟩
  | _,_,.cons hu hr,j+1,t,e=>by
    obtain ⟨k2,v2,u2,a,b,c⟩:=Qm hr j t (by simpa [Ib] using e)
    exact ⟨k2,v2,u2,by simpa using a,b,c⟩
theorem W4 {K:PySem.W.Frag}:Walk K Itp Ib:=fun S as H d o vs ts sub h r=>by
  refine ⟨fun i t e=>?_,fun i hi=>⟨h,?_⟩⟩
  · obtain ⟨k,v,u,a,rfl,c⟩:=Qm r i t e
    refine ⟨⟨h,_,a⟩,fun x H' z0=>?_⟩
    obtain ⟨p,hn,hv,hH⟩:=z0
    have:=hH _ a
    subst hv this
    have x:=Ext.laid sub hn (.tup [kV k,v])
    refine ⟨_,x,.tup (SqT.of dj) (.cons ?_ (.cons (c.mono x.s nol) .nil))⟩
    cases k with
    | inl i=>exact .int i
    | inr y=>exact .str y
  · have:=r.length
    unfold Ib at hi
    rw [List.length_map] at hi
    omega
theorem a3b {X:Cx} {scope:Scope} {N:List Str} {B:Bas} {nv:Nat} {cap:List Nat} {g:G} {c:M Bool} {e:M T} {elt:Expr} {ifs:List Expr} {pos:Pos} {i:Nat} {elts:List Expr} {x1:Nat} {tpos apos cpos:Pos} {l:Expr} (co:Zo X scope N nv cap) (sc:Ht X scope N) (calm:X.calm=true) (hi:PE X l (W9 i))
    (hg:∀ C s₀ H₀ ex pn,PG (qz X scope N C s₀ H₀ ex pn) (.Tuple elts x1 tpos) (gE X.K g)) (hc:∀ C s₀ H₀ ex pn,PTs (qz X scope N C s₀ H₀ ex pn) ifs (cE X.K c)) (he:∀ C s₀ H₀ ex pn,PE (qz X scope N C s₀ H₀ ex pn) elt (eE X.K e))
    (hs:∀ x,foldedSetIterable (.Call (.Attribute l "items" apos) [] [] cpos) X.env x=pure x:=by intro _; rfl) (hbase:attributeBase l "items" X.env (eval l X.env)=eval l X.env:=by rfl) (hline:(apos.endLine==cpos.line)=true:=by rfl) :
    PE X (.ListComp elt [⟨.Tuple elts x1 tpos,.Call (.Attribute l "items" apos) [] [] cpos,ifs,0⟩] scope pos) (fOf X.K B (uy nv cap g (Oi (bh i)) c e)) :=
  a0i W4 co sc calm (a1j hi hbase hline) hg hc he hs
end
end C
end
section
namespace C
open PySem PySem.Spec PyProof.Rows L2
def Itm (K:PySem.W.Frag) (a:Addr):It :=
  ⟨fun i H=>∃ xs x,SqL K H a xs∧xs[i]? = some x,fun i H v H'=>∃ p x,H p=none∧v=.ref p∧H'=upd H p (.tup [.int (i:Int),x])∧∀ xs,SqL K H a xs→xs[i]? = some x,fun i H=>∃ xs,SqL K H a xs∧xs.length≤i⟩
theorem Z1 {P:Program} {w:World} {K:PySem.W.Frag} {elts:List Expr} {x1:Nat} {pos:Pos} {a e it:Addr} (hne:e≠it) :
    Turn P w K (.Tuple elts x1 pos) (Itm K a) [e,it] e (fun i h=>(∃ old,IsEnum h e it (i:Int) old)∧h.IsListIter it a i) where
  mem:=by simp
  obj:=fun i h ⟨⟨old,he⟩,t⟩ b hb=>by
    simp only [List.mem_cons,List.not_mem_nil,or_false] at hb -- here
    rcases hb with rfl | rfl
    · exact ⟨_,he,fun v q=>by cases q⟩
    · obtain ⟨o,e,c,d⟩:=t
      exact ⟨o,e,fun v z=>by rw [d] at z; cases z⟩
  keep:=fun i h h' ⟨⟨old,he⟩,t⟩ k=>⟨⟨old,k e (by simp) _ he⟩,t.at fun o q=>k it (by simp) o q⟩
  item:=by
    intro X hP hw hK hc i pins s σ H E I hf ⟨⟨old,he⟩,t⟩ ⟨xs,x,q1,e1⟩
    subst hP hw hK
    obtain ⟨its,rv,p,hz⟩:=I.list q1
    obtain ⟨u,g1,ru⟩:=rv.get e1
    refine wpAny_pyNext_enum_item he t p.isList (x:=u) (by simpa using g1) hne fun h' heo t' hp hsz kp=>?_
    refine ⟨_,rfl,wpAny_letOwnedTupleGo_enum (s:={ s with heap:=h',toks:=s.toks+1 }) heo fun h2 he2 s2=>?_⟩
    have lt:∀ b∈[e,it],s.heap.objs.size≠b:=fun b hb=>by
      simp only [List.mem_cons,List.not_mem_nil,or_false] at hb -- here
      rcases hb with rfl | rfl
      · exact Nat.ne_of_gt (Heap.lt_size he)
      · obtain ⟨o,e,_⟩:=t
        exact Nat.ne_of_gt (Heap.lt_size e)
    have pair:h2.get? s.heap.objs.size=some { cls:=.type "tuple",data:=.seq #[.int i s.toks,u] }:=s2.extBut _ _ (lt e (by simp)) hp
    have J:L2.Inv X pins σ (upd H s.heap.objs.size (.tup [.int (i:Int),x])) { s with heap:=h2,toks:=s.toks+1 }:=Inv.Yp (ch:=[e,it]) I hf (fun b o hb eb=>by
      simp only [List.mem_cons,List.not_mem_nil,or_false,not_or] at hb
      exact s2.extBut _ _ hb.1 (kp b o hb.1 hb.2 eb)) (Nat.le_refl _) ⟨by show 2≤sizeLine; rw [sizeLine_eq]; decide,[.int i s.toks,u],.cons ⟨_,rfl⟩ (.cons ru .nil),⟨_,pair,rfl,rfl,0,rfl⟩⟩
    refine ⟨.ref s.heap.objs.size,_,J,rfl,⟨s.heap.objs.size,x,I.hok.fresh (Nat.le_refl _),rfl,rfl,fun xs' h=>by rw [I.V8 h q1]; exact e1⟩,⟨⟨u,?_⟩,?_⟩,fun b hb=>?_⟩
    · have:((i+1:Nat):Int)=(i:Int)+1:=by omega
      rw [this]; exact he2
    · exact t'.at fun o q=>s2.extBut _ _ (Ne.symm hne) q
    · rw [dw (Ne.symm (lt b hb))]; exact (hf b hb).1
  done:=by
    intro X hP hw hK hc i pins s σ H E I hf ⟨⟨old,he⟩,t⟩ ⟨xs,q1,hx⟩
    subst hP hw hK
    obtain ⟨its,rv,p,hz⟩:=I.list q1
    have hl:=rv.length
    refine wpAny_pyNext_enum_end (I.ok.hd hc) he t p.isList (by simp; omega) fun h' kp=>⟨rfl,Inv.a5z (t':=s.toks) (ch:=[e,it]) I hf fun b u hb eb=>?_⟩
    simp only [List.mem_cons,List.not_mem_nil,or_false,not_or] at hb
    exact kp b u hb.2 eb
  self:=fun _ _ _ _ _ ⟨⟨_,he⟩,_⟩ h=>wpAny_pyIter_enum he h
def iEm (K:PySem.W.Frag) (ta:TA):TI:=fun σ H R=>ta σ H fun vs H1=>∃ a xs,vs=[.ref a]∧SqL K H1 a xs∧R (Itm K a) H1
section
variable {X:Cx} {B:Bas} {a:Expr} {m:M T} {pos p:Pos} {elts:List Expr} {x1:Nat} {tpos:Pos}
theorem a5o {ta:TA} (hg:Gl X "enumerate") (hm:X.mg "enumerate" = none) (ha:PA X [a] ta) (hs:starEach [a] X.env=[(false,eval a X.env)]:=by rfl) :
    PI X (.Tuple elts x1 tpos) (.Call (.Name "enumerate" p) [a] [] pos) (iEm X.K ta):=by
  intro pins s σ H R I h
  refine Call_ (Kd I hg hm boot_enumerate (PyProof.Rows.callWith_type1 (thn (ha pos pins s σ H _ I h) fun us s1 z0=>?_) (by rw [hs]; rfl) (by rfl)))
  obtain ⟨vs,H1,I1,r1,q1⟩:=z0
  obtain ⟨a,xs,e,w1,q⟩:=q1
  subst e
  cases r1 with
  | cons r rr =>
    cases rr
    cases r
    obtain ⟨its,rv,pL,hz⟩:=I1.list w1
    refine call_enumerate_list pL.isList fun h' he hit hsz kp=>wpAny_pyIter_enum he ?_
    refine ⟨_,[s1.heap.objs.size+1,s1.heap.objs.size],_,_,H1,rfl,I1.kept (t':=s1.toks) kp,Z1 (Nat.succ_ne_self _),⟨⟨_,he⟩,hit⟩,fun b hb=>?_,q⟩
    have hle:s1.heap.objs.size≤b:=by
      simp only [List.mem_cons,List.not_mem_nil,or_false] at hb -- here
      rcases hb with rfl | rfl
      · exact Nat.le_succ _
      · exact Nat.le_refl _
    exact I1.a7f hle (I1.hok.fresh hle)
theorem Qp {ts:List T} {s s':Sta} (h:Gv m s=some (ts,s')):∃ xs,m s=some (.lst xs,s')∧xs.length<lim∧ts=Lb xs:=by
  unfold Gv at h
  split at h
  · rename_i xs s1 e1
    split at h
    · rename_i hl; cases h; exact ⟨xs,e1,hl,rfl⟩
    · cases h
  · cases h
theorem a06:∀ st ts st',Gv m st=some (ts,st')→ts.length≤sizeLine:=fun st ts st' e=>by
  obtain ⟨xs,_,l1,rfl⟩:=Qp e
  unfold Lb
  rw [List.length_map,List.length_zipIdx]
  exact Nat.le_trans (Nat.le_of_lt l1) lq
theorem Zu {xs:List T} {i:Nat} {t:T} (h:(Lb xs)[i]? = some t):∃ x,xs[i]? = some x∧t=.tup [.int (i:Int),x]:=by
  unfold Lb at h
  rw [List.getElem?_map,List.getElem?_zipIdx] at h
  cases q:xs[i]? with
  | none=>rw [q] at h; cases h
  | some x=>rw [q] at h; simp at h; exact ⟨x,rfl,h.symm⟩
theorem X7 (hg:Gl X "enumerate") (hm:X.mg "enumerate" = none) (h1:PE X a (tOf X.K B m)) (hs:starEach [a] X.env=[(false,eval a X.env)]:=by rfl) :
    PI X (.Tuple elts x1 tpos) (.Call (.Name "enumerate" p) [a] [] pos) (iOf X.K B (Gv m)):=by
  intro pins s σ H R I hw
  refine a5o (ta:=Pj (tOf X.K B m) a7e) hg hm (jt h1 wz hs) hs pins s σ H R I ?_
  obtain ⟨st,ps,S,as,Rl,ts,st',e,hz,q⟩:=hw
  obtain ⟨xs,e1,l1,rfl⟩:=Qp e
  refine ⟨st,ps,S,as,Rl,_,_,e1,fun v H1 S1 as1 R1=>?_⟩
  have top:=R1.top
  cases top with
  | @lst a vs _ hs hr =>
    refine ⟨a,vs,rfl,ji R1.sub hs,q _ H1 S1 as1 [(.ref a,.lst xs)] R1 fun S2 as2 H2 hp hh=>?_⟩
    have:=hp _ List.mem_cons_self
    cases this with
    | @lst _ vs2 _ hs2 hr2 =>
      refine ⟨fun i tt et=>?_,fun i hi=>⟨vs2,ji hh hs2,?_⟩⟩
      · obtain ⟨x,f1,rfl⟩:=Zu et
        obtain ⟨vx,gx,rx⟩:=hr2.get f1
        refine ⟨⟨vs2,vx,ji hh hs2,gx⟩,fun v H' z0=>?_⟩
        obtain ⟨pp,x',hn,hv,hH,b1⟩:=z0
        have c1:=b1 _ (ji hh hs2)
        rw [gx] at c1
        cases c1
        subst hv hH
        have x:=Ext.laid hh hn (.tup [.int (i:Int),vx])
        exact ⟨_,x,.tup (SqT.of dj) (.cons (.int _) (.cons (rx.mono x.s nol) .nil))⟩
      · rw [hr2.length]
        unfold Lb at hi
        rwa [List.length_map,List.length_zipIdx] at hi
end
end C
end
section
namespace C
open PySem PySem.Spec PyProof.Rows L2
theorem Ik:typeLookup (.type "zip") "__getattr__" = pure none:=by rw [typeLookup_type,builtinLookup_eq_fast]; kernel_rfl
theorem Dc:entryFor table "zip.__getattribute__" = some Builtin.«object.__getattribute__» :=
  entryFor_alias (id' := "object.__getattribute__") (by kernel_rfl) (by decide +kernel) (by decide +kernel) (by kernel_rfl) -- here
theorem Nj:typeLookup (.type "zip") "keys" = pure none:=am_miss_of_fast (by decide +kernel)
theorem Aq (a:Addr) (fs:Array Value) (name:Str) (u:Tok) (hmiss:typeLookup (.type "zip") name=pure none) (hname:(["__module__","__name__","__qualname__","__doc__","__annotations__"]:List Str).contains name=false) (hsz:name.length+100≤sizeLine:=by size_fits) :
    Meets (Builtin.«object.__getattribute__» ⟨[.ref a,.str name u],[]⟩) (fun A R s=>s.heap.get? a=some { cls:=.type "zip",dict:=none,data:=.fields fs,slots:=#[] }∧raisesAttr (.ref a) name A R s) :=
  Meets.of_wp fun prog w A R s hs=>by -- here
    obtain ⟨hp,g,d,tk,os⟩:=s -- here
    obtain ⟨hx,hs⟩:=hs
    have hT:(⟨hp,g,d,tk,os⟩:Shared).TypeIs (.ref a) "zip" := ⟨_,hx,rfl⟩
    unfold Builtin.«object.__getattribute__» -- here
    repeat (any_goals (first | assumption | wp_step)) -- here
    simp only [hname,Bool.false_eq_true,if_false] -- here
    repeat (any_goals (first | assumption | wp_step)) -- here
    exact wpAny_raiseAttrError hs.1 hs.2 (attrMsg_fits (by decide +kernel) hsz) -- here
section
variable {prog:Program} {w:World} {A:Around} {E:Value→Shared→Prop} {s:Shared}
theorem a2i {l:Addr} {fs:Array Value} {Q:Option Value→Shared→Prop} (hx:s.heap.get? l=some { cls:=.type "zip",dict:=none,data:=.fields fs,slots:=#[] }) (nh:A.handled=none)
    (h:∀ h' tk e,Heap.NewExcOf s.heap h' e "AttributeError" → Q none { s with heap:=h',toks:=tk }):wpAny (model prog w) A (getAttr? (.ref l) "keys") Q E s:=by
  obtain ⟨h0,g0,d0,tk,os⟩:=s
  have hT:∀ tk',(⟨h0,g0,d0,tk',os⟩:Shared).TypeIs (.ref l) "zip" := fun _=>⟨_,hx,rfl⟩
  have g1:=sub_AttributeError
  have g3:=F.slot_zip_getattribute.lookup
  have g4:=F.slot_zip_getattribute.bind (.ref l)
  have g5:=Ik
  unfold getAttr?
  unfold getAttrBy?
  unfold getAttrBy
  repeat (any_goals (first | assumption | exact hT _ | ((with_reducible show wpAny _ _ (call (Value.builtin "zip.__getattribute__") _ _) _ _ _); refine call_meets F.slot_zip_getattribute (hT _) Dc (F.args_zip_getattribute_2 _ _) (Aq l fs "keys" _ Nj (by decide +kernel)) ⟨hx,nh,fun h' tk' e y=>?_⟩) | wp_step))
  obtain ⟨t',u',he⟩:=y.there
  change wpAny _ _ (getattributeRaised _ _ _ _ _ _ _) _ _ _
  unfold getattributeRaised
  repeat (any_goals first | assumption | wp_step)
  exact h _ _ _ y.of
end
end C
end
section
namespace C
open PySem PySem.Spec PyProof.Rows L2
open Sem (wp)
section
variable {prog:Program} {w:World} {A:Around} {E:Value→Shared→Prop} {s:Shared}
theorem a2c {M:Model} {a:Addr} {Q:Option Obj→Shared→Prop} (h:Q (s.heap.get? a) s):wpAny M A (loadIfAlive a) Q E s:=fun Γ p _=>by
  unfold loadIfAlive
  rw [Sem.wp_loadIfAlive]
  exact (Sem.wp_pure ..).mpr h
abbrev a6c (h:Heap) (z ti to':Addr) (a:Addr) (b:Bool):Prop:=h.get? z=some { cls:=.type "zip",dict:=none,data:=.fields #[rawInt a,.bool b,.bool false,.ref ti,.ref to'],slots:=#[] }
theorem U4 {z ti to' a:Addr} {b:Bool} {o:Obj} {Q:Bool→Shared→Prop} (hz:a6c s.heap z ti to' a b) (ha:s.heap.get? a=some o)
    (q:∀ h',a6c h' z ti to' a true→Heap.ExtBut z s.heap h'→h'.objs.size=s.heap.objs.size→Q false { s with heap:=h' }):wpAny (model prog w) A (Builtin.SmallTypes.ownedTupleIsFree (.ref z)) Q E s:=by
  unfold Builtin.SmallTypes.ownedTupleIsFree -- here
  refine wpAny_bind (wpAny_field hz rfl (x:=rawInt a) rfl ?_)
  show wpAny _ _ (loadIfAlive ((a:Int)).toNat >>= _) _ _ s
  refine wpAny_bind (a2c ?_)
  rw [Int.toNat_natCast,ha]
  dsimp only
  rw [if_neg (by simp)]
  refine wpAny_bind (wpAny_field hz rfl (x:=.bool b) rfl ?_)
  cases b with
  | true =>
    rw [if_neg (by decide)]
    exact wpAny_pure (q _ hz (fun _ _ _ e=>e) rfl)
  | false =>
    rw [if_pos (by decide)]
    exact wpAny_bind (wpAny_setField_rec hz (by simp) fun h' hz' s'=>wpAny_pure (q h' hz' s'.extBut s'.1))
theorem Yx {k1 k2:Bool} {z ti to' i1 i2 a1 a2 a:Addr} {b:Bool} {o:Obj} {j1 j2:Nat} {xs ys:Array Value} {x y:Value} {Q:Value→Shared→Prop} (D:Far z ti to' i1 i2) (hz:a6c s.heap z ti to' a b) (hI:IsPair s.heap ti (.ref i1) (.ref i2)) (ha:s.heap.get? a=some o)
    (h1:Di k1 s.heap i1 a1 j1) (h2:Di k2 s.heap i2 a2 j2) (r1:vq k1 s.heap a1 xs) (r2:vq k2 s.heap a2 ys) (n2:a2≠z∧a2≠i1∧a2≠i2) (n1:a1≠z) (hx:xs[j1]? = some x) (hy:ys[j2]? = some y)
    (q:∀ h',a6c h' z ti to' a true→Di k1 h' i1 a1 (j1+1)→Di k2 h' i2 a2 (j2+1)→IsPair h' s.heap.objs.size x y→(∀ c o,c≠z→c≠i1→c≠i2→s.heap.get? c=some o→h'.get? c=some o)→Q (.ref s.heap.objs.size) { s with heap:=h' }) :
    wpAny (model prog w) A (Builtin.«zip.__next__» ⟨[.ref z],[]⟩) (fun fin s'=>∃ v,fin=.done (.ret v)∧Q v s') E s:=by -- here
  obtain ⟨d1,d2,d3,d4,d5,d6,d7,d8,d9,d10⟩:=D.all
  refine (show wpAny _ _ (field (.ref z) 2 >>= _) _ _ _ from wpAny_bind (wpAny_field hz rfl (x:=.bool false) rfl ?_))
  refine (show wpAny _ _ (field (.ref z) 3 >>= _) _ _ _ from wpAny_bind (wpAny_field hz rfl (x:=.ref ti) rfl (wpAny_bind (wpAny_seqItems hI rfl ?_))))
  refine (show wpAny _ _ (Builtin.SmallTypes.ownedTupleIsFree (.ref z) >>= _) _ _ _ from wpAny_bind (U4 hz ha fun g1 z1 s1 sz1=>?_))
  dsimp only
  rw [if_neg (by decide)]
  rw [← Array.forIn_toList]
  simp only [List.forIn_cons,List.forIn_nil] -- here
  refine wpAny_bind (wpAny_bind (wpAny_bind (wpAny_holding (show wpAny _ _ (Builtin.SmallTypes.nextOf (.ref i1) >>= fun x=>pure (some x)) _ _ _ from wpAny_bind (Ef (s:={ s with heap:=g1 }) (h1.to fun o e=>s1 _ _ d3 e) (r1.to fun o e=>s1 _ _ n1 e) hx fun g2 t2 s2=>wpAny_pure (wpAny_pure ?_))))))
  have e2:∀ c o,c≠z→c≠i1→s.heap.get? c=some o→g2.get? c=some o:=fun c o c1 c2 e=>s2.extBut _ _ c2 (s1 _ _ c1 e)
  refine wpAny_bind (wpAny_bind (wpAny_holding (show wpAny _ _ (Builtin.SmallTypes.nextOf (.ref i2) >>= fun x=>pure (some x)) _ _ _ from wpAny_bind (Ef (s:={ s with heap:=g2 }) (h2.to fun o e=>e2 _ o d4 (Ne.symm d10) e) (r2.to fun o e=>e2 _ o n2.1 n2.2.1 e) hy fun g3 t3 s3=>wpAny_pure (wpAny_pure (wpAny_pure ?_))))))
  dsimp only
  have sz:g3.objs.size=s.heap.objs.size:=by rw [s3.1]; show g2.objs.size=_; rw [s2.1]; exact sz1
  refine wpAny_bind (wpAny_newTuple (wpAny_pure ⟨_,rfl,?_⟩) (by show 2≤sizeLine; rw [sizeLine_eq]; decide))
  show Q (.ref g3.objs.size) _
  have z3:a6c g3 z ti to' a true:=s3.extBut _ _ (Ne.symm d4) (s2.extBut _ _ (Ne.symm d3) z1)
  have p3:IsPair (g3.push { cls:=.type "tuple",data:=.seq #[x,y] }) g3.objs.size x y:=Heap.get?_push_size _ rfl
  rw [sz] at p3 ⊢
  exact q _ (Heap.get?_push_of_some _ z3) (t2.to fun o e=>Heap.get?_push_of_some _ (s3.extBut _ _ d10 e)) (t3.to fun o e=>Heap.get?_push_of_some _ e) p3 fun c o c1 c2 c3 e=>Heap.get?_push_of_some _ (s3.extBut _ _ c3 (e2 c o c1 c2 e))
theorem Xw {k1 k2:Bool} {z ti to' i1 i2 a1 a2 a:Addr} {b:Bool} {o:Obj} {j1 j2:Nat} {xs ys:Array Value} {Q:PySem.Fin→Shared→Prop} (hh:A.handled=none) (D:Far z ti to' i1 i2) (hz:a6c s.heap z ti to' a b) (hI:IsPair s.heap ti (.ref i1) (.ref i2)) (ha:s.heap.get? a=some o)
    (h1:Di k1 s.heap i1 a1 j1) (h2:Di k2 s.heap i2 a2 j2) (r1:vq k1 s.heap a1 xs) (r2:vq k2 s.heap a2 ys) (n2:a2≠z∧a2≠i1∧a2≠i2) (n1:a1≠z) (hend:xs[j1]? = none∨ys[j2]? = none)
    (q:∀ h' e,(∀ c o,c≠z→c≠i1→c≠i2→s.heap.get? c=some o→h'.get? c=some o)→(∃ o,h'.get? e=some o∧o.cls=.type "StopIteration")→E (.ref e) { s with heap:=h' }) :
    wpAny (model prog w) A (Builtin.«zip.__next__» ⟨[.ref z],[]⟩) Q E s:=by -- here
  obtain ⟨d1,d2,d3,d4,d5,d6,d7,d8,d9,d10⟩:=D.all
  refine (show wpAny _ _ (field (.ref z) 2 >>= _) _ _ _ from wpAny_bind (wpAny_field hz rfl (x:=.bool false) rfl ?_))
  refine (show wpAny _ _ (field (.ref z) 3 >>= _) _ _ _ from wpAny_bind (wpAny_field hz rfl (x:=.ref ti) rfl (wpAny_bind (wpAny_seqItems hI rfl ?_))))
  refine (show wpAny _ _ (Builtin.SmallTypes.ownedTupleIsFree (.ref z) >>= _) _ _ _ from wpAny_bind (U4 hz ha fun g1 z1 s1 sz1=>?_))
  dsimp only
  rw [if_neg (by decide)]
  rw [← Array.forIn_toList]
  simp only [List.forIn_cons,List.forIn_nil] -- here
  cases hx:xs[j1]? with
  | none =>
    exact wpAny_bind (wpAny_bind (wpAny_bind (wpAny_holding (show wpAny _ _ (Builtin.SmallTypes.nextOf (.ref i1) >>= fun x=>pure (some x)) _ _ _ from wpAny_bind (Ba (s:={ s with heap:=g1 }) hh (h1.to fun o e=>s1 _ _ d3 e) (r1.to fun o e=>s1 _ _ n1 e) hx fun g2 e s2 he=>q g2 e (fun c o c1 c2 _ x=>s2 _ _ c2 (s1 _ _ c1 x)) he)))))
  | some x =>
    have hy:ys[j2]? = none:=hend.resolve_left fun h=>by rw [hx] at h; cases h
    refine wpAny_bind (wpAny_bind (wpAny_bind (wpAny_holding (show wpAny _ _ (Builtin.SmallTypes.nextOf (.ref i1) >>= fun x=>pure (some x)) _ _ _ from wpAny_bind (Ef (s:={ s with heap:=g1 }) (h1.to fun o e=>s1 _ _ d3 e) (r1.to fun o e=>s1 _ _ n1 e) hx fun g2 t2 s2=>wpAny_pure (wpAny_pure ?_))))))
    have e2:∀ c o,c≠z→c≠i1→s.heap.get? c=some o→g2.get? c=some o:=fun c o c1 c2 e=>s2.extBut _ _ c2 (s1 _ _ c1 e)
    exact wpAny_bind (wpAny_bind (wpAny_holding (show wpAny _ _ (Builtin.SmallTypes.nextOf (.ref i2) >>= fun x=>pure (some x)) _ _ _ from wpAny_bind (Ba (s:={ s with heap:=g2 }) hh (h2.to fun o e=>e2 _ o d4 (Ne.symm d10) e) (r2.to fun o e=>e2 _ o n2.1 n2.2.1 e) hy fun g3 e s3 he=>q g3 e (fun c o c1 c2 c3 x=>s3 _ _ c3 (e2 c o c1 c2 x)) he))))
structure a9u (k1 k2:Bool) (z ti to' i1 i2 a1 a2:Addr) (i:Nat) (h:Heap):Prop where
  it1:Di k1 h i1 a1 i
  it2:Di k2 h i2 a2 i
  its:IsPair h ti (.ref i1) (.ref i2)
  st:Le h z ti to' i1 i2 .none∨∃ a b o,a6c h z ti to' a b∧h.get? a=some o∧a≠z∧a≠i1∧a≠i2
theorem Z6 {k1 k2:Bool} {z ti to' i1 i2 a1 a2:Addr} {i:Nat} {xs ys:Array Value} {x y:Value} {Q:Option Value→Shared→Prop} (D:Far z ti to' i1 i2) (Z:a9u k1 k2 z ti to' i1 i2 a1 a2 i s.heap)
    (r1:vq k1 s.heap a1 xs) (r2:vq k2 s.heap a2 ys) (n2:a2≠z∧a2≠to'∧a2≠i1∧a2≠i2) (n1:a1≠z) (hx:xs[i]? = some x) (hy:ys[i]? = some y)
    (q:∀ h',a9u k1 k2 z ti to' i1 i2 a1 a2 (i+1) h'→IsPair h' s.heap.objs.size x y→Ry z to' i1 i2 s.heap h'→Q (some (.ref s.heap.objs.size)) { s with heap:=h' }):wpAny (model prog w) A (pyNext (.ref z)) Q E s:=by
  obtain ⟨t1,t2,hI,st⟩:=Z
  obtain ⟨d1,d2,d3,d4,d5,d6,d7,d8,d9,d10⟩:=D.all
  rcases st with Z | ⟨a,b,o,hz,ha,na,na1,na2⟩
  · have nz:s.heap.objs.size≠z:=Nat.ne_of_gt (Heap.lt_size Z.zip)
    obtain ⟨o1,g1,_⟩:=t1.obj
    obtain ⟨o2,g2,_⟩:=t2.obj
    exact a2k D Z t1 t2 r1 r2 n2 n1 hx hy fun h' Z' t1' t2' hp kp=>q h' ⟨t1',t2',Z'.its,.inr ⟨_,false,_,Z'.zip,hp,nz,Nat.ne_of_gt (Heap.lt_size g1),Nat.ne_of_gt (Heap.lt_size g2)⟩⟩ hp kp
  · have ty:s.TypeIs (.ref z) "zip" := ⟨_,hz,rfl⟩
    unfold pyNext
    exact wpAny_bind (wpAny_attempt (wpAny_callSpecial?_slot (name:=Str.ofString "__next__") ty F.slot_zip_next (wpAny_call_entry F.slot_zip_next ty F.entry_zip_next
      (Yx D hz hI ha t1 t2 r1 r2 ⟨n2.1,n2.2.2⟩ n1 hx hy fun h' z' t1' t2' hp kp=>wpAny_pure (q h' ⟨t1',t2',kp _ _ d1 d6 d7 hI,.inr ⟨a,true,o,z',kp _ _ na na1 na2 ha,na,na1,na2⟩⟩ hp fun c o c1 _ c3 c4 e=>kp c o c1 c3 c4 e)) (F.args_zip_next_1 _))))
theorem Xo {k1 k2:Bool} {z ti to' i1 i2 a1 a2:Addr} {i:Nat} {xs ys:Array Value} {Q:Option Value→Shared→Prop} (hh:A.handled=none) (D:Far z ti to' i1 i2) (Z:a9u k1 k2 z ti to' i1 i2 a1 a2 i s.heap)
    (r1:vq k1 s.heap a1 xs) (r2:vq k2 s.heap a2 ys) (n2:a2≠z∧a2≠to'∧a2≠i1∧a2≠i2) (n1:a1≠z) (hend:xs[i]? = none∨ys[i]? = none)
    (q:∀ h',Ry z to' i1 i2 s.heap h'→Q none { s with heap:=h' }):wpAny (model prog w) A (pyNext (.ref z)) Q E s:=by
  obtain ⟨t1,t2,hI,st⟩:=Z
  rcases st with Z | ⟨a,b,o,hz,ha,na,na1,na2⟩
  · exact a1z hh D Z t1 t2 r1 r2 n2 n1 hend q
  · have ty:s.TypeIs (.ref z) "zip" := ⟨_,hz,rfl⟩
    unfold pyNext
    refine wpAny_bind (wpAny_attempt (wpAny_callSpecial?_slot (name:=Str.ofString "__next__") ty F.slot_zip_next (wpAny_call_entry F.slot_zip_next ty F.entry_zip_next
      (Xw hh D hz hI ha t1 t2 r1 r2 ⟨n2.1,n2.2.2⟩ n1 hend fun h' e kp he=>?_) (F.args_zip_next_1 _))))
    obtain ⟨o,ho,hc⟩:=he
    exact wpAny_bind (wpAny_isInstance (T := "StopIteration") (b:=true) ⟨o,ho,hc⟩ isSubtype_stop (wpAny_pure (q _ fun c o c1 _ c3 c4 e=>kp c o c1 c3 c4 e)))
end
end C
end
section
namespace C
open PySem PySem.Spec PyProof.Rows L2
section
variable {prog:Program} {w:World} {A:Around} {R:Result→Shared→Prop} {k1 k2:Bool} {z ti to' i1 i2 a1 a2:Addr} {xs ys:Array Value} {κ:Type} [DecidableEq κ] {knd:PySem.KeyKind prog w κ}
theorem Xb (nh:A.handled=none) (Df:Far z ti to' i1 i2) (D:Addr) (hDf:D∉[z,ti,to',i1,i2]) (result:Value) (h0:Heap) (key:Nat→κ) (val:Nat→Value) (n:Nat) (hz:n≤sizeLine)
    (r1:vq k1 h0 a1 xs) (r2:vq k2 h0 a2 ys) (n1:a1∉[D,z,ti,to',i1,i2]) (n2:a2∉[D,z,ti,to',i1,i2]) (hmin:n=min xs.size ys.size)
    (hk:∀ i x,i<n→xs[i]? = some x→knd.is (key i) x=true) (hv:∀ i y,i<n→ys[i]? = some y→y=val i) :
    ∀ (j i:Nat) (c:Nat) (s:Shared),n - i=j→i≤n→a9u k1 k2 z ti to' i1 i2 a1 a2 i s.heap→(∀ b o,b∉[D,z,ti,to',i1,i2]→h0.get? b=some o→s.heap.get? b=some o)→s.heap.DictOf knd D (told key val i) →
      (∀ h' tk,h'.DictOf knd D (told key val n)→(∀ b o,b∉[D,z,ti,to',i1,i2]→h0.get? b=some o→h'.get? b=some o)→R (.ok (.ret result)) { s with heap:=h',toks:=tk }) →
      codeAny (model prog w) A (.builtin "dict.update.loop" ⟨[.ref D,.ref z,rawInt (c:Int),result],[]⟩) R s:=by
  simp only [List.mem_cons,List.not_mem_nil,or_false,not_or] at hDf n1 n2
  obtain ⟨f1,f2,f3,f4,f5⟩:=hDf
  have mem:∀ b,b∉[D,z,ti,to',i1,i2]→b≠D∧b≠z∧b≠ti∧b≠to'∧b≠i1∧b≠i2:=fun b hb=>by
    simpa only [List.mem_cons,List.not_mem_nil,or_false,not_or] using hb
  have memI:∀ b,b≠D→b≠z→b≠ti→b≠to'→b≠i1→b≠i2→b∉[D,z,ti,to',i1,i2]:=fun b c1 c2 c3 c4 c5 c6=>by
    simp only [List.mem_cons,List.not_mem_nil,or_false,not_or]; exact ⟨c1,c2,c3,c4,c5,c6⟩
  have rows:∀ {h:Heap},(∀ b o,b∉[D,z,ti,to',i1,i2]→h0.get? b=some o→h.get? b=some o)→vq k1 h a1 xs∧vq k2 h a2 ys:=fun k =>
    ⟨r1.to fun o e=>k _ o (memI _ n1.1 n1.2.1 n1.2.2.1 n1.2.2.2.1 n1.2.2.2.2.1 n1.2.2.2.2.2) e,r2.to fun o e=>k _ o (memI _ n2.1 n2.2.1 n2.2.2.1 n2.2.2.2.1 n2.2.2.2.2.1 n2.2.2.2.2.2) e⟩
  intro j
  induction j with
  | zero =>
    intro i c s hj hi Z keep hD hR
    have e:i=n:=by omega
    subst e
    obtain ⟨q1,q2⟩:=rows keep
    refine codeAny_builtin vh ?_
    rw [Around.under_plainId je _]
    change wpAny _ A.in1 (pyNext (.ref z) >>= _) _ _ s
    refine wpAny_bind (Xo (A:=A.in1) nh Df Z q1 q2 ⟨n2.2.1,n2.2.2.2.1,n2.2.2.2.2.1,n2.2.2.2.2.2⟩ n1.2.1 ?_ fun h' kp=>?_)
    · rcases Nat.le_total xs.size ys.size with hle | hle
      · exact .inl (Array.getElem?_eq_none (by omega))
      · exact .inr (Array.getElem?_eq_none (by omega))
    show wpAny _ A.in1 (Builtin.Dict.addKeywords D [] >>= fun _=>ret result) _ _ { s with heap:=h' }
    refine wpAny_bind (wpAny_pure (wpAny_pure (hR h' s.toks ?_ fun b o hb e=>?_)))
    · obtain ⟨o,es,ep,ho,rest⟩:=hD
      exact ⟨o,es,ep,kp D _ f1 f3 f4 f5 ho,rest⟩
    · obtain ⟨c1,c2,c3,c4,c5,c6⟩:=mem b hb
      exact kp b o c2 c4 c5 c6 (keep b o hb e)
  | succ j ih =>
    intro i c s hj hi Z keep hD hR
    have hlt:i<n:=by omega
    obtain ⟨q1,q2⟩:=rows keep
    have hx:xs[i]? = some xs[i]:=Array.getElem?_eq_getElem (by omega)
    have hy:ys[i]? = some ys[i]:=Array.getElem?_eq_getElem (by omega)
    refine codeAny_builtin vh ?_
    rw [Around.under_plainId je _]
    change wpAny _ A.in1 (pyNext (.ref z) >>= _) _ _ s
    refine wpAny_bind (Z6 (A:=A.in1) Df Z q1 q2 ⟨n2.2.1,n2.2.2.2.1,n2.2.2.2.2.1,n2.2.2.2.2.2⟩ n1.2.1 hx hy fun h' Z' hp kp=>?_)
    have hkey:=hk i _ hlt hx
    have hval:=hv i _ hlt hy
    have hD':h'.DictOf knd D (told key val i):=by
      obtain ⟨o,es,ep,ho,rest⟩:=hD
      exact ⟨o,es,ep,kp D _ f1 f3 f4 f5 ho,rest⟩
    have hT:(Shared.mk h' s.gens s.drawn s.toks s.os).TypeIs (.ref s.heap.objs.size) "tuple" := ⟨_,hp,rfl⟩
    dsimp only
    refine wpAny_bind (wpAny_holding (wpAny_bind (wpAny_tryCatch ?_)))
    unfold Builtin.Dict.pairItems
    refine wpAny_bind (wpAny_typeOf (T := "tuple") hT ?_)
    rw [if_pos (by decide)]
    refine wpAny_bind (Kr (s:=Shared.mk h' s.gens s.drawn s.toks s.os) hp rfl ?_)
    refine wpAny_pure ?_
    show wpAny _ A.in1 (holding [xs[i],ys[i]] (dictSet D xs[i] ys[i])) _ _ _
    refine wpAny_holding (wpAny_dictSet_pairs hkey hD' (fun h2 hD2 same=>?_) (Nat.le_trans (Bw key val i) (Nat.le_trans hi hz)))
    rw [hval] at hD2
    refine wpAny_pure ⟨plainId_quiet je _,?_⟩
    have ec:((c:Int)+1)=((c+1:Nat):Int):=by omega
    rw [ec]
    have e2:∀ b o,b≠D→h'.get? b=some o→h2.get? b=some o:=fun b o hb e=>by rw [same.2 b hb]; exact e
    obtain ⟨t1,t2,hI,st⟩:=Z'
    refine ih (i+1) (c+1) _ (by omega) hlt ⟨t1.to fun o e=>e2 _ o (Ne.symm f4) e,t2.to fun o e=>e2 _ o (Ne.symm f5) e,e2 _ _ (Ne.symm f2) hI,?_⟩ (fun b o hb e=>?_) hD2 fun h3 tk hD3 kp3=>hR h3 tk hD3 kp3
    · rcases st with ⟨zz,ii,a,b,kk⟩ | ⟨a,b,o,hz,ha,na,na1,na2⟩
      · exact .inl ⟨e2 _ _ (Ne.symm f1) zz,e2 _ _ (Ne.symm f2) ii,a,b,e2 _ _ (Ne.symm f3) kk⟩
      · by_cases haD:a=D
        · obtain ⟨o',es,ep,ho',rest⟩:=hD2
          exact .inr ⟨a,b,o',e2 _ _ (Ne.symm f1) hz,by rw [haD]; exact ho',na,na1,na2⟩
        · exact .inr ⟨a,b,o,e2 _ _ (Ne.symm f1) hz,e2 _ _ haD ha,na,na1,na2⟩
    · obtain ⟨c1,c2,c3,c4,c5,c6⟩:=mem b hb
      exact e2 b o c1 (kp b o c2 c4 c5 c6 (keep b o hb e))
end
section
variable {prog:Program} {w:World} {A:Around} {E:Value→Shared→Prop} {s:Shared} {k1 k2:Bool} {z ti to' i1 i2 a1 a2:Addr} {xs ys:Array Value} {κ:Type} [DecidableEq κ] {knd:PySem.KeyKind prog w κ}
theorem Rv {key:Nat→κ} {val:Nat→Value} {n:Nat} {Q:Value→Shared→Prop} (nh:A.handled=none) (Df:Far z ti to' i1 i2) (Z:Le s.heap z ti to' i1 i2 .none) (t1:Di k1 s.heap i1 a1 0) (t2:Di k2 s.heap i2 a2 0) (r1:vq k1 s.heap a1 xs) (r2:vq k2 s.heap a2 ys)
    (n1:a1∉[z,ti,to',i1,i2]) (n2:a2∉[z,ti,to',i1,i2]) (hz:n≤sizeLine) (hmin:n=min xs.size ys.size) (hk:∀ i x,i<n→xs[i]? = some x→knd.is (key i) x=true) (hv:∀ i y,i<n→ys[i]? = some y→y=val i)
    (q:∀ h' tk,h'.DictOf knd s.heap.objs.size (told key val n)→(∀ b o,b∉[z,ti,to',i1,i2]→s.heap.get? b=some o→h'.get? b=some o)→Q (.ref s.heap.objs.size) { s with heap:=h',toks:=tk }) :
    wpAny (model prog w) A (call (.type "dict") [.ref z]) Q E s:=by
  refine callType_codes (Q₁:=fun ob z=>ob=.ref s.heap.objs.size∧z = { s with heap:=s.heap.push { cls:=.type "dict",data:=.dict #[] } }) F.kt_called_dict (F.kt_typeCall_dict_1 _) F.entry_dict_init (kt_code_dict_new _ ⟨rfl,rfl⟩) ?_
  rintro obj s₁ ⟨rfl,rfl⟩
  have new0:(s.heap.push { cls:=.type "dict",data:=.dict #[] }).DictOf knd s.heap.objs.size []:=Heap.DictOf.new s.heap
  have up:∀ b o,s.heap.get? b=some o→(s.heap.push { cls:=.type "dict",data:=.dict #[] }).get? b=some o:=fun b o e=>Heap.get?_push_of_some _ e
  have hz1:=up _ _ Z.zip
  refine ⟨new0.typeIs,F.args_dict_init_2 _ _,?_⟩
  unfold Builtin.«dict.__init__» Builtin.Dict.selfAndRest
  refine wpAny_bind (wpAny_bind (wpAny_notOrdered_dict new0.typeIs ?_))
  show wpAny _ _ (pure (s.heap.objs.size,[Value.ref z])) _ _ _
  refine wpAny_pure ?_
  show wpAny _ _ (Builtin.Dict.updateFrom "dict.__init__" s.heap.objs.size (.ref z) [] .none) _ _ _
  unfold Builtin.Dict.updateFrom; refine wpAny_bind (wpAny_typeOf (T := "zip") ⟨_,hz1,rfl⟩ ?_)
  rw [if_pos (by decide)]
  refine wpAny_bind (a2i hz1 nh fun h2 tk e ne=>?_)
  rw [if_pos (show (none:Option Value).isNone=true from rfl)]
  have old2:∀ b o,s.heap.get? b=some o→h2.get? b=some o:=fun b o hb=>ne.keeps b o (up b o hb)
  have hD2:h2.DictOf knd s.heap.objs.size []:=by
    obtain ⟨o,es,ep,ho,rest⟩:=new0
    exact ⟨o,es,ep,ne.keeps _ _ ho,rest⟩
  obtain ⟨zz,its,ka,kb,kk⟩:=Z
  have Z2:Le h2 z ti to' i1 i2 .none:=⟨old2 _ _ zz,old2 _ _ its,ka,kb,old2 _ _ kk⟩
  refine wpAny_bind (wpAny_rule (wpAny_bind (wpAny_pyIter_zip (s:={ s with heap:=h2,toks:=tk }) Z2.zip ?_)))
  refine wpAny_pure ⟨plainId_quiet je _,?_⟩
  have lt:∀ b,(∃ o,s.heap.get? b=some o)→s.heap.objs.size≠b:=fun b ⟨o,e⟩=>Nat.ne_of_gt (Heap.lt_size e)
  have nD:s.heap.objs.size∉[z,ti,to',i1,i2]:=by
    simp only [List.mem_cons,List.not_mem_nil,or_false,not_or]
    obtain ⟨o1,g1,_⟩:=t1.obj
    obtain ⟨o2,g2,_⟩:=t2.obj
    exact ⟨lt _ ⟨_,zz⟩,lt _ ⟨_,its⟩,lt _ ⟨_,kk⟩,lt _ ⟨_,g1⟩,lt _ ⟨_,g2⟩⟩
  have nr:∀ {k:Bool} {a:Addr} {xs:Array Value},vq k s.heap a xs→a∉[z,ti,to',i1,i2]→a∉[s.heap.objs.size,z,ti,to',i1,i2]:=fun {k a xs} r h=>by
    have:a≠s.heap.objs.size:=by -- here
      cases k <;> obtain ⟨o,e,_⟩:=r <;> exact Nat.ne_of_lt (Heap.lt_size e)
    simp only [List.mem_cons,not_or] at h ⊢
    exact ⟨this,h⟩
  refine Xb (A:=A.in1) (knd:=knd) (h0:=s.heap) nh Df s.heap.objs.size nD .none key val n hz r1 r2 (nr r1 n1) (nr r2 n2) hmin hk hv (n - 0) 0 0 { s with heap:=h2,toks:=tk } rfl (Nat.zero_le _) ⟨t1.to fun o e=>old2 _ o e,t2.to fun o e=>old2 _ o e,Z2.its,.inl Z2⟩ (fun b o _ e=>old2 b o e) hD2 fun h3 tk3 hD3 kp=>?_
  refine ⟨rfl,q h3 tk3 hD3 fun b o hb e=>kp b o ?_ e⟩
  simp only [List.mem_cons,not_or] at hb ⊢
  exact ⟨Nat.ne_of_lt (Heap.lt_size e),hb⟩
end
section
variable {X:Cx} {B:Bas} {a b:Expr} {m1 m2:M T} {p1 p2 p3 p4:Pos}
theorem a4a {K:PySem.W.Frag} {S:Hp} {as:List Addr} {prog:Program} {w:World}:∀ {vs1:List V} {xs:List T} {us1:List Value} {vs2:List V} {ys:List T} {us2:List Value} {l:List (L2.Key × T)},m7 K S as vs1 xs→Vals vs1 us1→m7 K S as vs2 ys→Vals vs2 us2→vf (a69 xs ys)=some l →
    l.length=min us1.length us2.length∧(∀ (i:Nat) x,i<l.length→us1[i]? = some x→(lg prog w).is ((l.map (·.1)).getD i (.inl 0)) x=true)∧Vals (vs2.take l.length) (us2.take l.length)∧m7 K S as (vs2.take l.length) (l.map (·.2))
  | _,_,_,_,_,_,l,.nil,.nil,_,_,e=>by
    have:l=[]:=by simpa [a69,vf] using e.symm
    subst this
    exact ⟨by simp,fun i x h=>by simp at h,.nil,.nil⟩
  | _,_,_,_,_,_,l,.cons _ _,.cons _ _,.nil,.nil,e=>by
    have:l=[]:=by simpa [a69,vf] using e.symm
    subst this
    exact ⟨by simp,fun i x h=>by simp at h,.nil,.nil⟩
  | _,_,_,_,_,_,l,.cons h1 q1,.cons b1 c1,.cons h2 q2,.cons b2 c2,e=>by
    obtain ⟨k,v,qk,l',ex,e1,e2,rfl⟩:=Jf (show vf (_::a69 _ _)=some l from e)
    cases ex
    obtain ⟨a1,a2,a3,a4⟩:=a4a (prog:=prog) (w:=w) q1 c1 q2 c2 e2
    refine ⟨by simp [a1],fun i x hi hx=>?_,.cons b2 a3,.cons h2 a4⟩
    cases i with
    | zero =>
      simp at hx
      subst hx
      have ek:=Vc h1 e1
      subst ek
      exact Tg b1
    | succ j=>simpa using a2 j x (by simpa using hi) (by simpa using hx)
theorem Mj (hc:X.calm=true) (hg:Gl X "dict") (hm:X.mg "dict" = none) (hg2:Gl X "zip") (hm2:X.mg "zip" = none) (ha:PE X a (tOf X.K B m1)) (hb:PE X b (tOf X.K B m2))
    (hs:starEach [a,b] X.env=[(false,eval a X.env),(false,eval b X.env)]:=by rfl) (hs2:starEach [b] X.env=[(false,eval b X.env)]:=by rfl)
    (he:starEach [.Call (.Name "zip" p2) [a,b] [] p3] X.env=(false,eval (.Call (.Name "zip" p2) [a,b] [] p3) X.env)::starEach [] X.env:=by rfl) (hpl:(backTo p4 (starEach [] X.env)).any (·.1)=false:=by rfl) :
    PE X (.Call (.Name "dict" p1) [.Call (.Name "zip" p2) [a,b] [] p3] [] p4) (fOf X.K B (mOp G3 m1 m2)):=by
  intro pins s σ H Q I z8
  obtain ⟨st,ps,S,as,R,t,st',ev,q⟩:=z8
  obtain ⟨t1,s1,t2,e1,e2,e3⟩:=Ks ev
  unfold G3 at e3
  split at e3
  · rename_i xs ys f1 f2
    split at e3
    · rename_i hl
      obtain ⟨l,el,rfl⟩:=Option.map_eq_some_iff.mp e3
      refine wpAny_Call_Name_kw (Kd I hg hm PyProof.Rows.boot_dict ?_ (by decide) (by decide))
      refine PyProof.Rows.callWith_type1 ?_ he hpl
      rw [he]
      show wpAny _ _ (spliced ((false,eval (.Call (.Name "zip" p2) [a,b] [] p3) X.env)::backTo p4 (starEach [] X.env))) _ _ s
      refine Calls.spliced_cons ?_
      have pa:=jt ha (jt hb wz (by rw [hs2]; rfl)) (by rw [hs,hs2])
      refine Call_ (Kd I hg2 hm2 boot_zip (PyProof.Rows.callWith_type1 (thn (pa p3 pins s σ H (fun vs H2=>∃ k1 k2 a1 a2 vs1 vs2 S2 as2,vs=[.ref a1,.ref a2]∧Rel X.K B st' σ H2 ps S2 as2∧Sq k1 X.K S2 a1 vs1∧Sq k2 X.K S2 a2 vs2∧m7 X.K S2 as2 vs1 xs∧m7 X.K S2 as2 vs2 ys) I ?_) fun us s2 ⟨vs,H1,I1,r1,q1⟩=>?_) (by rw [hs,hs2]) (by rw [hs2]; rfl)))
      · refine ⟨st,ps,S,as,R,t1,s1,e1,fun v H1 S1 as1 R1=>⟨s1,_,S1,as1,R1,t2,st',e2,fun v2 H2 S2 as2 R2=>?_⟩⟩
        obtain ⟨k1,a1,vs1,rfl,w1,p1,_⟩:=Wz R2.top2 f1
        obtain ⟨k2,a2,vs2,rfl,w2,p2,_⟩:=Wz R2.top f2
        exact ⟨k1,k2,a1,a2,vs1,vs2,S2,as2,rfl,R2.drop.drop,w1,w2,p1,p2⟩
      obtain ⟨k1,k2,a1,a2,vs1,vs2,S2,as2,rfl,R2,w1,w2,g1,g2⟩:=q1
      cases r1 with
      | cons r rr =>
        cases rr with
        | cons r' rr =>
          cases rr
          cases r
          cases r'
          obtain ⟨its1,v1,r1⟩:=(w1.mono R2.sub).row I1
          obtain ⟨its2,v2,r2⟩:=(w2.mono R2.sub).row I1
          obtain ⟨b1,b2,b3,b4⟩:=a4a (prog:=X.prog) (w:=X.w) g1 v1 g2 v2 el
          refine a1c r1 r2 fun h' Z t1' t2' kp=>Calls.spliced_nil ?_
          have Df:Far (s2.heap.objs.size+4) (s2.heap.objs.size+2) (s2.heap.objs.size+3) s2.heap.objs.size (s2.heap.objs.size+1):=a5b s2.heap.objs.size
          have out:∀ b,b<s2.heap.objs.size→b∉[s2.heap.objs.size+4,s2.heap.objs.size+2,s2.heap.objs.size+3,s2.heap.objs.size,s2.heap.objs.size+1]:=fun b hb=>by
            have hb':(b:Nat)<s2.heap.objs.size:=hb
            simp only [List.mem_cons,List.not_mem_nil,or_false,not_or]
            refine ⟨?_,?_,?_,?_,?_⟩ <;> apply Nat.ne_of_lt <;> omega
          have low:∀ {k:Bool} {a:Addr} {zs:Array Value},vq k s2.heap a zs→a<s2.heap.objs.size:=fun {k a zs} r=>by
            cases k <;> obtain ⟨o,e,_⟩:=r <;> exact Heap.lt_size e
          obtain ⟨kv,k5,k6⟩:=J7 l b3 b4 l.length (Nat.le_refl _)
          rw [List.take_length] at k6
          have hsz:s2.heap.objs.size≤h'.objs.size:=Nat.le_of_lt (Nat.lt_of_le_of_lt (Nat.le_add_right _ 4) (Heap.lt_size Z.zip))
          have lz:l.length≤sizeLine:=by
            rw [b1,← v1.length,g1.length]
            exact Nat.le_trans (Nat.min_le_left _ _) (Nat.le_trans (Nat.le_of_lt hl.1) lq)
          refine Rv (s:={ s2 with heap:=h' }) (knd:=lg X.prog X.w) (key:=fun i=>(l.map (·.1)).getD i (.inl 0)) (val:=fun i=>(its2.take l.length).getD i .none) (n:=l.length) (I1.ok.hd hc) Df Z t1' t2' (r1.to fun o e=>kp _ o e) (r2.to fun o e=>kp _ o e) (out _ (low r1)) (out _ (low r2)) lz (by simpa using b1)
            (fun i x hi hx=>b2 i x hi (by simpa using hx)) (fun i y hi hy=>?_) fun h3 tk hD old=>?_
          · have hy':its2[i]? = some y:=by simpa using hy
            rw [List.getD_eq_getElem?_getD,List.getElem?_take,if_pos hi,hy']; rfl
          · have hp:H1 h'.objs.size=none:=I1.hok.fresh hsz
            have kl:kv.length≤sizeLine:=by
              rw [k5.length]
              exact Nat.le_trans (Bw _ _ _) lz
            obtain ⟨z1,z2,z3,z4⟩:=R2.fresh hp
            refine ⟨.ref h'.objs.size,_,I1.laid (a:=h'.objs.size) (o:=.dK kv) (h':=h3) (t':=tk) (fun b o e=>old b o (out b (Heap.lt_size e)) (kp b o e)) hsz (Ol kl (beq_eq_false_iff_ne.mpr (Ne.symm (Nat.ne_of_lt (Nat.lt_of_lt_of_le I1.big hsz)))) k5 hD),rfl,q _ _ _ _ (R2.a9l z1 z2 z3 z4) ⟨⟨_,dj,k6⟩,z2,z3,z1⟩ z4⟩
    · cases e3
  · cases e3
theorem Gp (hc:X.calm=true) (hg:Gl X "dict") (hm:X.mg "dict" = none) (hg2:Gl X "zip") (hm2:X.mg "zip" = none) (ha:PE X a (tOf X.K B m1)) (hb:PE X b (tOf X.K B m2))
    (hs:starEach [a,b] X.env=[(false,eval a X.env),(false,eval b X.env)]:=by rfl) (hs2:starEach [b] X.env=[(false,eval b X.env)]:=by rfl)
    (he:starEach [.Call (.Name "zip" p2) [a,b] [] p3] X.env=(false,eval (.Call (.Name "zip" p2) [a,b] [] p3) X.env)::starEach [] X.env:=by rfl) (hpl:(backTo p4 (starEach [] X.env)).any (·.1)=false:=by rfl) :
    PE X (.Call (.Name "dict" p1) [.Call (.Name "zip" p2) [a,b] [] p3] [] p4) (tOf X.K B (mOp G3 m1 m2)):=qm (Mj hc hg hm hg2 hm2 ha hb hs hs2 he hpl)
end
end C
end
section
namespace C
open PySem PySem.Spec PyProof.Rows L2
section
variable {K:PySem.W.Frag} {S:Hp} {as:List Addr}
mutual
theorem Rep.bare:∀ {v:V} {t:T},Rep K S as v t→noObj t=true→Rep K S [] v t
  | _,_,.non,_=>.non
  | _,_,.bl b,_=>.bl b
  | _,_,.int i,_=>.int i
  | _,_,.str y,_=>.str y
  | _,_,.tup h r,n=>.tup h (m7.bare r (by simpa only [noObj] using n))
  | _,_,.lst h r,n=>.lst h (m7.bare r (by simpa only [noObj] using n))
  | _,_,.dic h r,n=>.dic h (Ac.bare r (by simpa only [noObj] using n))
  | _,_,.obj h,n=>by simp [noObj] at n
theorem m7.bare:∀ {v:List V} {t:List T},m7 K S as v t→Hw t=true→m7 K S [] v t
  | _,_,.nil,_=>.nil
  | _,_,.cons h r,n=>by
    simp only [Hw,Bool.and_eq_true] at n
    exact .cons (Rep.bare h n.1) (m7.bare r n.2)
theorem Ac.bare:∀ {v:List (L2.Key × V)} {t:List (L2.Key × T)},Ac K S as v t→O8 t=true→Ac K S [] v t
  | _,_,.nil,_=>.nil
  | _,_,.cons h r,n=>by
    simp only [O8,Bool.and_eq_true] at n
    exact .cons (Rep.bare h n.1) (Ac.bare r n.2)
end
theorem m7.rep {vs:List V} {ts:List T} (r:m7 K S as vs ts):∀ k:Nat,m7 K S as (List.replicate k vs).flatten (List.replicate k ts).flatten
  | 0=>.nil
  | k+1=>by
    rw [List.replicate_succ,List.replicate_succ,List.flatten_cons,List.flatten_cons]
    exact r.append (r.rep k)
end
theorem Py {is:List Nat} {env:List Slot} {j:Nat} {t:T} {f:Bool} (h:(O1 is env)[j]? = some (some (t,f))):(lend is env)[j]? = some (some (t,f))∧noObj t=true:=by
  unfold O1 at h
  rw [List.getElem?_map] at h
  obtain ⟨x,e1,e2⟩:=Option.map_eq_some_iff.mp h
  cases x with
  | none=>cases e2
  | some p =>
    obtain ⟨t',g⟩:=p
    dsimp only at e2
    split at e2
    · rename_i hn; cases e2; exact ⟨e1,hn⟩
    · cases e2
section
variable {X:Cx} {B:Bas} {a b e:Expr} {m m2:M T} {pos p1:Pos} {es:List Expr} {ms:M (List T)}
theorem Rel.base {K:PySem.W.Frag} {B:Bas} {st:Sta} {σ:L2.St} {H S:Hp} {ps:List (V × T)} {as:List Addr} (r:Rel K B st σ H ps S as):Rel K ⟨S,as,B.H⟩ st σ H ps S as :=
  ⟨r.sub,⟨Same.refl _,nol,fun p o h1 h2 h3=>by
    change S p=none at h2
    have b2:B.S p=none:=by
      cases q:B.S p with
      | none=>rfl
      | some u=>have:=r.grow.same _ _ q; rw [h2] at this; cases this
    have b3:p∉B.as:=fun q=>by obtain ⟨l,e⟩:=r.grow.more; exact h3 (by show p∈as; rw [e]; exact List.mem_append_left _ q)
    exact ⟨(r.grow.keep p o h1 b2 b3).1,h2,h3⟩⟩,fun i t f e=>by
      obtain ⟨v,h1,h2,h3⟩:=r.slots i t f e
      exact ⟨v,h1,h2,fun q=>by obtain ⟨p,ep,o⟩:=h3 q; exact ⟨p,ep,o.own,o.out,o.nas,o.new⟩⟩,r.apart,r.sto,r.pend,r.len⟩
theorem Rel.a94 {K:PySem.W.Frag} {B:Bas} {st st':Sta} {σ σ':L2.St} {H H' S S':Hp} {ps ps':List (V × T)} {as as':List Addr} (r:Rel K B st σ H ps S as) (r':Rel K ⟨S,as,B.H⟩ st' σ' H' ps' S' as'):Rel K B st' σ' H' ps' S' as' :=
  ⟨r'.sub,⟨r.grow.same.trans r'.grow.same,by
    obtain ⟨l,e⟩:=r.grow.more
    obtain ⟨l',e'⟩:=r'.grow.more
    exact ⟨l++l',by rw [e',← List.append_assoc,← e]⟩,fun p o h1 h2 h3=>by
    obtain ⟨a,b,c⟩:=r.grow.keep p o h1 h2 h3
    exact r'.grow.keep p o h1 b c⟩,fun i t f e=>by
      obtain ⟨v,h1,h2,h3⟩:=r'.slots i t f e
      exact ⟨v,h1,h2,fun q=>by obtain ⟨p,ep,o⟩:=h3 q; exact ⟨p,ep,o.own,o.out,o.nas,o.new⟩⟩,r'.apart,r'.sto,r'.pend,r'.len⟩
theorem a5l (h:PA X es (aOf X.K B ms)) (hm:∀ st ts st',ms st=some (ts,st')→ts.length≤1000) (hb:∀ B,PE X b (tOf X.K B m2)):PE X (.BinOp (.List es p1) .Mult b pos) (tOf X.K B (mOp Vq (jo (fun l=>some (.lst l)) ms) m2)) :=
  (a7m a85 (V0 h) (peE hb)).imp fun σ H Q z9=>by
    obtain ⟨st,ps,S,as,R,t,st',ev,q⟩:=z9
    obtain ⟨t1,s1,t2,e1,e2,e3⟩:=Ks ev
    obtain ⟨ts,e4,e5⟩:=Bq e1
    cases e5
    cases t2 <;> simp only [Vq,reduceCtorEq] at e3
    rename_i j
    split at e3
    · rename_i hl
      cases e3
      refine ⟨st,ps,S,as,R,ts,s1,e4,fun vs H1 S1 as1 R1 rs=>⟨?_,fun p hp=>?_⟩⟩
      · rw [rs.length]; exact Nat.le_of_lt (Dw (hm _ _ _ e4))
      · have x:=Ext.laid R1.sub hp (.lst vs)
        have R2:=R1.ext x
        refine ⟨_,s1,_,_,as1,R2.base,_,_,e2,fun v2 H3 S3 as3 R3=>?_⟩
        have tp:=R3.top
        cases tp
        have hS:S3 p=some (.lst vs):=R3.grow.same _ _ dj
        have R4:=(R2.a94 R3).drop
        refine ⟨p,j,vs,rfl,rfl,R3.sub _ _ hS,by (clear R4 hS R3 R2 x hp rs R1 q ev e2 e1 e4 R hb hm h; omega),by (clear R4 hS R3 R2 x hp rs R1 q ev e2 e1 e4 R hb hm h; omega),?_,fun p2 hp2=>?_⟩
        · rw [rs.length]
          exact Nat.le_of_lt (Nat.lt_of_lt_of_le hl.2.2 lq)
        · have y:=Ext.laid R4.sub hp2 (.lst (List.replicate j.toNat vs).flatten)
          have sm:Same S1 S3:=x.s.trans R3.grow.same
          exact q _ _ _ _ ((R4.ext y).push (.lst (SqL.of dj) (((rs.mono sm R3.grow.more).rep j.toNat).mono y.s nol)))
    · cases e3
open Classical in
theorem a0l (is:List Nat) {mb:M Bool} (h:∀ B,PT X e (cOf X.K B mb)):PT X e (cOf X.K B (Ob is mb)):=by
  intro pins s σ H Q I z8
  obtain ⟨st,ps,S,as,R,b,st',em,q⟩:=z8
  unfold Ob at em
  split at em
  · rename_i b1 s1 e1
    split at em
    · rename_i hs1
      cases em
      let P:Addr→Prop:=fun p=>∃ i t,i∈is∧st.env[i]? = some (some (t,true))∧σ[i]? = some (some (.ref p))
      let S1:Hp:=fun p=>if P p then H p else S p
      have s1pos:∀ p,P p→S1 p=H p:=fun p hp=>if_pos hp
      have s1neg:∀ p,¬ P p→S1 p=S p:=fun p hp=>if_neg hp
      have sub1:Same S1 H:=fun p u hu=>by
        by_cases hp:P p
        · rw [s1pos p hp] at hu; exact hu
        · rw [s1neg p hp] at hu; exact R.sub _ _ hu
      have sS:Same S S1:=fun p u hu=>by
        by_cases hp:P p
        · rw [s1pos p hp]; exact R.sub _ _ hu
        · rw [s1neg p hp]; exact hu
      have R1:Rel X.K ⟨S1,[],H⟩ ⟨O1 is st.env,[]⟩ σ H [] S1 []:=by
        refine ⟨sub1,⟨Same.refl _,nol,fun p o a b c=>⟨a,b,c⟩⟩,fun i t f ei=>?_,fun i j t u p ei ej=>?_,⟨rfl,.nil,fun n so en=>by simp at en⟩,fun p hp=>(by cases hp),?_⟩
        · obtain ⟨ei,no⟩:=Py ei
          obtain ⟨rfl,g,eg,hg⟩:=Tr ei
          obtain ⟨v,h1,h2,h3⟩:=R.slots i t g eg
          refine ⟨v,h1,fun _=>?_,fun z=>by cases z⟩
          cases g with
          | false=>exact ((h2 rfl).mono sS nol).bare no
          | true =>
            obtain ⟨p,rfl,o⟩:=h3 rfl
            have hp:P p:=⟨i,t,hg rfl,eg,h1⟩
            have ow:=o.own
            refine Rep.bare (as:=as) ?_ no
            cases t with
            | lst ts=>obtain ⟨vs,hH,r⟩:=ow; exact .lst (SqL.of (by rw [s1pos p hp]; exact hH)) (r.mono sS nol)
            | dic ts=>obtain ⟨vs,hH,r⟩:=ow; exact .dic (.inl (by rw [s1pos p hp]; exact hH)) (r.mono sS nol)
            | _=>exact ow.elim
        · obtain ⟨ei,_⟩:=Py ei
          obtain ⟨z,_⟩:=Tr ei; cases z
        · show σ.length=(O1 is st.env).length
          unfold O1 lend
          rw [List.length_map,List.length_mapIdx]; exact R.len
      refine h ⟨S1,[],H⟩ pins s σ H Q I ⟨⟨O1 is st.env,[]⟩,[],S1,[],R1,_,s1,e1,fun H' S' as' R'=>q H' S as ?_⟩
      have keepAll:∀ p o,H p=some o→H' p=some o:=fun p o hp=>by
        cases z:S1 p with
        | none=>exact (R'.grow.keep p o hp z (by simp)).1
        | some w =>
          have:=sub1 _ _ z
          rw [hp] at this; cases this
          exact R'.sub _ _ (R'.grow.same _ _ z)
      refine ⟨fun p u hu=>R'.sub _ _ (R'.grow.same _ _ (sS _ _ hu)),⟨R.grow.same,R.grow.more,fun p o a b c=>?_⟩,fun i t f ei=>?_,R.apart,⟨R.sto.len,R.sto.nd,fun n so en=>?_⟩,R.pend,R.len⟩
      · obtain ⟨x,y,z⟩:=R.grow.keep p o a b c
        exact ⟨keepAll _ _ x,y,z⟩
      · obtain ⟨v,h1,h2,h3⟩:=R.slots i t f ei
        refine ⟨v,h1,h2,fun z=>?_⟩
        obtain ⟨p,rfl,o⟩:=h3 z
        obtain ⟨ob,ho⟩:=o.own.there
        exact ⟨p,rfl,o.own.mono (Same.refl _) (by rw [ho,keepAll _ _ ho]),o.out,o.nas,o.new⟩
      · obtain ⟨a,h1,h2,h3⟩:=R.sto.at' n so en
        obtain ⟨ob,ho⟩:=h3.there
        exact ⟨a,h1,h2,h3.mono (Same.refl _) (by rw [ho,keepAll _ _ ho])⟩
    · cases em
  · cases em
end
end C
end
section
namespace My
open PySem PySem.W PySem.Calls PyProof.Rows PySem.Spec
abbrev vB:List Value:=[.type "ValueError",.type "Exception",.type "BaseException",.type "object"]
theorem abk {K:Frag} {h:Heap} {D:Addr} {newId:String} (X:K.In h) (q:excIn K D vB newId=true):OwnTail h vB (.ref D::vB):=by
  refine tail_of_in X ?_
  unfold excIn at q
  unfold tailIn
  split at q
  · rename_i dd cd sl ho
    split at q
    · simp only [Bool.and_eq_true] at q
      dsimp only
      rw [ho]
      dsimp only
      rw [q.1.2,q.2]
      have z:tailIn K vB vB=true:=by unfold tailIn; rfl
      rw [z]
      simp
    · cases q
  · cases q
abbrev Xg (C t:Addr):Obj:={ cls:=.ref C,data:=.fields #[.ref t,.none,.none,.none,.bool false,.none] }
abbrev a3y (vs:List Value):Obj:={ cls:=.type "tuple",data:=.seq vs.toArray }
section
variable {prog:Program} {w:World} {A:Around} {E:Value→Shared→Prop} {s:Shared} {h₀:Heap} {L:Addr} {m:Str→Option Value} {news:List (Addr × Obj)} {K:Frag}
variable {nm q:Str} {C D Na:Addr} {bs:List Value} {hdct:Bool} {sn:List Str} {sub:List Value} {ab:Bool} {col:Option Bool} {dd:Option Addr} {k0 k1 k2 k3 k5:Option Value}
theorem Lj {h:Heap} {g:Array GenState} {d:Drawn} {t:Nat} {os:OsState} {rest:List Value} {fI:Addr} {R:Fin→Shared→Prop} (X:K.In h)
    (hC:h.get? C=some (excClassObj nm q C Na bs (.ref D::vB) hdct sn sub ab col dd k0 k1 k2 k3 k5 "ValueError.__new__")) (T:OwnTail h vB (.ref D::vB))
    (hi:findIn K (.ref C) "__init__" = some (some (.ref fI))) (hf:typeIn K (.ref fI)=some (.type "function")) -- here
    (hq:wpAny (model prog w) A (call (.ref fI) (.ref (h.objs.size+1)::rest)) (fun r s'=>r=.none∧R (.done (.ret (.ref (h.objs.size+1)))) s') E ⟨(h.push (a3y rest)).push (Xg C h.objs.size),g,d,t,os⟩) (hrest:rest.length≤sizeLine) :
    wpAny (model prog w) A (Builtin.«type.__call__» ⟨.ref C::rest,[]⟩) R E ⟨h,g,d,t,os⟩:=by
  have Fv:=PySem.F.excBase_ValueError
  have hv:vB.contains (.type "ValueError")=true:=by decide
  repeat (first | with_reducible refine wpAny_loadPart_at hC ?_ | with_reducible refine wpAny_madeBy_exc hC ?_ | wp_step) -- here
  refine codeAny_call_builtin_code (Code.quiet_builtin _ Fv.quiet) (wpAny_check_new_subU Fv hv T hC ?_)
  refine codeAny_exc_new_subU Fv hv Fv T hC ?_ hrest
  show wpAny _ _ _ _ _ _
  have kp:∀ b o,h.get? b=some o→((h.push (a3y rest)).push (Xg C h.objs.size)).get? b=some o:=fun b o e=>Heap.get?_push_of_some _ (Heap.get?_push_of_some _ e)
  have X1:=X.keeps kp
  have hget:((h.push (a3y rest)).push (Xg C h.objs.size)).get? (h.objs.size+1)=some (Xg C h.objs.size):=by heap_get
  have hcC:(Value.ref C :: .ref D::vB).contains (.ref C)=true:=by simp
  have hC1:=kp _ _ hC
  unfold isInstance
  repeat (first | with_reducible refine wpAny_loadPart_at hget ?_ | (with_reducible refine wpAny_isSubtype_exc hC1 ?_; rw [hcC]) | wp_step)
  show wpAny _ _ (typeLookup (.ref C) _) _ _ _ -- here
  refine looks_findIn X1 hi _ _ _ _ (fun _ _ e=>e) ?_
  refine wpAny_holding (wpAny_bind ?_) -- here
  refine bind_fn X1 _ hf _ _ _ _ (fun _ _ e=>e) ?_
  refine wpAny_bind (wpAny_mono hq (fun r s' hr=>?_) fun _ _ x=>x)
  obtain ⟨rfl,hQ⟩:=hr
  wp_walk
  exact hQ
end
end My
end
section
namespace My
open PySem PySem.W PySem.Calls PyProof.Rows PySem.Spec Builtin.ObjectAttr
abbrev a0p (C t dx:Addr):Obj:={ cls:=.ref C,dict:=some dx,data:=.fields #[.ref t,.none,.none,.none,.bool false,.none] }
theorem aaz (self:Value):refuseLoop self "__setattr__" vB=pure ():=by kernel_rfl
section
variable {prog:Program} {w:World} {A:Around} {E:Value→Shared→Prop} {s:Shared} {h₀:Heap} {L:Addr} {m:Str→Option Value} {news:List (Addr × Obj)} {K:Frag} {x C D t:Addr} {cd:ClassData} {name:Str} {v:Value} {g:Obj→List (Addr × Obj)}
end
end My
end
section
namespace My
open PySem PySem.W PySem.Calls PyProof.Rows PySem.Spec Builtin.ObjectAttr
theorem Tz:builtinKind "BaseException.__getattribute__" = some .slot:=by decide +kernel
theorem Qu:splitId "BaseException.__getattribute__" = some ("BaseException","__getattribute__"):=by decide +kernel
section
variable {prog:Program} {w:World} {A:Around} {E:Value→Shared→Prop} {s:Shared} {K:Frag} {x C:Addr} {ox:Obj} {od:Option Obj} {name:Str} {v:Value} {expr:Bool}
theorem a2j {Q:Value→Shared→Prop} (X:K.In s.heap) (I:InstAt s.heap x ox C od) (hga:findIn K (.ref C) "__getattribute__" = some (some (.builtin "BaseException.__getattribute__")))
    (hgt:findIn K (.ref C) "__getattr__" = some none) (hb:mroIn K C (.type "BaseException")=some true) (hf:findObj K C od name=some (.value v)) (hh:handedIn v=true) (h:Q v { s with toks:=s.toks+1 }) :
    wpAny (model prog w) A (getAttr (.ref x) name expr) Q E s:=by
  obtain ⟨hp,g,d,tk,os⟩:=s -- here
  have FB:=PySem.F.excAttr_ValueError
  have f3:=FB.ga.bind (.ref x)
  have L0:=I.type (M:=model prog w) -- here
  have L1:=looks_findIn (M:=model prog w) X hga -- here
  have L2:=looks_findIn (M:=model prog w) X hgt
  have L3:=looks_find (M:=model prog w) X I hf
  have L4:Looks (model prog w) hp (isInstance (.ref x) (.type "BaseException")) true:=I.type.andThen (looks_mroIn X hb)
  have hx0:(expr&&onTheHeap (Value.builtin "BaseException.__getattribute__"))=false:=by cases expr <;> rfl -- here
  have hx2:(Value.builtin "BaseException.__getattribute__" == Value.builtin "object.__getattribute__")=false:=by decide +kernel -- here
  unfold getAttr getAttrBy
  refine wpAny_bind (wpAny_mkText (wpAny_holding (wpAny_bind (L0.at (wpAny_bind (L1.at ?_)))))) -- here
  dsimp only
  rw [hx2,Bool.and_false]
  rw [if_neg (by decide)]
  unfold getAttrByItsOwn
  have LH:Looks (model prog w) hp (hookBefore (.ref C)) none:=looks_hook (mc:=.ref C) X (by rw [if_pos (show onTheHeap (.ref C)=true from rfl)]; exact hgt)
  refine wpAny_bind (LH.at (wpAny_bind (wpAny_attempt (wpAny_holding ?_))))
  unfold callGetattribute
  rw [hx0,if_neg (by decide)]
  unfold boundAndCalled
  rw [f3]
  refine wpAny_bind (wpAny_pure ?_)
  show wpAny _ _ (call (.builtin "BaseException.__getattribute__") [.ref x,.str name tk]) _ _ _
  refine wpAny_call (codeAny_call_builtin FB.ga.plain PySem.F.entry_bexc_ga (@check_slot (model prog w) _ _ _ "BaseException.__getattribute__" "BaseException" "__getattribute__" (.ref x) [.str name tk] [] _ Tz Qu L4 (PySem.F.args_bexc_ga (.ref x) (.str name tk)) ?_))
  unfold Builtin.«object.__getattribute__» -- here
  refine wpAny_bind (wpAny_pure (wpAny_bind (wpAny_pure (wpAny_bind (L0.at (wpAny_bind (L3.at ?_)))))))
  refine wpAny_pure ?_
  show wpAny _ _ (handedOut v) _ _ _ -- here
  rw [handedOut_of hh]
  exact wpAny_pure h
end
end My
end
section
namespace My
open PySem PySem.W PySem.Calls PyProof.Rows PySem.Spec Builtin.ObjectAttr
section
variable {prog:Program} {w:World} {A:Around} {E:Value→Shared→Prop} {s:Shared} {K:Frag} {x C:Addr} {ox od:Obj} {name:Str} {tk:Tok} {v:Value} {fill expr:Bool}
theorem Ye {Q:Value→Shared→Prop} (X:K.In s.heap) (I:InstAt s.heap x ox C (some od)) (hga:findIn K (.ref C) "__getattribute__" = some (some (.builtin "BaseException.__getattribute__")))
    (hgt:findIn K (.ref C) "__getattr__" = some none) (hb:mroIn K C (.type "BaseException")=some true)
    (h:∀ A',wpAny (model prog w) A' (Builtin.«object.__getattribute__» ⟨[.ref x,.str name tk],[]⟩) (fun fin s'=>∃ v,fin=.done (.ret v)∧handedIn v=true∧Q v s') (fun _ _=>False) s) :
    wpAny (model prog w) A (getAttrBy (.ref x) (.str name tk) fill expr) Q E s:=by
  obtain ⟨hp,g,d,tt,os⟩:=s
  have FB:=PySem.F.attr_ValueError
  have f3:=FB.ga.bind (.ref x)
  have L0:=I.type (M:=model prog w) -- here
  have L1:=looks_findIn (M:=model prog w) X hga -- here
  have L4:Looks (model prog w) hp (isInstance (.ref x) (.type "BaseException")) true:=I.type.andThen (looks_mroIn X hb)
  have hx0:(expr&&onTheHeap (Value.builtin "BaseException.__getattribute__"))=false:=by cases expr <;> rfl -- here
  have hx2:(Value.builtin "BaseException.__getattribute__" == Value.builtin "object.__getattribute__")=false:=by decide +kernel -- here
  unfold getAttrBy
  refine wpAny_holding (wpAny_bind (L0.at (wpAny_bind (L1.at ?_)))) -- here
  dsimp only
  rw [hx2,Bool.and_false,if_neg (by decide)]
  unfold getAttrByItsOwn
  have LH:Looks (model prog w) hp (hookBefore (.ref C)) none:=looks_hook (mc:=.ref C) X (by rw [if_pos (show onTheHeap (.ref C)=true from rfl)]; exact hgt)
  refine wpAny_bind (LH.at (wpAny_bind (wpAny_attempt (wpAny_holding ?_))))
  unfold callGetattribute
  rw [hx0,if_neg (by decide)]
  unfold boundAndCalled
  rw [f3]
  refine wpAny_bind (wpAny_pure ?_)
  show wpAny _ _ (call (.builtin "BaseException.__getattribute__") [.ref x,.str name tk]) _ _ _
  refine wpAny_call (codeAny_call_builtin FB.ga.plain PySem.F.entry_bexc_ga (@check_slot (model prog w) _ _ _ "BaseException.__getattribute__" "BaseException" "__getattribute__" (.ref x) [.str name tk] [] _ Tz Qu L4 (PySem.F.args_bexc_ga (.ref x) (.str name tk)) ?_))
  refine wpAny_mono (h _) (fun fin s' z=>?_) fun _ _ z=>z.elim
  obtain ⟨v,rfl,hh,q⟩:=z
  show wpAny _ _ (handedOut v) _ _ _ -- here
  rw [handedOut_of hh]
  exact wpAny_pure q
theorem Xh {Q:Option Value→Shared→Prop} (X:K.In s.heap) (I:InstAt s.heap x ox C (some od)) (hga:findIn K (.ref C) "__getattribute__" = some (some (.builtin "BaseException.__getattribute__")))
    (hgt:findIn K (.ref C) "__getattr__" = some none) (hb:mroIn K C (.type "BaseException")=some true) (hh:hasDictIn K C=true)
    (ha:findIn K (.ref C) "__class__" = some (some (.builtin "object.__class__"))) (hn:specialIn K (.builtin "object.__class__") "__get__" = some (some (.builtin "getset_descriptor.__get__"))) (ht:takesIn K (.builtin "object.__class__")=some true) -- here
    (hm:mroIn K C (.type "object")=some true) (h:Q (some (.ref C)) { s with toks:=s.toks+1 }):wpAny (model prog w) A (getAttr? (.ref x) "__class__") Q E s:=by
  unfold getAttr?
  refine wpAny_bind (wpAny_mkText ?_) -- here
  unfold getAttrBy?
  refine wpAny_bind (wpAny_attempt (Ye (s:={ s with toks:=s.toks+1 }) X I hga hgt hb fun A'=>?_))
  have L0:=I.type (M:=model prog w) -- here
  have L3:=looks_find (M:=model prog w) X I (name := "__class__") (findObj_data (by obtain ⟨cd,hc,_⟩:=any_some hh; rw [hc]; rfl) ha hn ht)
  unfold Builtin.«object.__getattribute__» -- here
  refine wpAny_bind (wpAny_pure (wpAny_bind (wpAny_pure (wpAny_bind (L0 _ _ _ _ (fun _ _ e=>e) (wpAny_bind (L3 _ _ _ _ (fun _ _ e=>e) ?_)))))))
  dsimp only
  unfold bindTo
  refine wpAny_bind (wpAny_holding (wpAny_call (class_get (ox:=ox) (od:=some od) X I hm (wpAny_pure ⟨_,rfl,rfl,wpAny_pure h⟩))))
theorem a1e (hga:findIn K (.ref C) "__getattribute__" = some (some (.builtin "BaseException.__getattribute__")))
    (hgt:findIn K (.ref C) "__getattr__" = some none) (hb:mroIn K C (.type "BaseException")=some true) (hh:hasDictIn K C=true)
    (ha:findIn K (.ref C) "__class__" = some (some (.builtin "object.__class__"))) (hn:specialIn K (.builtin "object.__class__") "__get__" = some (some (.builtin "getset_descriptor.__get__"))) (ht:takesIn K (.builtin "object.__class__")=some true) -- here
    (hm:mroIn K C (.type "object")=some true):KitX K (.ref x) (.ref C) (fun h=>InstAt h x ox C (some od)) where
  ty:=fun _ _ _ I=>I.type
  it:=fun _ _ X _=>by
    obtain ⟨cd0,hc0,_⟩:=any_some hh
    unfold clsIn at hc0
    split at hc0
    · rename_i ho
      intro A' Q' E' s' k q
      unfold isType loadHead
      exact wpAny_bind (wpAny_loadPart (k _ _ (X _ _ ho)) (wpAny_pure q)) -- here
    · cases hc0
  ne:=fun h tp dd its n sl X htp=>by -- here
    obtain ⟨cd0,hc0,_⟩:=any_some hh
    refine Bool.eq_false_iff.mpr fun q=>?_ -- here
    have e:C=tp:=Value.ref.inj (beq_iff_eq.mp q)
    subst e
    unfold clsIn at hc0
    split at hc0
    · rename_i ho
      cases (X _ _ ho).symm.trans htp
    · cases hc0
  ca:=fun X I k=>Xh X I hga hgt hb hh ha hn ht hm k
end
end My
end
section
namespace L2
open PySem PySem.Spec PyProof.Rows
abbrev Ut (C dx:Addr) (vs:Array Value):Obj:={ cls:=.ref C,dict:=some dx,data:=.fields vs }
structure XAt (h:Heap) (e C dx T:Addr) (fl:Value):Prop where
  ne:T≠e
  at_:∃ vs,h.get? e=some (Ut C dx vs)∧vs[1]? = some (.ref T)
  tb:∃ o ts,h.get? T=some o∧o.data=.fields ts∧ts[3]? = some fl
structure Kp (fs ch:List Addr) (h h':Heap):Prop where
  keep:∀ b o,h.get? b=some o→b∉fs→b∉ch→h'.get? b=some o
  slot:∀ b o,h.get? b=some o→b∉ch→∃ sl,h'.get? b=some { o with slots:=sl }
  there:∀ b o,h.get? b=some o→∃ o',h'.get? b=some o'
  size:h.objs.size≤h'.objs.size
theorem Kp.trans {fs ch:List Addr} {h h1 h2:Heap} (a:Kp fs ch h h1) (b:Kp fs ch h1 h2):Kp fs ch h h2 where
  keep:=fun c o q n m=>b.keep c o (a.keep c o q n m) n m
  slot:=fun c o q m=>by
    obtain ⟨sl,e1⟩:=a.slot c o q m
    obtain ⟨sl',e2⟩:=b.slot c _ e1 m
    exact ⟨sl',e2⟩
  there:=fun c o q=>by
    obtain ⟨o',e1⟩:=a.there c o q
    exact b.there c o' e1
  size:=Nat.le_trans a.size b.size
theorem Kp.mono {fs ch fs' ch':List Addr} {h h':Heap} (a:Kp fs ch h h') (hf:∀ b∈fs,b∈fs') (hc:∀ b∈ch,b∈ch'):Kp fs' ch' h h' where
  keep:=fun c o q n m=>a.keep c o q (fun z=>n (hf _ z)) fun z=>m (hc _ z)
  slot:=fun c o q m=>a.slot c o q fun z=>m (hc _ z)
  there:=a.there
  size:=a.size
theorem Kp.slots {fs:List Addr} {h h':Heap} (x:Heap.SlotsOnly fs h h'):Kp fs [] h h' where
  keep:=fun b o q n _=>(x.2.1 b n).trans q
  slot:=fun b o q _=>x.2.2 b o q
  there:=fun b o q=>let ⟨sl,e⟩:=x.2.2 b o q; ⟨_,e⟩
  size:=Nat.le_of_eq x.1.symm
theorem Kp.pushed {fs ch:List Addr} {h:Heap} (o:Obj):Kp fs ch h (h.push o) where
  keep:=fun b u q _ _=>Heap.get?_push_of_some _ q
  slot:=fun b u q _=>⟨u.slots,Heap.get?_push_of_some _ q⟩
  there:=fun b u q=>⟨u,Heap.get?_push_of_some _ q⟩
  size:=by rw [Heap.size_push]; exact Nat.le_succ _
theorem Kp.field {fs:List Addr} {h:Heap} {e:Addr} {o:Obj} {vs:Array Value} (he:h.get? e=some o) (hd:o.data=.fields vs) (f:Array Value→Array Value):Kp fs [e] h (h.update e (Obj.mapFields f)) where
  keep:=fun b u q _ m=>by rw [Heap.get?_update_other _ _ (fun z=>m (by simp [z]))]; exact q
  slot:=fun b u q m=>⟨u.slots,by rw [Heap.get?_update_other _ _ (fun z=>m (by simp [z]))]; exact q⟩
  there:=fun b u q=>by
    by_cases z:e=b
    · subst z; exact ⟨_,Heap.get?_update_self _ he (Obj.isFreed_of_fields (Obj.data_mapFields hd f))⟩
    · exact ⟨u,by rw [Heap.get?_update_other _ _ z]; exact q⟩
  size:=Nat.le_of_eq (Heap.size_after_update ..).symm
section
variable {M:Model} {A:Around} {E:Value→Shared→Prop} {s:Shared} {base:Heap} {env:Env} {outer:List Env} {L e C dx T:Addr} {fl:Value} {vs:Array Value} {Q:Unit→Shared→Prop}
theorem M4 {head:Value} {hn:Bool} (hfr:A.frames=some (env::outer)) (hl:s.heap.FunFrames base (env::outer)) (hf:env.frame=some L) (he:s.heap.get? e=some (Ut C dx vs)) (h1:1<vs.size)
    (hen:e∉frs (env::outer))
    (h:∀ h' T,s.heap.objs.size≤T→Kp (frs (env::outer)) [e] s.heap h'→XAt h' e C dx T (rawInt L)→Q () { s with heap:=h' }) :
    wpAny M A (frameOf env >>= fun a=>entryPlaceOf L hn >>= fun pl=>EntryCells.newEntry head a .none (rawInt L) .none pl >>= fun b=>setField (.ref e) 1 b) Q E s:=by
  refine wpAny_bind (wpAny_frameOf_fun hfr hl hf fun h1' hs=>?_)
  refine wpAny_bind (wpAny_entryPlaceOf fun pl hpl=>?_) -- here
  unfold EntryCells.newEntry newFields -- here
  have e1:h1'.get? e=some (Ut C dx vs):=(hs.2.1 e hen).trans he
  refine wpAny_bind (wpAny_newObj_type ?_ (hpl.sizeOk5 _ _ _ _ _)) -- here
  refine wpAny_setField (Heap.get?_push_of_some _ e1) rfl h1 ?_
  have ne:h1'.objs.size≠e:=Nat.ne_of_gt (Heap.lt_size e1)
  refine h _ h1'.objs.size (Nat.le_of_eq hs.1.symm) ?_ ⟨ne,⟨vs.setIfInBounds 1 (.ref h1'.objs.size),?_,by simp [h1]⟩,?_⟩
  · exact (((Kp.slots hs).mono (ch':=[e]) (fun _ z=>z) (fun _ z=>nomatch z)).trans (Kp.pushed _)).trans (Kp.field (Heap.get?_push_of_some _ e1) rfl _)
  · exact Heap.get?_update_self _ (Heap.get?_push_of_some _ e1) rfl
  · refine ⟨_,_,(Heap.get?_update_other _ _ (Ne.symm ne)).trans (Heap.get?_push_size _ rfl),rfl,?_⟩
    rcases hpl with rfl | ⟨_,_,_,_,_,_,_,rfl⟩ <;> simp
theorem Vs (hfr:A.frames=some (env::outer)) (hl:s.heap.FunFrames base (env::outer)) (hf:env.frame=some L) (he:s.heap.get? e=some (Ut C dx vs)) (h1:vs[1]? = some .none) (hen:e∉frs (env::outer))
    (h:∀ h' T,s.heap.objs.size≤T→Kp (frs (env::outer)) [e] s.heap h'→XAt h' e C dx T (rawInt L)→Q () { s with heap:=h' }):wpAny M A (noteFrame (.ref e) env) Q E s:=by
  unfold noteFrame
  simp only [hf]
  refine wpAny_bind (wpAny_field he rfl h1 ?_)
  rw [if_neg (by decide)]
  exact M4 hfr hl hf he (Array.getElem?_eq_some_iff.mp h1).1 hen h
theorem Y8 (hfr:A.frames=some (env::outer)) (hl:s.heap.FunFrames base (env::outer)) (hf:env.frame=some L) (x:XAt s.heap e C dx T .none) (hen:e∉frs (env::outer)) (hTn:T∉frs (env::outer))
    (h:∀ h' T',s.heap.objs.size≤T'→Kp (frs (env::outer)) [e,T] s.heap h'→XAt h' e C dx T' (rawInt L)→Q () { s with heap:=h' }):wpAny M A (noteFrame (.ref e) env) Q E s:=by
  obtain ⟨ne,⟨vs,he,h1⟩,o,ts,hT,hd,h3⟩:=x
  have k1:Kp (frs (env::outer)) [T] s.heap (s.heap.update T (Obj.mapFields (·.setIfInBounds 3 Value.none))):=Kp.field hT hd _
  unfold noteFrame
  simp only [hf]
  refine wpAny_bind (wpAny_field he rfl h1 ?_)
  rw [if_pos (show (Value.ref T != Value.none)=true from by simp)] -- here
  refine wpAny_bind (wpAny_field hT hd h3 ?_)
  rw [if_neg (show ¬ ((Value.none==rawInt L)=true) from by simp [rawInt])] -- here
  refine wpAny_bind (wpAny_setField hT hd (Array.getElem?_eq_some_iff.mp h3).1 ?_)
  have he':(s.heap.update T (Obj.mapFields (·.setIfInBounds 3 Value.none))).get? e=some (Ut C dx vs):=(Heap.get?_update_other _ _ ne).trans he
  refine M4 (base:=base) hfr (hl.of_keeps fun b u q nf=>?_) hf he' (Array.getElem?_eq_some_iff.mp h1).1 hen fun h' T' hz k2 x=>h h' T' (Nat.le_trans k1.size hz) ((k1.mono (fun _ z=>z) (by simp)).trans (k2.mono (fun _ z=>z) (by simp))) x
  refine ⟨u,?_,rfl⟩
  have:T≠b:=fun z=>by subst z; rw [hT] at q; cases q; exact nf ts hd
  rw [Heap.get?_update_other _ _ this]; exact q
theorem Gx (x:XAt s.heap e C dx T fl) (h:∀ h',Kp [] [T] s.heap h'→XAt h' e C dx T .none→Q () { s with heap:=h' }):wpAny M A (setFlight (.ref e) none) Q E s:=by
  obtain ⟨ne,⟨vs,he,h1⟩,o,ts,hT,hd,h3⟩:=x
  have z3:=(Array.getElem?_eq_some_iff.mp h3).1
  unfold setFlight
  refine wpAny_bind (wpAny_field he rfl h1 ?_)
  rw [if_pos (show (Value.ref T != Value.none)=true from by simp)] -- here
  refine wpAny_setField hT hd z3 (h _ (Kp.field hT hd _) ⟨ne,⟨vs,(Heap.get?_update_other _ _ ne).trans he,h1⟩,_,_,Heap.get?_update_self _ hT (Obj.isFreed_of_fields (Obj.data_mapFields hd _)),Obj.data_mapFields hd _,by simp [z3]⟩)
end
end L2
end
section
namespace My
open PySem PySem.W PySem.Calls PyProof.Rows PySem.Spec Builtin.ObjectAttr
section
variable {prog:Program} {w:World} {A:Around} {E:Value→Shared→Prop} {s:Shared} {K:Frag} {x C D t:Addr} {cd:ClassData} {name:Str} {v:Value}
theorem a0r {Q:Unit→Shared→Prop} (X:K.In s.heap) (hx:s.heap.get? x=some (Xg C t))
    (hs:findIn K (.ref C) "__setattr__" = some (some (.builtin "object.__setattr__"))) (hc:clsIn K C=some cd) (hm:cd.mro=.ref C :: .ref D::vB) (hd:cd.hasDict=true)
    (ho:mroIn K C (.type "object")=some true) (ha:findIn K (.ref C) name=some none)
    (h:∀ h',(∀ b o,b≠x→s.heap.get? b=some o→h'.get? b=some o)→h'.get? x=some (a0p C t s.heap.objs.size)→h'.get? s.heap.objs.size=some (dictOf [⟨PyData.keyHash w.params name,.str name (s.toks+1),v⟩] 1)→Q () { s with heap:=h',toks:=s.toks+2 }) :
    wpAny (model prog w) A (setAttr (.ref x) name v) Q E s:=by
  have I:InstAt s.heap x (Xg C t) C none:=⟨hx,rfl,rfl,trivial⟩
  refine set_plain X I hs ?_
  have SF:=PySem.F.store_object -- here
  have sub:Looks (model prog w) s.heap (isInstance (.ref x) (.type "object")) true:=I.type.andThen (looks_mroIn X ho)
  refine codeAny_call_builtin SF.slot.plain SF.entry (@check_slot (model prog w) _ _ _ "object.__setattr__" "object" "__setattr__" (.ref x) [.str name s.toks,v] [] _ SF.kind SF.split sub (SF.args (.ref x) (.str name s.toks) v) ?_)
  have hmr:Looks (model prog w) s.heap (mroOf (.ref C)) cd.mro:=(looks_clsIn X hc).andThen .now
  rw [osa_eq,refuse_eq]
  refine wpAny_bind (wpAny_bind (I.type _ _ _ _ (fun _ _ e=>e) (wpAny_bind (hmr _ _ _ _ (fun _ _ e=>e) ?_))))
  rw [hm,refuseLoop_ref,refuseLoop_ref,aaz]
  refine wpAny_pure (wpAny_bind (I.type _ _ _ _ (fun _ _ e=>e) (wpAny_bind (looks_findIn X ha _ _ _ _ (fun _ _ e=>e) (wpAny_bind (wpAny_pure ?_))))))
  dsimp only
  refine wpAny_bind (wpAny_pure (wpAny_bind (wpAny_bind (wpAny_loadPart hx (wpAny_bind (looks_clsIn X hc _ _ _ _ (fun _ _ e=>e) ?_))))))
  rw [hd]
  show wpAny _ _ (alloc { cls:=.type "dict",data:=.dict #[] } >>= fun dx=>update x (fun o=>{ o with dict:=some dx }) >>= fun _=>dictMade (.ref C) x dx) _ _ _
  have lx:x<s.heap.objs.size:=Heap.lt_size hx
  have g1:=Heap.get?_push_of_some (h:=s.heap) (dictOf [] 0) hx
  have g2:((s.heap.push (dictOf [] 0)).update x (fun o=>{ o with dict:=some s.heap.objs.size })).get? x=some (a0p C t s.heap.objs.size):=Heap.get?_update_self _ g1 rfl
  have g3:((s.heap.push (dictOf [] 0)).update x (fun o=>{ o with dict:=some s.heap.objs.size })).get? s.heap.objs.size=some (dictOf [] 0):=(Heap.get?_update_other _ _ (Nat.ne_of_lt lx)).trans (Heap.get?_push_size _ rfl)
  refine wpAny_bind (wpAny_alloc (wpAny_bind (wpAny_update g1 ?_)))
  refine wpAny_pure (a:=some s.heap.objs.size) (wpAny_bind (wpAny_pure (wpAny_bind ?_)))
  unfold nsSet
  refine wpAny_bind (wpAny_bind (wpAny_askSetting (wpAny_pure (wpAny_bind (wpAny_mkText (wpAny_bind (wpAny_loadPart g3 ?_)))))))
  have c:aRefKeyMayBeTheName name [].toArray=false:=by rw [aRefKeyMayBeTheName_at]; simp
  show wpAny _ _ (if aRefKeyMayBeTheName name [].toArray=true then _ else _) _ _ _
  rw [c]
  refine wpAny_updatePart g3 ?_
  have g4:=Heap.get?_update_self (Obj.putName name (PyData.keyHash w.params name) (.str name (s.toks+1)) v) g3 (by rw [putName_dict]; rfl)
  refine wpAny_bind (wpAny_lookBehind g4 (pastItsLine_dict (by rw [List.size_toArray,sizeLine_eq]; show 1≤_; decide)) ?_)
  refine wpAny_pure (h _ (fun b o nb q=>?_) ?_ ?_)
  · have l:=Heap.lt_size q
    rw [Heap.get?_update_other _ _ (Nat.ne_of_gt l),Heap.get?_update_other _ _ (Ne.symm nb)]
    exact Heap.get?_push_of_some _ q
  · rw [Heap.get?_update_other _ _ (Nat.ne_of_gt lx)]; exact g2
  · exact g4
end
end My
end
section
namespace L2
open PySem PySem.Spec PyProof.Rows
structure XC (K:PySem.W.Frag) (C D fI:Addr) (f:Str):Prop where
  lk:∃ nm q Na bs sn sub ab col dd k0 k1 k2 k3 k5,K.lookup C=some (excClassObj nm q C Na bs (.ref D::My.vB) true sn sub ab col dd k0 k1 k2 k3 k5 "ValueError.__new__")
  base:PySem.W.excIn K D My.vB "ValueError.__new__" = true
  init:PySem.W.findIn K (.ref C) "__init__" = some (some (.ref fI))
  fn:PySem.W.isFn K (.ref fI)=true
  sa:PySem.W.findIn K (.ref C) "__setattr__" = some (some (.builtin "object.__setattr__"))
  ob:PySem.W.mroIn K C (.type "object")=some true
  na:PySem.W.findIn K (.ref C) f=some none
  kp:PySem.W.keepIn K (.ref C)=true
def a9t (e C t:Addr):HO:=.ext fun h=>h.get? e=some (My.Xg C t)
def Yc (e C t dx:Addr):HO:=.ext fun h=>h.get? e=some (My.a0p C t dx)
def Dk (dx:Addr) (f:Str) (v:V):HO:=.ext fun h=>∃ hs tk u,RelV v u∧h.get? dx=some (PySem.W.dictOf [⟨hs,.str f tk,u⟩] 1)
theorem a3m {P:Program} {w:World} {H:Hp} {h:Heap} {a:Addr} {o:Obj} (e:h.get? a=some o):su P w H h a (.ext fun h=>h.get? a=some o):=⟨e,⟨_,e⟩,fun _ _ q k=>k _ q⟩
theorem a0k {P:Program} {w:World} {H:Hp} {h:Heap} {dx:Addr} {f:Str} {v:V} {hs:Int} {tk:Tok} {u:Value} (r:RelV v u) (e:h.get? dx=some (PySem.W.dictOf [⟨hs,.str f tk,u⟩] 1)):su P w H h dx (Dk dx f v) :=
  ⟨⟨hs,tk,u,r,e⟩,⟨_,e⟩,fun _ _ ⟨a,b,c,r,q⟩ k=>⟨a,b,c,r,k _ q⟩⟩
section
variable {X:Cx} {pins:List (Addr × Obj)} {σ:St} {H:Hp} {s:Shared} {e C D fI t:Addr} {f:Str} {v:V} {u:Value} {A:Around} {E:Value→Shared→Prop}
theorem Inv.a99 {h':Heap} {dx:Addr} {o p:HO} {t':Nat} (I:Inv X pins σ H s) (he:Mut (H e)) (hz:s.heap.objs.size≤dx) (k:∀ b u,b≠e→s.heap.get? b=some u→h'.get? b=some u) (hoe:∃ u,h'.get? e=some u)
    (n1:∀ H',su X.prog X.w H' h' e o) (n2:∀ H',su X.prog X.w H' h' dx p):Inv X pins σ (upd (upd H dx p) e o) { s with heap:=h',toks:=t' }:=by
  have hdx:H dx=none:=I.hok.fresh hz
  have ne:dx≠e:=fun z=>by subst z; rw [hdx] at he; exact he
  have nb:∀ b,H b=none→b≠e:=fun b n z=>by subst z; rw [n] at he; exact he
  have ns:∀ b u,s.heap.get? b=some u→b≠dx:=fun b u q z=>by subst z; exact absurd (Nat.lt_of_lt_of_le (Heap.lt_size q) hz) (Nat.lt_irrefl _)
  have nm:∀ b u,H b=some u→¬ Mut (some u)→b≠e∧b≠dx:=fun b u q n=>⟨fun z=>by subst z; rw [q] at he; exact n he,fun z=>by subst z; rw [hdx] at q; cases q⟩
  have up:∀ b,b≠e→b≠dx→upd (upd H dx p) e o b=H b:=fun b n m=>by rw [dw n,dw m]
  refine I.un (t':=t') ⟨fun b u q n _ _=>k b u (nb b n) q,fun b u q n _ _=>⟨u.slots,k b u (nb b n) q⟩,fun b u q n _=>by rw [up b (nb b n) (ns b u q)]; exact n,fun b u q _=>?_,
    fun b xs q=>?_,fun b u xs q=>?_,fun b ps q=>⟨#[],?_⟩⟩ fun b u q=>?_
  · by_cases z:b=e
    · subst z; exact hoe
    · exact ⟨u,k b u z q⟩
  · obtain ⟨a,c⟩:=nm b _ q fun z=>z
    rw [up b a c]; exact q
  · obtain ⟨a,c⟩:=nm b _ q fun z=>z
    rw [up b a c]; exact q
  · obtain ⟨a,c⟩:=nm b _ q fun z=>z
    rw [up b a c,q]; simp
  · by_cases z:b=e
    · subst z; rw [dj] at q; cases q; exact n1 _
    · rw [dw z] at q
      by_cases y:b=dx
      · subst y; rw [dj] at q; cases q; exact n2 _
      · rw [dw y] at q
        refine (I.hok b u q).stay (fun c w hc r=>k c w ?_ r) (fun c r=>?_) fun c xs r=>?_
        · rcases hc with hc | hc
          · rw [hc]; exact z
          · exact (nm c _ hc fun z=>z).1
        · obtain ⟨a,d⟩:=nm c _ r fun z=>z
          rw [up c a d]; exact r
        · obtain ⟨a,d⟩:=nm c _ r fun z=>z
          rw [up c a d]; exact r
theorem Zh {Q:Unit→Shared→Prop} (c:XC X.K C D fI f) (I:Inv X pins σ H s) (e0:H e=some (a9t e C t)) (r:RelV v u)
    (h:∀ s' dx,H dx=none→dx≠e→Inv X pins σ (upd (upd H dx (Dk dx f v)) e (Yc e C t dx)) s'→Q () s'):wpAny (model X.prog X.w) A (setAttr (.ref e) f u) Q E s:=by
  obtain ⟨nm,q,Na,bs,sn,sub,ab,col,dd,k0,k1,k2,k3,k5,lk⟩:=c.lk
  have hx:s.heap.get? e=some (My.Xg C t):=(I.hok e _ e0).1
  refine My.a0r (cd:={ name:=nm,bases:=bs,mro:=.ref C :: .ref D::My.vB,ns:=Na,qualname:=q,hasDict:=true,slotNames:=sn,subclasses:=sub,abstract:=ab,collection:=col,hasDel:=false }) I.kIn hx c.sa (by unfold PySem.W.clsIn; rw [lk]) rfl rfl c.ob c.na fun h' k g1 g2=>h _ s.heap.objs.size (I.hok.fresh (Nat.le_refl _)) (Nat.ne_of_gt (Heap.lt_size hx)) ?_
  exact I.a99 (by rw [e0]; exact True.intro) (Nat.le_refl _) k ⟨_,g1⟩ (fun _=>a3m g1) fun _=>a0k r g2
end
def ab8 (C:Addr) (f:Str) (ta tv:TE):TS:=fun D σ H=>tv σ H fun v H1=>ta σ H1 fun x H2=>∃ e t,x=.ref e∧H2 e=some (a9t e C t)∧∀ dx,H2 dx=none→dx≠e→D.nx σ (upd (upd H2 dx (Dk dx f v)) e (Yc e C t dx))
def Oo (C:Addr) (f:Str):Sp:=fun vs H Q _=>∃ e t v,vs=[.ref e,v]∧H e=some (a9t e C t)∧∀ dx,H dx=none→dx≠e→Q .non (upd (upd H dx (Dk dx f v)) e (Yc e C t dx))
section
variable {X:Cx} {o value:Expr} {ta tv:TE} {f:Str} {pos pos':Pos} {C D fI:Addr}
theorem a4s (c:XC X.K C D fI f) (ha:PE X o ta) (hv:PE X value tv) (hs:swapsWith value (some (.Attribute o f pos')) pos.line X.env=pure false):PS X (.Assign [.Attribute o f pos'] value pos) (ab8 C f ta tv):=by
  intro pins s σ H D I h
  refine plainObj_wpAny_Assign_Attribute (thn (hv pins s σ H _ I h) fun u s1 ⟨y,H1,I1,ry,q⟩=>thn (ha pins s1 σ H1 _ I1 q) fun ov s2 ⟨x,H2,I2,rx,e,t,ex,e0,q2⟩=>?_) hs
  subst ex
  obtain rfl:ov=Value.ref e:=rx
  exact Zh c I2 e0 ry fun s3 dx h1 h2 I3=>⟨σ,_,I3,q2 dx h1 h2⟩
end
section
variable {P:Program} {w:World} {K:PySem.W.Frag} {mg:Str→Option Value} {base:Heap}
theorem a74 {qual p f:Str} {st:Stmt} {C D fI:Addr} {fd:FuncData} {q1 q2 q3 q4:Pos} (c:XC K C D fI f) (F:Fun K "__init__" qual st fI fd) (S:jc ["self",p] ["self",p] (dz st))
    (hb:zy st=[.Assign [.Attribute (.Name "self" q1) f q2] (.Name p q3) q4]) (h1:(dz st).names.lookup ("self" : Str)=some .local) (h2:(dz st).names.lookup p=some .local) (hp:("self" : Str)≠p) (hd:(p==("__debug__" : Str))=false) (hcd:(p==("__classdict__" : Str))=false)
    (hsw:∀ env:Env,swapsWith (.Name p q3) (some (.Attribute (.Name "self" q1) f q2)) q4.line env=pure false) :
    Fg P w K mg base CX0 1 fI fd ["self",p] (Oo C f):=by
  refine F.ok S (fun vs H Q E ⟨e,t,v,h,_⟩=>by rw [h]; rfl) fun cdv A outer s H vs Q E hr ⟨e,t,v,h,h0,h3⟩=>?_
  subst h
  rw [hb]
  refine ⟨_,Ji (a4s (C:=C) (D:=D) (fI:=fI) c (Y6 (i:=0) rfl (.inl h1)) (Y6 (i:=1) rfl (.inl h2) hd hcd) (hsw _)),?_⟩
  exact ⟨v,rfl,.ref e,rfl,e,t,rfl,h0,h3⟩
end
end L2
end
section
namespace L2
open PySem PySem.Spec PyProof.Rows
section
variable {X:Cx} {pins:List (Addr × Obj)} {σ:St} {H:Hp} {s:Shared} {C D fI:Addr} {f p:Str} {v:V} {u:Value} {E:Value→Shared→Prop} {fd:FuncData}
theorem a5r {Q:Value→Shared→Prop} (c:XC X.K C D fI f) (F:Fg X.prog X.w X.K X.mg X.base CX0 1 fI fd ["self",p] (Oo C f)) (hr:Ei 2 X.A) (hb:Binds X.K fd ["self",p] []) (I:Inv X pins σ H s) (r:RelV v u)
    (h:∀ s' e t dx,H e=none→H dx=none→dx≠e→s.heap.objs.size≤e→Inv X pins σ (upd (upd H dx (Dk dx f v)) e (Yc e C t dx)) s'→Q (.ref e) s'):wpAny (model X.prog X.w) X.A (call (.ref C) [u]) Q E s:=by
  obtain ⟨nm,q,Na,bs,sn,sub,ab,col,dd,k0,k1,k2,k3,k5,lk⟩:=c.lk
  have hC:=I.kIn _ _ lk
  have f1:=tc_lookup
  have f2:=tc_bind (.ref C)
  have I1:Inv X pins σ H { s with heap:=s.heap.push (My.a3y [u]) }:=I.kept (t':=s.toks) fun b o z=>Heap.get?_push_of_some _ z
  have z1:(s.heap.push (My.a3y [u])).objs.size=s.heap.objs.size+1:=Heap.size_push ..
  have g1:((s.heap.push (My.a3y [u])).push (My.Xg C s.heap.objs.size)).get? (s.heap.objs.size+1)=some (My.Xg C s.heap.objs.size):=by
    rw [← z1]; exact Heap.get?_push_size _ rfl
  have I2:Inv X pins σ (upd H (s.heap.objs.size+1) (a9t (s.heap.objs.size+1) C s.heap.objs.size)) { s with heap:=(s.heap.push (My.a3y [u])).push (My.Xg C s.heap.objs.size) } :=
    I1.laid (t':=s.toks) (fun b o z=>Heap.get?_push_of_some _ z) (by show (s.heap.push (My.a3y [u])).objs.size≤_; rw [z1]; exact Nat.le_refl _) (a3m g1)
  have hE:H (s.heap.objs.size+1)=none:=I.hok.fresh (Nat.le_succ _)
  have r2:Vals [V.ref (s.heap.objs.size+1),v] [Value.ref (s.heap.objs.size+1),u]:=.cons rfl (.cons r .nil)
  obtain ⟨hh,g,d,tk,os⟩:=s -- here
  have hT:(⟨hh,g,d,tk,os⟩:Shared).TypeIs (.ref C) "type" := ⟨_,hC,rfl⟩
  refine wpAny_call (codeAny_of_tree ?_) -- here
  show wpAny _ _ (callAny (.ref C) _) _ _ _ -- here
  repeat (any_goals (first | assumption | with_reducible refine wpAny_loadPart_at hC ?_ | wp_step)) -- here
  refine ⟨rfl,?_⟩
  refine codeAny_call_builtin_at (Code.quiet_builtin _ (by decide +kernel)) entry_typeCall (wpAny_check_type_call_sub hC (My.Lj I.kIn hC (My.abk I.kIn c.base) c.init (beq_iff_eq.mp c.fn) (wpAny_call (codeAny_mono
    (F.run _ X.stack _ _ ⟨[Value.ref (hh.objs.size+1),u],[]⟩ [Value.ref (hh.objs.size+1),u] _ (fun w H'=>w=.non∧∃ dx,H dx=none∧dx≠hh.objs.size+1∧H'=upd (upd H dx (Dk dx f v)) (hh.objs.size+1) (Yc (hh.objs.size+1) C hh.objs.size dx)) (fun _ _ _=>False) (hr.make C [u] []) (I2.env0.make C [u] [])
      (hb _ [Value.ref (hh.objs.size+1),u] I2.kIn rfl) r2 ⟨_,_,v,rfl,dj,fun dx h1 h2=>⟨rfl,dx,by rw [dw h2] at h1; exact h1,h2,?_⟩⟩) fun r s' hq=>?_)) (by show 1≤sizeLine; rw [sizeLine_eq]; decide)))
  · funext b
    by_cases e1:b=hh.objs.size+1
    · subst e1; rw [dj,dj]
    · rw [dw e1,dw e1]
      by_cases e2:b=dx
      · subst e2; rw [dj,dj]
      · rw [dw e2,dw e2,dw e1]
  · cases r with
    | error e=>exact False.elim hq
    | ok fl =>
      cases fl with
      | ret u' =>
        obtain ⟨v',H',I3,rv,⟨ev,dx,h1,h2,e3⟩⟩:=I2.after hq
        subst ev
        subst e3
        exact ⟨rv,h s' _ _ dx hE h1 h2 (Nat.le_succ _) I3⟩
      | next=>exact False.elim hq
      | brk=>exact False.elim hq
      | cont=>exact False.elim hq
end
end L2
end
section
namespace L2
open PySem PySem.Spec PyProof.Rows
def CXx (P:Program) (w:World):CXT:=fun outer H s E e s'=>∃ a C dx T H',e=.ref a∧s.heap.objs.size≤a∧s.heap.objs.size≤T∧XAt s'.heap a C dx T .none∧H' a=none∧H' T=none ∧
  s'.os=s.os∧AllBare s'.gens∧Un (frs outer) [] H H' s.heap s'.heap∧HOk P w H' s'.heap∧E (.ref C) (some dx) H'
section
variable {X:Cx} {pins:List (Addr × Obj)} {σ:St} {H:Hp} {s:Shared}
theorem Inv.noted {h':Heap} {ch:List Addr} (I:Inv X pins σ H s) (k:Kp (frs X.stack) ch s.heap h') (hn:∀ b∈ch,H b=none)
    (hch:∀ b∈ch,(b∈X.ex∨X.s₀.heap.objs.size≤b)∧b≠X.env.locals∧(∀ x c,X.env.cells.lookup x=some c→c≠b)∧∀ p∈X.pn++pins,p.1≠b):Inv X pins σ H { s with heap:=h' }:=by
  refine I.step (g':=s.gens) (d':=s.drawn) (t':=s.toks) (ch:=ch) hch (fun b o hL hb hc e n=>k.keep b o e (fun z=>(List.mem_cons.mp (I.Qv b z)).elim hL hb) hc) (fun b o _ _ hc e _=>k.slot b o e hc) (fun _ _ _ _ n=>n)
    (fun b o _ e=>k.there b o e) (fun _ _ e=>e) (fun _ _ _ e=>e) (fun b ps e=>⟨#[],by rw [e]; simp⟩) (fun m hm=>?_) (fun b u e=>?_) I.bare
  · obtain ⟨o,es,ep,ho,r⟩:=hm
    obtain ⟨sl,q⟩:=k.slot _ o ho fun z=>(hch _ z).2.1 rfl
    exact ⟨_,es,ep,q,r⟩
  · have tr:∀ c x,H c=some x→c∉frs X.stack∧c∉ch:=fun c x q=>⟨(fun z=>by rw [I.Rb c z] at q; cases q),(fun z=>by rw [hn c z] at q; cases q)⟩
    refine (I.hok b u e).stay (fun c v hc q=>?_) (fun _ q=>q) fun _ _ q=>q
    rcases hc with hc | hc
    · subst hc; exact k.keep c v q (tr c u e).1 (tr c u e).2
    · exact k.keep c v q (tr c _ hc).1 (tr c _ hc).2
theorem Inv.M9 {e:Addr} {o:Obj} {vs:Array Value} (I:Inv X pins σ H s) (he:s.heap.get? e=some o) (hd:o.data=.fields vs):e≠X.env.locals∧(∀ x c,X.env.cells.lookup x=some c→c≠e)∧e∉frs X.stack:=by
  refine ⟨fun z=>?_,fun x c q z=>?_,fun z=>?_⟩
  · obtain ⟨m,⟨o',es,ep,ho',hd',_⟩,_⟩:=I.loc
    rw [← z,he] at ho'; cases ho'; rw [hd'] at hd; cases hd
  · obtain ⟨v,o',ho',hd'⟩:=I.cell x c q
    rw [z,he] at ho'; cases ho'; rw [hd'] at hd; cases hd
  · obtain ⟨_,o',ho',hnf⟩:=I.stack.mem z
    rw [he] at ho'; cases ho'; exact hnf vs hd
end
section
variable {P:Program} {w:World} {K:PySem.W.Frag} {mg:Str→Option Value} {base:Heap} {N:List Str} {qual:Str} {scope:Scope} {f:Addr} {cd:Value} {A:Around} {outer:List Env} {s₀ s:Shared} {H₀ H:Hp} {E:XK} {pins:List (Addr × Obj)} {σ:St} {e C dx:Addr} {vs:Array Value}
theorem a0t (I:Inv (Yh (CXx P w) P w K mg base N qual scope f cd A outer s₀ H₀ E) pins σ H s) (he:s.heap.get? e=some (Ut C dx vs)) (h1:vs[1]? = some .none) (hn:H e=none) (hz:s₀.heap.objs.size≤e) (hE:E (.ref C) (some dx) H) :
    (Yh (CXx P w) P w K mg base N qual scope f cd A outer s₀ H₀ E).xe (.ref e) s:=by
  have I0:=I.Jt (pins':=[]) (fun p hp=>nomatch hp)
  have ne:=I0.M9 he rfl
  show wpAny _ _ (leaving _ _) _ _ _
  unfold leaving
  refine wpAny_bind (Vs (L:=s₀.heap.objs.size) (base:=base) I0.ok.frames I0.stack rfl he h1 ne.2.2 fun h' T hT k x=>?_)
  have I1:=I0.noted k (fun b hb=>by rw [List.mem_singleton.mp hb]; exact hn) fun b hb=>by
    obtain rfl:=List.mem_singleton.mp hb
    exact ⟨.inr hz,ne.1,ne.2.1,fun p hp=>nomatch hp⟩
  have hT0:H T=none:=I0.hok.fresh hT
  obtain ⟨oT,tsT,gT,dT,_⟩:=x.tb
  have neT:=I1.M9 (s:={ s with heap:=h' }) gT dT
  have sz:s₀.heap.objs.size≤T:=Nat.le_trans I0.sz hT
  refine Gx (s:={ s with heap:=h' }) x fun h2 k2 x2=>?_
  have I2:=I1.noted (h':=h2) (k2.mono (fun _ z=>nomatch z) (fun _ z=>z)) (fun b hb=>by rw [List.mem_singleton.mp hb]; exact hT0) fun b hb=>by
    obtain rfl:=List.mem_singleton.mp hb
    exact ⟨.inr sz,neT.1,neT.2.1,fun p hp=>nomatch hp⟩
  exact ⟨e,C,dx,T,H,rfl,hz,sz,x2,hn,hT0,I2.os,I2.bare,I2.base,I2.hok,hE⟩
end
end L2
end
section
namespace L2
open PySem PySem.Spec PyProof.Rows
section
variable {X:Cx} {pins:List (Addr × Obj)} {σ:St} {H:Hp} {s:Shared} {e:Addr}
theorem Inv.a6q {φ:Heap→Prop} (I:Inv X pins σ (upd H e (.ext φ)) s) (hn:H e=none):Inv X pins σ H s:=by
  have ne:∀ b u,upd H e (.ext φ) b=some u→(∀ ψ,u≠.ext ψ)→b≠e∧H b=some u:=fun b u q n=>by
    by_cases z:b=e
    · subst z; rw [dj] at q; cases q; exact absurd rfl (n _)
    · rw [dw z] at q; exact ⟨z,q⟩
  have fr:∀ b,upd H e (.ext φ) b=none→H b=none:=fun b q=>by
    by_cases z:b=e
    · subst z; exact hn
    · rw [dw z] at q; exact q
  refine I.step (g':=s.gens) (d':=s.drawn) (t':=s.toks) (h':=s.heap) (ch:=[]) (fun _ z=>nomatch z) (fun b o _ _ _ q _=>q) (fun b o _ _ _ q _=>⟨o.slots,q⟩) (fun b o _ _ n=>fr b n) (fun b o _ q=>⟨o,q⟩)
    (fun b xs q=>(ne b _ q (fun _=>by intro z; cases z)).2) (fun b o u q=>(ne b _ q (fun _=>by intro z; cases z)).2) (fun b ps q=>⟨#[],by rw [(ne b _ q (fun _=>by intro z; cases z)).2]; simp⟩) (fun _ hm=>hm) (fun b u q=>?_) I.bare
  have z:b≠e:=fun z=>by subst z; rw [hn] at q; cases q
  refine (I.hok b u (by rw [dw z]; exact q)).stay (fun _ _ _ r=>r) (fun c r=>(ne c _ r (fun _=>by intro z; cases z)).2) fun c xs r=>(ne c _ r (fun _=>by intro z; cases z)).2
end
def XW (X:Cx) (E:XK):Prop:=∀ (pins:List (Addr × Obj)) (σ:St) (H:Hp) (s:Shared) (e C dx:Addr) (vs:Array Value),Inv X pins σ H s→s.heap.get? e=some (Ut C dx vs)→vs[1]? = some .none→H e=none→X.s₀.heap.objs.size≤e→E (.ref C) (some dx) H→X.xe (.ref e) s
theorem ab6 {P:Program} {w:World} {K:PySem.W.Frag} {mg:Str→Option Value} {base:Heap} {N:List Str} {qual:Str} {scope:Scope} {f:Addr} {cd:Value} {A:Around} {outer:List Env} {s₀:Shared} {H₀:Hp} {E:XK} :
    XW (Yh (CXx P w) P w K mg base N qual scope f cd A outer s₀ H₀ E) E:=fun _ _ _ _ _ _ _ _ I he h1 hn hz hE=>a0t I he h1 hn hz hE
section
variable {M:Model} {A:Around} {E:Value→Shared→Prop} {env:Env} -- here
variable {nm q:Str} {C N:Addr} {bs bm:List Value} {hdct:Bool} {sn:List Str} {sub:List Value} {ab:Bool} {col:Option Bool} {dd:Option Addr} {k0 k1 k2 k3 k5:Option Value} {newId:String} -- here
theorem Zy {s:Shared} {x:Sem Value} {Q:Flow→Shared→Prop} (hbase:bm.contains (.type "BaseException")=true) (hh:A.handled=none)
    (h:wpAny M A x (fun v s1=>∃ e dx vs,v=.ref e∧s1.heap.get? C=some (excClassObj nm q C N bs bm hdct sn sub ab col dd k0 k1 k2 k3 k5 newId)∧s1.heap.get? e=some (Ut C dx vs)∧vs[1]? = some .none∧E (.ref e) s1) E s) :
    wpAny M A (raiseStmt env (some x) none) Q E s:=by -- here
  have hcB:(Value.ref C::bm).contains (.type "BaseException")=true:=by rw [List.contains_cons,hbase,Bool.or_true] -- here
  unfold raiseStmt
  refine wpAny_bind (wpAny_mono h (fun v s1 h1=>?_) fun _ _ x=>x)
  obtain ⟨e,dx,vs,rfl,hC,he,hv,hE⟩:=h1
  obtain ⟨hp,g,d,tk,os⟩:=s1
  repeat (first | with_reducible refine wpAny_loadPart_at he ?_ | with_reducible refine wpAny_loadPart_at hC ?_ | (with_reducible refine wpAny_isSubtype_exc hC ?_; rw [hcB]) | wp_step) -- here
  rw [hv]
  exact wpAny_pure (wpAny_pure (wpAny_raiseNew_none hh hE))
end
def sRz (C:Addr) (f:Str) (E:XK) (te:TE):TS:=fun _ σ H=>te σ H fun v H1=>∀ dx,H1 dx=none→E (.ref C) (some dx) (upd H1 dx (Dk dx f v))
section
variable {X:Cx} {E:XK} {C D fI:Addr} {f p x:Str} {fd:FuncData} {arg:Expr} {te:TE} {np cpos pos:Pos}
theorem a2t (W:XW X E) (c:XC X.K C D fI f) (F:Fg X.prog X.w X.K X.mg X.base CX0 1 fI fd ["self",p] (Oo C f)) (hr:Ei 2 X.A) (hb:Binds X.K fd ["self",p] []) (hg:Gl X x) (hm:X.mg x=some (.ref C)) (ha:PE X arg te)
    (hdb:(x==("__debug__" : Str))=false:=by decide) (he:starEach [arg] X.env=[(false,eval arg X.env)]:=by rfl) :
    PS X (.Raise (some (.Call (.Name x np) [arg] [] cpos)) none pos) (sRz C f E te):=by
  intro pins s σ H Dn I h
  obtain ⟨nm,q,Na,bs,sn,sub,ab,col,dd,k0,k1,k2,k3,k5,lk⟩:=c.lk
  rw [arm_exec_Raise]
  refine wpAny_bind (wpAny_standAt ?_)
  show wpAny _ _ (raiseStmt X.env (some (eval (.Call (.Name x np) [arg] [] cpos) X.env >>= fun v=>standAt pos >>= fun _=>pure v)) none) _ _ _
  refine Zy (C:=C) (nm:=nm) (q:=q) (N:=Na) (bs:=bs) (bm:=.ref D::My.vB) (hdct:=true) (sn:=sn) (sub:=sub) (ab:=ab) (col:=col) (dd:=dd) (k0:=k0) (k1:=k1) (k2:=k2) (k3:=k3) (k5:=k5) (newId := "ValueError.__new__") (by simp) hr.hd ?_
  refine wpAny_bind (wpAny_mono (Q:=fun v s1=>∃ e dx vs,v=.ref e∧s1.heap.get? C=some (excClassObj nm q C Na bs (.ref D::My.vB) true sn sub ab col dd k0 k1 k2 k3 k5 "ValueError.__new__")∧s1.heap.get? e=some (Ut C dx vs)∧vs[1]? = some .none∧X.xe (.ref e) s1) ?_ (fun v s1 h1=>wpAny_bind (wpAny_standAt (wpAny_pure h1))) fun _ _ z=>z)
  refine wpAny_Call_Name_kw (O2 I hg hm ?_ hdb)
  refine PySem.W.callWith_K (h₀:=X.base) I.ok.mod.kin c.kp (thn (jt ha wz (by rw [he]; rfl) cpos pins s σ H (fun vs H1=>match vs with | [v]=>∀ dx,H1 dx=none→E (.ref C) (some dx) (upd H1 dx (Dk dx f v)) | _=>False) I h) fun us s1 ⟨vs,H1,I1,r,q⟩=>⟨I1.kIn,?_⟩) he rfl
  obtain ⟨v,ev,hE⟩:∃ v,vs=[v]∧∀ dx,H1 dx=none→E (.ref C) (some dx) (upd H1 dx (Dk dx f v)):=by
    match vs,q with
    | [v],q=>exact ⟨v,rfl,q⟩
  subst ev
  obtain ⟨u,eu,rv⟩:=r.one
  subst eu
  exact a5r c F hr hb I1 rv fun s' e t dx h1 h2 h3 h4 I2=>by
    have e0:upd H1 dx (Dk dx f v) e=none:=by rw [dw (Ne.symm h3)]; exact h1
    have he':s'.heap.get? e=some (My.a0p C t dx):=(I2.hok e _ dj).1
    have I3:=I2.a6q e0
    exact ⟨e,dx,_,rfl,I3.kIn _ _ lk,he',rfl,W pins σ _ s' e C dx _ I3 he' rfl e0 (Nat.le_trans I1.sz h4) (hE dx h2)⟩
end
end L2
end
section
namespace L2
open PySem PySem.Spec PyProof.Rows
def Off (X:Cx) (pins:List (Addr × Obj)) (b:Addr):Prop:=(b∈X.ex∨X.s₀.heap.objs.size≤b)∧b≠X.env.locals∧(∀ x c,X.env.cells.lookup x=some c→c≠b)∧∀ p∈X.pn++pins,p.1≠b
section
variable {X:Cx} {pins:List (Addr × Obj)} {σ:St} {H:Hp} {s:Shared}
theorem Inv.off {b:Addr} (I:Inv X pins σ H s) (h:s.heap.objs.size≤b):Off X pins b:=by
  refine ⟨.inr (Nat.le_trans I.sz h),fun z=>?_,fun x c q z=>?_,fun p hp z=>?_⟩
  · subst z; exact absurd (Nat.lt_of_lt_of_le I.lt h) (Nat.lt_irrefl _)
  · obtain ⟨v,o,ho,_⟩:=I.cell x c q
    subst z; exact absurd (Nat.lt_of_lt_of_le (Heap.lt_size ho) h) (Nat.lt_irrefl _)
  · have:=(I.pin p hp).1
    rw [z] at this
    exact absurd (Nat.lt_of_lt_of_le (Heap.lt_size this) h) (Nat.lt_irrefl _)
def XP (X:Cx) (CX:CXT) (pins:List (Addr × Obj)) (σ:St) (E:XK) (e:Value) (s':Shared):Prop:=∃ H1 s1,Inv X pins σ H1 s1∧CX X.stack H1 s1 E e s'
structure Lies (X:Cx) (pins:List (Addr × Obj)) (σ:St) (H:Hp) (s:Shared) (a C dx T:Addr):Prop where
  inv:Inv X pins σ H s
  at_:XAt s.heap a C dx T .none
  ha:H a=none
  hT:H T=none
  oa:Off X pins a
  oT:Off X pins T
theorem XP.lies {E:XK} {e:Value} (h:XP X (CXx X.prog X.w) pins σ E e s):∃ a C dx T H',e=.ref a∧Lies X pins σ H' s a C dx T∧E (.ref C) (some dx) H':=by
  obtain ⟨H1,s1,I,a,C,dx,T,H',rfl,za,zT,x,na,nT,os,ba,un,hok,hE⟩:=h
  exact ⟨a,C,dx,T,H',rfl,⟨I.call' (ch:=[]) os un hok ba (fun b z=>nomatch z),x,na,nT,I.off za,I.off zT⟩,hE⟩
end
section
variable {X:Cx} {CX:CXT} {k:Nat} {f:Addr} {fd:FuncData} {ps:List Str} {sp:Sp} {x:Str} {p pos:Pos} {e:Expr} {es:List Expr} {t:TA}
theorem a6u (F:Fg X.prog X.w X.K X.mg X.base CX k f fd ps sp) (hr:Ei k X.A) (hg:Gl X x) (hm:X.mg x=some (.ref f)) (hk:PySem.W.keepIn X.K (.ref f)=true) (hb:Binds X.K fd ps []) (ha:PA X.nox (e::es) t)
    (hdb:(x==("__debug__" : Str))=false:=by decide) (he:starEach (e::es) X.env=(false,eval e X.env)::starEach es X.env:=by rfl) (hpl:(backTo pos (starEach es X.env)).any (·.1)=false:=by rfl)
    (pins:List (Addr × Obj)) (s:Shared) (σ:St) (H:Hp) (Q:VK) (E:XK) (I:Inv X pins σ H s) (h:t σ H fun vs H1=>sp vs H1 Q E) :
    wpAny (model X.prog X.w) X.A (eval (.Call (.Name x p) (e::es) [] pos) X.env) (EP X pins σ Q) (XP X CX pins σ E) s:=by
  refine wpAny_Call_Name_kw (O2 I hg hm ?_ hdb)
  refine PySem.W.callWith_K (h₀:=X.base) I.ok.mod.kin hk (wpAny_mono (ha pos pins s σ H _ (I.wish _) h) (fun us s1 z0=>?_) fun _ _ z=>False.elim z) he hpl
  obtain ⟨vs,H1,I1',r,q⟩:=z0
  have I1:=I1'.Dg
  refine ⟨I1.kIn,?_⟩
  have r2:Vals vs (us++[]):=by rw [List.append_nil]; exact r
  have hl:(us++[]).length=ps.length:=by rw [← r2.length]; exact F.len _ _ _ _ q
  refine wpAny_call (codeAny_mono (F.run X.A X.stack s1 H1 ⟨us,[]⟩ (us++[]) vs Q E hr I1.env0 (hb s1 us I1.kIn hl) r2 q) fun r s' hq=>?_)
  cases r with
  | error e=>exact ⟨H1,s1,I1,hq⟩
  | ok fl =>
    cases fl with
    | ret u=>exact I1.after hq
    | next=>exact False.elim hq
    | brk=>exact False.elim hq
    | cont=>exact False.elim hq
end
abbrev Cx.mk' (X:Cx) (a:Addr):Cx:={ X with A:=X.A.mark (some (.ref a)),calm:=false,xe:=fun _ _=>False }
section
variable {X:Cx} {pins:List (Addr × Obj)} {σ:St} {H:Hp} {s:Shared} {a:Addr}
theorem Inv.mk' (I:Inv X pins σ H s) (a:Addr):Inv (X.mk' a) pins σ H s :=
  ⟨⟨I.ok.mod,I.ok.kind,I.ok.glob,I.ok.blt,I.ok.above,I.ok.inj,I.ok.has,I.ok.cab,(fun z=>nomatch z),I.ok.frames,I.ok.stk,I.ok.exf,I.ok.bs,I.ok.bsz,I.ok.noex,I.ok.exfs,I.ok.Ti,I.ok.frf⟩,I.os,I.bare,I.base,I.loc,I.cell,I.free,I.freeC,I.pin,I.hok,I.len⟩
theorem Inv.a5w (I:Inv (X.mk' a) pins σ H s) (hd:X.calm=true→X.A.handled=none):Inv X pins σ H s :=
  ⟨⟨I.ok.mod,I.ok.kind,I.ok.glob,I.ok.blt,I.ok.above,I.ok.inj,I.ok.has,I.ok.cab,hd,I.ok.frames,I.ok.stk,I.ok.exf,I.ok.bs,I.ok.bsz,I.ok.noex,I.ok.exfs,I.ok.Ti,I.ok.frf⟩,I.os,I.bare,I.base,I.loc,I.cell,I.free,I.freeC,I.pin,I.hok,I.len⟩
theorem name_goes {M:Model} {A:Around} {E:Value→Shared→Prop} {Q:Unit→Shared→Prop} {i:Nat} {n:Str} {pos:Pos} (I:Inv X pins σ H s) (hN:X.N.Nodup) (hi:X.N[i]? = some n) (hx:X.env.scope.names.lookup n=some .local)
    (h:∀ s',Inv X pins (σ.set i none) H s'→Q () s'):wpAny M A (do bindName X.env n .none; unbindBehindTheSuite X.env n pos) Q E s:=by
  obtain ⟨m,hn,hl⟩:=id I.loc
  have hcls:(X.env.scope.kind == .class||(X.env.scope.kind == .module&&X.env.locals != X.env.globals))=false:=by rw [I.ok.kind]; rfl
  have hiσ:i<σ.length:=by rw [I.len]; exact (List.getElem?_eq_some_iff.mp hi).1
  obtain ⟨oL,_,_,hoL,_⟩:=id hn
  refine wpAny_nameGoes_keeps hx hn hcls fun h' v hn' hs=>h _ ?_
  have nL:∀ b o,X.s₀.heap.get? b=some o→b≠X.env.locals:=fun b o e=>Nat.ne_of_lt (Nat.lt_of_lt_of_le (Heap.lt_size e) I.ok.above)
  refine ⟨I.ok,I.os,I.bare,⟨fun b o e n hb hx=>(hs.2 b (nL b o e)).trans (I.base.keep b o e n hb hx),fun b o e n hb hx=>?_,I.base.free,fun b o e hx=>?_,I.base.tups,I.base.frzs,I.base.tbls⟩,⟨_,hn',fun j y v' e1 e2 e3=>?_⟩,fun y c e=>?_,I.free,I.freeC,fun p hp=>?_,fun b u e=>?_,by rw [List.length_set]; exact I.len⟩
  · obtain ⟨sl,e1⟩:=I.base.slot b o e n hb hx
    exact ⟨sl,(hs.2 b (nL b o e)).trans e1⟩
  · obtain ⟨o',e1⟩:=I.base.there b o e hx
    exact ⟨o',(hs.2 b (nL b o e)).trans e1⟩
  · by_cases hj:j=i
    · subst hj
      rw [List.getElem?_set_self hiσ] at e2; cases e2
    · rw [List.getElem?_set_ne (Ne.symm hj)] at e2
      obtain ⟨u',r',q⟩:=hl j y v' e1 e2 e3
      refine ⟨u',r',?_⟩
      rcases q with ⟨k,e⟩ | ⟨k,c,e,z⟩
      · have:y≠n:=fun e=>hj (Mz hN e1 (e ▸ hi))
        exact .inl ⟨k,by simp [this,e]⟩
      · exact .inr ⟨k,c,e,z.sameBut hs (I.cne y c e)⟩
  · obtain ⟨w',z⟩:=I.cell y c e
    exact ⟨w',z.sameBut hs (I.cne y c e)⟩
  · obtain ⟨e,n,ne,nf,d⟩:=I.pin p hp
    exact ⟨(hs.2 p.1 ne).trans e,n,ne,nf,d⟩
  · have tr:∀ c x,H c=some x→c≠X.env.locals:=fun c x q z=>by rw [z,I.free] at q; cases q
    refine (I.hok b u e).stay (fun c w hc q=>(hs.2 c ?_).trans q) (fun _ q=>q) fun _ _ q=>q
    rcases hc with hc | hc
    · subst hc; exact tr c u e
    · exact tr c _ hc
end
end L2
end
section
namespace L2
open PySem PySem.Spec PyProof.Rows
def XCl (K:PySem.W.Frag) (C:Addr) (bm:List Value):Prop:=bm.contains (.type "BaseException")=true∧∃ nm q Na bs hdct sn sub ab col dd k0 k1 k2 k3 k5,K.lookup C=some (excClassObj nm q C Na bs bm hdct sn sub ab col dd k0 k1 k2 k3 k5 "ValueError.__new__")
section
variable {M:Model} {A:Around} {E:Value→Shared→Prop} {K:PySem.W.Frag} {C C1 C2 C3:Addr} {bm bm1 bm2 bm3:List Value} {Q:Bool→Shared→Prop}
theorem Yw {s:Shared} {a:Addr} {o:Obj} (X:K.In s.heap) (c:XCl K C bm) (c1:XCl K C1 bm1) (he:s.heap.get? a=some o) (hc:o.cls=.ref C) (h:Q ((Value.ref C::bm).contains (.ref C1)) s):wpAny M A (excMatches (.ref a) (.ref C1)) Q E s:=by
  obtain ⟨_,nm,q,Na,bs,hdct,sn,sub,ab,col,dd,k0,k1,k2,k3,k5,lk⟩:=c
  obtain ⟨b1,nm',q',Na',bs',hdct',sn',sub',ab',col',dd',k0',k1',k2',k3',k5',lk'⟩:=c1
  obtain ⟨hp,g,d,tk,os⟩:=s -- here
  have hC:=X _ _ lk
  have h1:=X _ _ lk'
  have e1:(Value.ref C1::bm1).contains (.type "BaseException")=true:=by rw [List.contains_cons,b1,Bool.or_true]
  have f:=tc_notTuple
  unfold excMatches
  repeat (first | (with_reducible refine wpAny_loadPart_at he ?_; rw [hc]) | with_reducible refine wpAny_loadPart_at h1 ?_ | (with_reducible refine wpAny_isSubtype_exc h1 ?_; rw [e1]) | with_reducible refine wpAny_isSubtype_exc hC ?_ | wp_step)
  cases hb:(Value.ref C::bm).contains (.ref C1) <;> (rw [hb] at h; wp_walk; exact h)
theorem a6b:isSubtype (.type "tuple") (.type "tuple")=pure true:=by rw [isSubtype_type]; kernel_rfl
theorem Rw {s:Shared} {a tp:Addr} {o ot:Obj} {nn:Nat} (X:K.In s.heap) (c:XCl K C bm) (c1:XCl K C1 bm1) (c2:XCl K C2 bm2) (c3:XCl K C3 bm3) (he:s.heap.get? a=some o) (hc:o.cls=.ref C) (ht:s.heap.get? tp=some ot) (hct:ot.cls=.type "tuple") (hdt:ot.data=.seq #[.ref C1,.ref C2,.ref C3] nn)
    (n1:(Value.ref C::bm).contains (.ref C1)=false) (n2:(Value.ref C::bm).contains (.ref C2)=false) (n3:(Value.ref C::bm).contains (.ref C3)=false) (h:Q false s):wpAny M A (excMatches (.ref a) (.ref tp)) Q E s:=by
  obtain ⟨_,nm,q,Na,bs,hdct,sn,sub,ab,col,dd,k0,k1,k2,k3,k5,lk⟩:=c
  obtain ⟨b1,nm',q',Na',bs',hdct',sn',sub',ab',col',dd',k0',k1',k2',k3',k5',lk'⟩:=c1
  obtain ⟨b2,nm2,q2,Na2,bs2,hdct2,sn2,sub2,ab2,col2,dd2,k02,k12,k22,k32,k52,lk2⟩:=c2
  obtain ⟨b3,nm3,q3,Na3,bs3,hdct3,sn3,sub3,ab3,col3,dd3,k03,k13,k23,k33,k53,lk3⟩:=c3
  obtain ⟨hp,g,d,tk,os⟩:=s -- here
  have hC:=X _ _ lk
  have h1:=X _ _ lk'
  have h2:=X _ _ lk2
  have h3:=X _ _ lk3
  have e1:(Value.ref C1::bm1).contains (.type "BaseException")=true:=by rw [List.contains_cons,b1,Bool.or_true]
  have e2:(Value.ref C2::bm2).contains (.type "BaseException")=true:=by rw [List.contains_cons,b2,Bool.or_true]
  have e3:(Value.ref C3::bm3).contains (.type "BaseException")=true:=by rw [List.contains_cons,b3,Bool.or_true]
  have f:=a6b
  obtain ⟨otc,otd,otdata,otsl⟩:=ot
  subst hct hdt
  unfold excMatches
  repeat (first | (with_reducible refine wpAny_loadPart_at he ?_; rw [hc]) | with_reducible refine wpAny_loadPart_at ht ?_ | with_reducible refine wpAny_loadPart_at h1 ?_ | with_reducible refine wpAny_loadPart_at h2 ?_ | with_reducible refine wpAny_loadPart_at h3 ?_ | (with_reducible refine wpAny_isSubtype_exc h1 ?_; rw [e1]) | (with_reducible refine wpAny_isSubtype_exc h2 ?_; rw [e2]) | (with_reducible refine wpAny_isSubtype_exc h3 ?_; rw [e3]) | (with_reducible refine wpAny_isSubtype_exc hC ?_; first | rw [n1] | rw [n2] | rw [n3]) | wp_step)
  exact h
end
section
variable {X:Cx} {pins:List (Addr × Obj)} {σ:St} {H:Hp} {s:Shared} {a C dx T:Addr}
theorem Lies.mk' (L:Lies X pins σ H s a C dx T) (b:Addr):Lies (X.mk' b) pins σ H s a C dx T:=⟨L.inv.mk' b,L.at_,L.ha,L.hT,L.oa,L.oT⟩
theorem Lies.a5w {b:Addr} (L:Lies (X.mk' b) pins σ H s a C dx T) (hd:X.calm=true→X.A.handled=none):Lies X pins σ H s a C dx T:=⟨L.inv.a5w hd,L.at_,L.ha,L.hT,L.oa,L.oT⟩
theorem Lies.eval {e:Expr} {te:TE} {Q:VK} (L:Lies X pins σ H s a C dx T) (he:PE X e te) (h:te σ H Q) :
    wpAny (model X.prog X.w) X.A (eval e X.env) (fun u s'=>∃ v H1,Lies X pins σ H1 s' a C dx T∧RelV v u∧Q v H1) X.xe s:=by
  obtain ⟨ne,⟨vs,g1,v1⟩,o,ts,g2,d2,t3⟩:=L.at_
  have fs:∀ b,b∉frs X.stack→b≠X.env.locals→b∉X.fs:=fun b h1 _ z=>by
    rcases L.inv.ok.stk with q | ⟨q,_⟩
    · rw [q] at h1; exact h1 z
    · rw [q] at h1
      refine h1 ?_
      unfold frs
      rw [List.filterMap_cons]
      split
      · exact z
      · exact List.mem_cons_of_mem _ z
  have n1:=L.inv.M9 g1 rfl
  have n2:=L.inv.M9 g2 d2
  have I:=L.inv.Jt (pins':=(a,Ut C dx vs)::(T,o)::pins) fun p hp=>by
    rcases List.mem_cons.mp hp with rfl | hp
    · exact ⟨g1,L.ha,n1.1,fs a n1.2.2 n1.1,fun v q=>by cases q⟩
    · rcases List.mem_cons.mp hp with rfl | hp -- here
      · exact ⟨g2,L.hT,n2.1,fs T n2.2.2 n2.1,fun v q=>by rw [d2] at q; cases q⟩
      · exact L.inv.pin p (List.mem_append_right _ hp)
  refine thn (he _ s σ H Q I h) fun u s1 z0=>?_
  obtain ⟨v,H1,I1,r,q⟩:=z0
  obtain ⟨e1,z1,_⟩:=I1.pin (a,Ut C dx vs) (List.mem_append_right _ List.mem_cons_self)
  obtain ⟨e2,z2,_⟩:=I1.pin (T,o) (List.mem_append_right _ (List.mem_cons_of_mem _ List.mem_cons_self))
  refine ⟨v,H1,⟨I1.Jt fun p hp=>I1.pin p (List.mem_append_right _ (List.mem_cons_of_mem _ (List.mem_cons_of_mem _ hp))),⟨ne,⟨vs,e1,v1⟩,o,ts,e2,d2,t3⟩,z1,z2,L.oa,L.oT⟩,r,q⟩
end
def PHs (X:Cx) (hs:List ExceptHandler) (C:Addr) (t:Addr→TS):Prop :=
  ∀ (pins:List (Addr × Obj)) (s:Shared) (σ:St) (H:Hp) (D:Ends) (a dx T:Addr),Lies X pins σ H s a C dx T→t dx D σ H→wpAny (model X.prog X.w) X.A (handleBy (.ref a) X.env hs) (SP X pins D) X.xe s
section
variable {X:Cx} {rest:List ExceptHandler} {C C1 C2 C3:Addr} {bm bm1 bm2 bm3:List Value} {t:Addr→TS} {x1 x2 x3:Str} {p1 p2 p3 pt pos:Pos} {nm:Option Str} {body:List Stmt} {ec:Nat}
theorem a3a (hd:X.calm=true→X.A.handled=none) (c:XCl X.K C bm) (c1:XCl X.K C1 bm1) (c2:XCl X.K C2 bm2) (c3:XCl X.K C3 bm3)
    (n1:(Value.ref C::bm).contains (.ref C1)=false) (n2:(Value.ref C::bm).contains (.ref C2)=false) (n3:(Value.ref C::bm).contains (.ref C3)=false)
    (g1:Gl X x1) (g2:Gl X x2) (g3:Gl X x3) (m1:X.mg x1=some (.ref C1)) (m2:X.mg x2=some (.ref C2)) (m3:X.mg x3=some (.ref C3)) (h:PHs X rest C t)
    (d1:(x1==("__debug__" : Str))=false:=by decide) (d2:(x2==("__debug__" : Str))=false:=by decide) (d3:(x3==("__debug__" : Str))=false:=by decide) :
    PHs X (.ExceptHandler (some (.Tuple [.Name x1 p1,.Name x2 p2,.Name x3 p3] ec pt)) nm body pos::rest) C fun dx D σ H=>∀ p,H p=none→t dx D σ (upd H p (.tup [.ref C1,.ref C2,.ref C3])):=by
  intro pins s σ H D a dx T L hq
  refine wpAny_handleBy_cons (codeAny_handlers_test ?_) (by intro q; cases q)
  have pe:PE (X.mk' a) (.Tuple [.Name x1 p1,.Name x2 p2,.Name x3 p3] ec pt) (ac7 (Pj (tC (.ref C1)) (Pj (tC (.ref C2)) (Pj (tC (.ref C3)) a7e)))) :=
    a3q (jt (Np g1 m1 rfl d1) (jt (Np g2 m2 rfl d2) (jt (Np g3 m3 rfl d3) wz)))
  refine wpAny_mono ((L.mk' a).eval (Q:=fun v H1=>∃ p,v=.ref p∧H1 p=some (.tup [.ref C1,.ref C2,.ref C3])∧t dx D σ H1) pe ⟨by show 3≤sizeLine; rw [sizeLine_eq]; decide,fun p hp=>⟨p,rfl,dj,hq p hp⟩⟩) (fun u s1 z0=>?_) fun _ _ z=>False.elim z
  obtain ⟨v,H1,L1,r,p,ev,hp,q⟩:=z0
  subst ev
  obtain rfl:u=Value.ref p:=r
  obtain ⟨_,⟨vs,ga,_⟩,_⟩:=L1.at_
  obtain ⟨_,its,rv,ot,go,co,_,nn,dd⟩:=L1.inv.hok p _ hp
  have e3:its=[.ref C1,.ref C2,.ref C3]:=by
    cases rv with
    | cons r1 rv=>cases rv with
      | cons r2 rv=>cases rv with
        | cons r3 rv=>cases rv; rw [show _=Value.ref C1 from r1,show _=Value.ref C2 from r2,show _=Value.ref C3 from r3]
  subst e3
  refine Rw L1.inv.kIn c c1 c2 c3 ga rfl go co dd n1 n2 n3 ?_
  exact h pins s1 σ H1 D a dx T (L1.a5w hd) q
end
end L2
end
section
namespace L2
open PySem PySem.Spec PyProof.Rows
def Pn (a C dx:Addr):HO:=.ext fun h=>∃ vs,h.get? a=some (Ut C dx vs)
section
variable {X:Cx} {pins:List (Addr × Obj)} {σ:St} {H:Hp} {s:Shared} {a C dx T:Addr}
theorem Lies.seen (L:Lies X pins σ H s a C dx T):Inv X pins σ (upd H a (Pn a C dx)) s:=by
  have I:=L.inv
  obtain ⟨_,⟨vs,ga,_⟩,_⟩:=L.at_
  have ne:∀ b u,H b=some u→b≠a:=fun b u q=>jr q L.ha
  refine I.step (g':=s.gens) (d':=s.drawn) (t':=s.toks) (h':=s.heap) (ch:=[a]) (fun b hb=>?_) (fun b o _ _ _ q _=>q) (fun b o _ _ _ q _=>⟨o.slots,q⟩) (fun b o hb _ n=>by rw [dw (fun z=>hb (by simp [z]))]; exact n) (fun b o _ q=>⟨o,q⟩)
    (fun b xs q=>by rw [dw (ne b _ q)]; exact q) (fun b o u q=>by rw [dw (ne b _ q)]; exact q) (fun b ps q=>⟨#[],by rw [dw (ne b _ q),q]; simp⟩) (fun _ hm=>hm) (fun b u q=>?_) I.bare
  · obtain rfl:=List.mem_singleton.mp hb -- here
    exact L.oa
  · by_cases z:b=a
    · subst z; rw [dj] at q; cases q
      exact ⟨⟨vs,ga⟩,⟨_,ga⟩,fun h1 h2 ⟨ws,e⟩ k=>⟨ws,k _ e⟩⟩
    · rw [dw z] at q
      exact (I.hok b u q).stay (fun _ _ _ r=>r) (fun c r=>by rw [dw (ne c _ r)]; exact r) fun c xs r=>by rw [dw (ne c _ r)]; exact r
theorem Lies.flight {M:Model} {A:Around} {E:Value→Shared→Prop} {Q:Unit→Shared→Prop} (L:Lies X pins σ H s a C dx T) (h:∀ s',Lies X pins σ H s' a C dx T→Q () s'):wpAny M A (setFlight (.ref a) none) Q E s :=
  Gx L.at_ fun h' k x=>h _ ⟨L.inv.noted (k.mono (fun _ z=>nomatch z) (fun _ z=>z)) (fun b hb=>by rw [List.mem_singleton.mp hb]; exact L.hT) (fun b hb=>by rw [List.mem_singleton.mp hb]; exact L.oT),x,L.ha,L.hT,L.oa,L.oT⟩
theorem Lies.note {A:Around} {E:Value→Shared→Prop} {Q:Unit→Shared→Prop} (hst:X.stack=X.env::X.outer) (hfr:X.env.frame=some X.env.locals) (hA:A.frames=some X.stack) (L:Lies X pins σ H s a C dx T) (h:∀ s' T',Lies X pins σ H s' a C dx T'→Q () s') :
    wpAny (model X.prog X.w) A (noteFrame (.ref a) X.env) (fun _ s2=>wpAny (model X.prog X.w) A (setFlight (.ref a) none) Q E s2) E s:=by
  obtain ⟨ne,⟨vs,ga,v1⟩,o,ts,gT,dT,t3⟩:=id L.at_
  have n1:=L.inv.M9 ga rfl
  have n2:=L.inv.M9 gT dT
  have fr:=L.inv.stack
  rw [hst] at hA n1 n2 fr
  refine Y8 (L:=X.env.locals) (base:=X.base) hA fr hfr L.at_ n1.2.2 n2.2.2 fun h' T' hT' k x=>?_
  rw [← hst] at k
  have I1:=L.inv.noted k (fun b hb=>by
    rcases List.mem_cons.mp hb with rfl | hb -- here
    · exact L.ha
    · rw [List.mem_singleton.mp hb]; exact L.hT) (fun b hb=>by
    rcases List.mem_cons.mp hb with rfl | hb -- here
    · exact L.oa
    · rw [List.mem_singleton.mp hb]; exact L.oT)
  refine Gx (s:={ s with heap:=h' }) x fun h2 k2 x2=>h _ T' ⟨I1.noted (h':=h2) (k2.mono (fun _ z=>nomatch z) (fun _ z=>z)) (fun b hb=>by rw [List.mem_singleton.mp hb]; exact L.inv.hok.fresh hT') (fun b hb=>by rw [List.mem_singleton.mp hb]; exact L.inv.off hT'),x2,L.ha,L.inv.hok.fresh hT',L.oa,L.inv.off hT'⟩
end
def a8b (i:Nat) (D:Ends):Ends where
  nx:=fun σ H=>D.nx (σ.set i none) H
  rt:=D.rt
  bk:=fun σ H=>D.bk (σ.set i none) H
  ct:=fun σ H=>D.ct (σ.set i none) H
section
variable {X:Cx} {rest:List ExceptHandler} {C C1:Addr} {bm bm1:List Value} {t:Addr→TS} {x1 n:Str} {p1 pos:Pos} {b₀:Stmt} {suite:List Stmt} {ts:TS} {i:Nat}
theorem X6 (hd:X.calm=true→X.A.handled=none) (hN:X.N.Nodup) (hi:X.N[i]? = some n) (hn:X.env.scope.names.lookup n=some .local) (c:XCl X.K C bm) (c1:XCl X.K C1 bm1) (y:(Value.ref C::bm).contains (.ref C1)=true) (g1:Gl X x1) (m1:X.mg x1=some (.ref C1))
    (hS:∀ a,PSs (X.mk' a) (b₀::suite) ts) (d1:(x1==("__debug__" : Str))=false:=by decide) :
    PHs X (.ExceptHandler (some (.Name x1 p1)) (some n) (b₀::suite) pos::rest) C fun dx D σ H=>∀ a,H a=none→i<σ.length→ts (a8b i D) (σ.set i (some (.ref a))) (upd H a (Pn a C dx)):=by
  intro pins s σ H D a dx T L hq
  refine wpAny_handleBy_cons (codeAny_handlers_test ?_) (by intro q; cases q)
  have pe:PE (X.mk' a) (.Name x1 p1) (tC (.ref C1)):=Np g1 m1 rfl d1
  refine wpAny_mono ((L.mk' a).eval (Q:=fun v H1=>v=.ref C1∧H1=H) pe ⟨rfl,rfl⟩) (fun u s1 z0=>?_) fun _ _ z=>False.elim z
  obtain ⟨v,H1,L1,r,ev,eH⟩:=z0
  subst ev
  subst eH
  obtain rfl:u=Value.ref C1:=r
  obtain ⟨_,⟨vs,ga,_⟩,_⟩:=L1.at_
  refine Yw L1.inv.kIn c c1 ga rfl ?_
  rw [y]
  refine codeAny_handlers_suite_as ?_ -- here
  refine L1.flight fun s2 L2=>?_
  refine Nt (X:=X.mk' a) (v:=.ref a) L2.seen hN hi (.inl hn) rfl (fun s3 I3=>?_) (.inr hn)
  refine wpAny_mono (hS a pins s3 _ _ _ I3 (hq a L.ha (by rw [L.inv.len]; exact (List.getElem?_eq_some_iff.mp hi).1))) (fun fl s4 h4=>?_) fun _ _ z=>False.elim z
  cases fl with
  | next =>
    obtain ⟨σ',H',I4,q⟩:=h4
    exact name_goes (I4.a5w hd) hN hi hn fun s5 I5=>⟨_,H',I5,q⟩
  | brk =>
    obtain ⟨σ',H',I4,q⟩:=h4
    exact name_goes (I4.a5w hd) hN hi hn fun s5 I5=>⟨_,H',I5,q⟩
  | cont =>
    obtain ⟨σ',H',I4,q⟩:=h4
    exact name_goes (I4.a5w hd) hN hi hn fun s5 I5=>⟨_,H',I5,q⟩
  | ret u =>
    obtain ⟨v,σ',H',I4,r,q⟩:=h4
    exact name_goes (I4.a5w hd) hN hi hn fun s5 I5=>⟨v,_,H',I5,r,q⟩
end
abbrev TB:=Ends→XK→St→Hp→Prop
def PB (X:Cx) (st:List Stmt) (t:TB):Prop :=
  ∀ (pins:List (Addr × Obj)) (s:Shared) (σ:St) (H:Hp) (D:Ends) (E:XK),Inv X pins σ H s→t D E σ H→wpAny (model X.prog X.w) X.A (execs st X.env) (SP X pins D) (XP X (CXx X.prog X.w) pins σ E) s
def aan (C:Addr) (tb:TB) (th:Addr→TS):TS:=fun D σ H=>tb D (fun cls dx H'=>∃ d,cls=.ref C∧dx=some d∧th d D σ H') σ H
section
variable {X:Cx} {body:List Stmt} {h₀:ExceptHandler} {hs:List ExceptHandler} {C:Addr} {tb:TB} {th:Addr→TS} {pos:Pos}
theorem a8q (hst:X.stack=X.env::X.outer) (hfr:X.env.frame=some X.env.locals) (hb:PB X body tb) (hh:PHs X (h₀::hs) C th):PS X (.Try body (h₀::hs) [] [] pos) (aan C tb th):=by
  intro pins s σ H D I h
  refine wpAny_Try_except (wpAny_mono (hb pins s σ H D _ I h) (fun f s1 q=>?_) fun e s1 q=>?_)
  · cases f with
    | next=>exact wpAny_execs_nil q
    | brk=>exact q
    | cont=>exact q
    | ret u=>exact q
  · obtain ⟨a,C',dx,T,H',rfl,L,d,e1,e2,q⟩:=q.lies
    cases e1
    cases e2
    exact L.note hst hfr L.inv.ok.frames fun s2 T' L2=>hh pins s2 σ H' D a dx T' L2 q
end
end L2
end
section
namespace C
open PySem
abbrev FnX:=List T→List SO→Option ((T ⊕ T) × List SO)
abbrev SX:=Sta→Option ((Flow ⊕ T) × Sta)
def lx (u:S):SX:=fun s=>match u s with
  | some (fl,s1)=>some (.inl fl,s1)
  | none=>none
def Sv (a b:SX):SX:=fun s=>match a s with
  | some (.inl .next,s1)=>b s1
  | r=>r
def xIf (c:M Bool) (a b:SX):SX:=fun s=>match c s with
  | some (true,s1)=>a s1
  | some (false,s1)=>b s1
  | none=>none
def Km (m:M T):SX:=fun s=>match m s with
  | some (t,s1)=>some (.inr t,s1)
  | none=>none
def El (g:G) (b:SX):List T→SX
  | []=>fun s=>some (.inl .next,s)
  | t::r=>fun s=>match g t s with
    | some s1=>match b s1 with
      | some (.inl .next,s2)=>El g b r s2
      | some (.inl .cont,s2)=>El g b r s2
      | some (.inl .brk,s2)=>some (.inl .next,s2)
      | some (.inl (.ret v),s2)=>some (.inl (.ret v),s2)
      | some (.inr v,s2)=>some (.inr v,s2)
      | none=>none
    | none=>none
def a7k (g:G) (it:M (List T)) (b:SX):SX:=fun s=>match it s with
  | some (ts,s1)=>El g b ts s1
  | none=>none
def Lw (n:Nat) (b:SX):FnX:=fun ts sto=>match b ⟨ts.map (fun t=>some (t,false))++List.replicate (n - ts.length) none,sto⟩ with
  | some (.inl (.ret t),s)=>some (.inl t,s.sto)
  | some (.inl .next,s)=>some (.inl .non,s.sto)
  | some (.inr t,s)=>some (.inr t,s.sto)
  | _=>none
def norm (F:FnX):Fn:=fun ts sto=>match F ts sto with
  | some (.inl t,s)=>some (t,s)
  | _=>none
def a2s:T→Sta→Sta:=fun _ s=>s
def clr (i:Nat) (s:Sta):Sta:={ s with env:=s.env.set i none }
def a3r (F:FnX) (a:M (List T)) (k:T→Sta→Sta) (i j:Nat) (hv:T→Option T):S:=fun s=>match a s with
  | some (ts,s1)=>match F ts s1.sto with
    | some (.inl t,sto)=>some (.next,k t { s1 with sto:=sto })
    | some (.inr t,sto)=>match hv t with
      | some u=>some (.next,clr i (jf j u false (clr i { s1 with sto:=sto })))
      | none=>none
    | none=>none
  | none=>none
end C
end
section
namespace C
open PySem PySem.Spec PyProof.Rows L2
def acp (K:PySem.W.Frag) (B:Bas) (Cl:Addr) (f:Str) (E:XK) (D:Ends) (ps:List (V × T)):Flow ⊕ T→Sta→Prop
  | .inl fl,st'=>Fin K B D ps fl st'
  | .inr t,st'=>∀ v dx σ' H' S' as',Rel K B st' σ' H' ((v,t)::ps) S' as'→H' dx=some (Dk dx f v)→E (.ref Cl) (some dx) H'
def T5 (K:PySem.W.Frag) (B:Bas) (Cl:Addr) (f:Str) (E:XK) (s:SX):TS:=fun D σ H=>∃ st ps S as,Rel K B st σ H ps S as∧∃ fl st',s st=some (fl,st')∧acp K B Cl f E D ps fl st'
theorem Ext.beside {S H:Hp} {p:Addr} (h:Same S H) (n:H p=none) (o:HO):Ext S H S (upd H p o) :=
  ⟨Same.refl _,Same.upd n o,fun b u q=>by rw [dw (jr (h _ _ q) n)]; exact h _ _ q,fun _ q=>.inl q⟩
section
variable {K:PySem.W.Frag} {B:Bas} {st:Sta} {σ σ':L2.St} {H S:Hp} {ps:List (V × T)} {as:List Addr}
theorem Rel.clr {i:Nat} (r:Rel K B st σ H ps S as) (h:∀ k,k≠i→σ'[k]? = σ[k]?) (hl:σ'.length=σ.length):Rel K B (clr i st) σ' H ps S as:=by
  have key:∀ (k:Nat) t f,(st.env.set i none)[k]? = some (some (t,f))→k≠i∧st.env[k]? = some (some (t,f)):=fun k t f e=>by
    by_cases z:i=k
    · subst z
      by_cases q:i<st.env.length
      · rw [List.getElem?_set_self q] at e; cases e
      · rw [List.getElem?_eq_none (by rw [List.length_set]; exact Nat.le_of_not_lt q)] at e; cases e
    · rw [List.getElem?_set_ne z] at e; exact ⟨Ne.symm z,e⟩
  refine ⟨r.sub,r.grow,fun k t f e=>?_,fun a b t u p ea eb sa sb=>?_,r.sto,r.pend,by rw [hl,r.len]; exact (List.length_set ..).symm⟩
  · obtain ⟨n,e'⟩:=key k t f e
    rw [h k n]; exact r.slots k t f e'
  · obtain ⟨na,ea'⟩:=key a t true ea
    obtain ⟨nb,eb'⟩:=key b u true eb
    rw [h a na] at sa
    rw [h b nb] at sb
    exact r.apart a b t u p ea' eb' sa sb
end
section
variable {X:Cx} {B:Bas} {c:Expr} {pos:Pos} {u v:SX} {Cl:Addr} {f:Str} {E:XK}
theorem Nk {st:Stmt} {w:S} (h:PS X st (sOf X.K B w)):PS X st (T5 X.K B Cl f E (lx w)):=h.imp fun D σ H z9=>by
  obtain ⟨st,ps,S,as,R,fl,st',e,q⟩:=z9
  unfold lx at e
  cases z:w st with
  | none=>rw [z] at e; cases e
  | some p=>obtain ⟨fl',s'⟩:=p; rw [z] at e; cases e; exact ⟨st,ps,S,as,R,fl',_,z,q⟩
theorem a1x {st:List Stmt} {w:S} (h:PSs X st (sOf X.K B w)):PSs X st (T5 X.K B Cl f E (lx w)):=fun pins s σ H D I z9=>by
  obtain ⟨st,ps,S,as,R,fl,st',e,q⟩:=z9
  unfold lx at e
  cases z:w st with
  | none=>rw [z] at e; cases e
  | some p=>obtain ⟨fl',s'⟩:=p; rw [z] at e; cases e; exact h pins s σ H D I ⟨st,ps,S,as,R,fl',_,z,q⟩
theorem Zz {st:Stmt} (h1:PS X st (T5 X.K B Cl f E u)):PSs X [st] (T5 X.K B Cl f E u):=Ji h1
theorem a2m {st st':Sta} {fl:Flow ⊕ T} (h:Sv u v st=some (fl,st')):(∃ s1,u st=some (.inl .next,s1)∧v s1=some (fl,st'))∨(u st=some (fl,st')∧fl≠.inl .next):=by
  unfold Sv at h
  split at h
  · rename_i s1 e; exact .inl ⟨s1,e,h⟩
  · rename_i r hn
    refine .inr ⟨h,fun z=>?_⟩
    subst z
    exact hn _ h
theorem Nq {st:Stmt} {rest:List Stmt} (h1:PS X st (T5 X.K B Cl f E u)) (h2:PSs X rest (T5 X.K B Cl f E v)):PSs X (st::rest) (T5 X.K B Cl f E (Sv u v)):=(Tt h1 h2).imp fun D σ H z9=>by
  obtain ⟨st,ps,S,as,R,fl,st',e,q⟩:=z9
  rcases a2m e with ⟨s1,e1,e2⟩ | ⟨e1,hn⟩
  · exact ⟨st,ps,S,as,R,.inl .next,s1,e1,fun σ' H' S' as' R'=>⟨s1,ps,S',as',R',fl,st',e2,q⟩⟩
  · refine ⟨st,ps,S,as,R,fl,st',e1,?_⟩
    cases fl with
    | inr t=>exact q
    | inl fl =>
      cases fl with
      | next=>exact absurd rfl hn
      | ret t=>exact q
      | brk=>exact q
      | cont=>exact q
theorem aar {c1:M Bool} {sa sb:List Stmt} (hc:PT X c (cOf X.K B c1)) (ha:PSs X sa (T5 X.K B Cl f E u)) (hb:PSs X sb (T5 X.K B Cl f E v)):PS X (.If c sa sb pos) (T5 X.K B Cl f E (xIf c1 u v)):=(a9d hc ha hb).imp fun D σ H z9=>by
  obtain ⟨st,ps,S,as,R,fl,st',e,q⟩:=z9
  unfold xIf at e
  split at e
  · rename_i s1 e1
    exact ⟨st,ps,S,as,R,true,s1,e1,fun H1 S1 as1 R1=>a6f ⟨s1,ps,S1,as1,R1,fl,st',e,q⟩⟩
  · rename_i s1 e1
    exact ⟨st,ps,S,as,R,false,s1,e1,fun H1 S1 as1 R1=>a5g ⟨s1,ps,S1,as1,R1,fl,st',e,q⟩⟩
  · cases e
theorem a0s {D fI:Addr} {p x:Str} {fd:FuncData} {arg:Expr} {m:M T} {np cpos:Pos} (W:XW X E) (c:XC X.K Cl D fI f) (F:Fg X.prog X.w X.K X.mg X.base CX0 1 fI fd ["self",p] (Oo Cl f)) (hr:Ei 2 X.A) (hb:Binds X.K fd ["self",p] []) (hg:Gl X x) (hm:X.mg x=some (.ref Cl)) (ha:PE X arg (tOf X.K B m))
    (hdb:(x==("__debug__" : Str))=false:=by decide) (he:starEach [arg] X.env=[(false,eval arg X.env)]:=by rfl) :
    PS X (.Raise (some (.Call (.Name x np) [arg] [] cpos)) none pos) (T5 X.K B Cl f E (Km m)):=(a2t W c F hr hb hg hm ha hdb he).imp fun D σ H z9=>by
  obtain ⟨st,ps,S,as,R,fl,st',e,q⟩:=z9
  unfold Km at e
  split at e
  · rename_i t s1 e1
    cases e
    exact ⟨st,ps,S,as,R,t,_,e1,fun v H1 S1 as1 R1 dx hn=>q v dx σ _ S1 as1 (R1.ext (Ext.beside R1.sub hn _)) dj⟩
  · cases e
theorem Ym {g:G} {b:SX} {t:T} {r:List T} {s s':Sta} {fl:Flow ⊕ T} (h:El g b (t::r) s=some (fl,s')):∃ s1 fb s2,g t s=some s1∧b s1=some (fb,s2) ∧
    (match fb with | .inl .next=>El g b r s2=some (fl,s') | .inl .cont=>El g b r s2=some (fl,s') | .inl .brk=>fl=.inl .next∧s'=s2 | .inl (.ret v)=>fl=.inl (.ret v)∧s'=s2 | .inr v=>fl=.inr v∧s'=s2):=by
  rw [El] at h
  dsimp only at h
  split at h
  · rename_i s1 e1
    split at h
    · rename_i s2 e2; exact ⟨s1,.inl .next,s2,e1,e2,h⟩
    · rename_i s2 e2; exact ⟨s1,.inl .cont,s2,e1,e2,h⟩
    · rename_i s2 e2; cases h; exact ⟨s1,.inl .brk,_,e1,e2,rfl,rfl⟩
    · rename_i v s2 e2; cases h; exact ⟨s1,.inl (.ret v),_,e1,e2,rfl,rfl⟩
    · rename_i v s2 e2; cases h; exact ⟨s1,.inr v,_,e1,e2,rfl,rfl⟩
    · cases h
  · cases h
theorem a7p {tg iter:Expr} {g:G} {it:M (List T)} {body:List Stmt} (hp:PassesOwn (model X.prog X.w) X.A X.env X.xe) (hc:X.calm=true) (hi:PI X tg iter (iOf X.K B it)) (hg:PG X tg (gOf X.K B g)) (hb:PSs X body (T5 X.K B Cl f E u)) (hsz:∀ st ts st',it st=some (ts,st')→ts.length≤sizeLine)
    (hs:∀ x,foldedSetIterable iter X.env x=pure x:=by intro _; rfl):PS X (.For tg iter body [] pos) (T5 X.K B Cl f E (a7k g it u)):=(a3z hp hc hi hg hb hs).imp fun D σ H z9=>by
  obtain ⟨st,ps,S,as,R,fl,st',e,q⟩:=z9
  unfold a7k at e
  split at e
  case h_2=>cases e
  rename_i ts s1 e1
  refine ⟨st,ps,S,as,R,ts,s1,e1,hsz _ _ _ e1,fun J H1 S1 as1 ps' R1 facts=>?_⟩
  refine ⟨fun i m σ H=>m=ts.length - i∧i≤ts.length∧∃ sti Si asi,Rel X.K B sti σ H (ps'++ps) Si asi∧El g u (ts.drop i) sti=some (fl,st'),⟨ts.length,by simp,Nat.zero_le _,s1,S1,as1,R1,by simpa using e⟩,?_⟩
  rintro i m σ2 H2 ⟨rfl,hi,sti,Si,asi,Ri,ei⟩
  have F:=facts Si asi H2 (fun p hp=>Ri.pend p (List.mem_append_left _ hp)) Ri.sub
  have sub:∀ p∈ps,p∈ps'++ps:=fun p hp=>List.mem_append_right _ hp
  have sub1:∀ (z:V × T) (p),p∈z::ps→p∈z::(ps'++ps):=fun z p hp=>by
    rcases List.mem_cons.mp hp with rfl | y
    · exact List.mem_cons_self
    · exact List.mem_cons_of_mem _ (sub p y)
  by_cases hlt:i<ts.length
  · rw [List.drop_eq_getElem_cons hlt] at ei
    obtain ⟨s2,fb,s3,eg,eb,er⟩:=Ym ei
    have ht:ts[i]? = some ts[i]:=List.getElem?_eq_getElem hlt
    refine .inr ⟨(F.go i _ ht).1,fun σ' H'=>∃ sti Si asi,Rel X.K B sti σ' H' (ps'++ps) Si asi∧El g u (ts.drop (i+1)) sti=some (fl,st'),fun σ' H' h=>⟨ts.length - (i+1),by (clear h ht er eb eg ei sub1 sub F Ri hi facts R1 e1 q e R hs hsz hb hg hc hp; omega),rfl,hlt,h⟩,fun x H' y=>?_⟩
    obtain ⟨S',ex,rx⟩:=(F.go i _ ht).2 x H' y
    refine ⟨sti,ps'++ps,S',asi,_,(Ri.ext ex).push rx,s2,eg,fun σ3 H3 S3 as3 R3=>⟨s2,ps'++ps,S3,as3,R3,fb,s3,eb,?_⟩⟩
    cases fb with
    | inr v =>
      obtain ⟨rfl,rfl⟩:=er
      exact fun w dx σ' H' S' as' R' hd=>q w dx σ' H' S' as' (R'.pick (sub1 _)) hd
    | inl fb =>
      cases fb with
      | next=>exact fun σ' H' S' as' R'=>⟨s3,S',as',R',er⟩
      | cont=>exact fun σ' H' S' as' R'=>⟨s3,S',as',R',er⟩
      | brk =>
        obtain ⟨rfl,rfl⟩:=er
        exact fun σ' H' S' as' R'=>q σ' H' S' as' (R'.pick sub)
      | ret v =>
        obtain ⟨rfl,rfl⟩:=er
        exact fun v σ' H' S' as' R'=>q v σ' H' S' as' (R'.pick (sub1 _))
  · have hie:i=ts.length:=by (clear sub1 sub F ei Ri facts R1 e1 q e R hs hsz hb hg hc hp; omega)
    subst hie
    rw [List.drop_length] at ei
    cases ei
    exact .inl ⟨F.stop _ (Nat.le_refl _),q σ2 H2 Si asi (Ri.pick sub)⟩
end
end C
end
section
namespace C
open PySem PySem.Spec PyProof.Rows L2
def ad4 (K:PySem.W.Frag) (B:Bas) (Cl:Addr) (f:Str) (sto':List SO) (Q:VK) (E:XK):T ⊕ T→Prop
  | .inl t=>∀ v H' S' as',Us B S' as' H'→Same S' H'→Fe K S' as' H' sto'→Rep K S' as' v t→Q v H'
  | .inr t=>∀ v dx H' S' as',Us B S' as' H'→Same S' H'→Fe K S' as' H' sto'→Rep K S' as' v t→H' dx=some (Dk dx f v)→E (.ref Cl) (some dx) H'
def spX (K:PySem.W.Frag) (ar:Nat) (Cl:Addr) (f:Str) (F:FnX):Sp:=fun vs H Q E=>∃ S as sto ts r sto',Same S H∧Fe K S as H sto∧m7 K S as vs ts∧ts.length=ar∧F ts sto=some (r,sto')∧ad4 K ⟨S,as,H⟩ Cl f sto' Q E r
section
variable {P:Program} {w:World} {K:PySem.W.Frag} {mg:Str→Option Value} {base:Heap}
theorem a1y {x qual:Str} {st:Stmt} {a Cl:Addr} {f:Str} {fd:FuncData} {N ps:List Str} {k:Nat} {b:SX} (F:Fun K x qual st a fd) (Sc:jc N ps (dz st)) (hN:ps.length≤N.length)
    (hb:∀ (cdv:Value) (A:Around) (outer:List Env) (s:Shared) (H:Hp) (E:XK) (B:Bas),Ei k (A.deeper (envOfC qual (dz st) s.heap.objs.size a cdv)) →
      PSs (Yh (CXx P w) P w K mg base N qual (dz st) a cdv A outer s H E) (zy st) (T5 K B Cl f E b)):Fg P w K mg base (CXx P w) (k+1) a fd ps (spX K ps.length Cl f (Lw N.length b)):=by
  obtain ⟨oc,od,kV,doc,pm,an,cdv,ct,osl,rfl,lk,hcd⟩:=F.ex
  refine Wy lk hcd Sc (fun vs H Q E ⟨S,as,sto,ts,t,sto',h1,h2,h3,h4,_⟩=>by rw [h3.length,h4]) fun A outer s H vs Q E hr h=>?_
  obtain ⟨S,as,sto,ts,r,sto',h1,h2,h3,h4,h5,q⟩:=h
  refine ⟨_,hb cdv A outer s H E ⟨S,as,H⟩ hr,?_⟩
  have R:Rel K ⟨S,as,H⟩ ⟨ts.map (fun t=>some (t,false))++List.replicate (N.length - ts.length) none,sto⟩ (L2.start N vs) H [] S as:=Qo h1 h2 h3 (by rw [h4]; exact hN)
  unfold Lw at h5
  split at h5
  · rename_i t' s' e
    cases h5
    exact ⟨_,[],S,as,R,.inl (.ret _),s',e,fun v σ' H' S' as' R'=>q v H' S' as' R'.grow R'.sub R'.sto R'.top⟩
  · rename_i s' e
    cases h5
    exact ⟨_,[],S,as,R,.inl .next,s',e,fun σ' H' S' as' R'=>q .non H' S' as' R'.grow R'.sub R'.sto .non⟩
  · rename_i t' s' e
    cases h5
    exact ⟨_,[],S,as,R,.inr _,s',e,fun v dx σ' H' S' as' R' hd=>q v dx H' S' as' R'.grow R'.sub R'.sto R'.top hd⟩
  · cases h5
theorem a6h {a Cl:Addr} {f:Str} {fd:FuncData} {ps:List Str} {k:Nat} {F:FnX} (G:Fg P w K mg base (CXx P w) k a fd ps (spX K ps.length Cl f F)):Fg P w K mg base CX0 k a fd ps (spF K ps.length (norm F)):=by
  refine ⟨fun vs H Q E ⟨S,as,sto,ts,t,sto',h1,h2,h3,h4,_⟩=>by rw [h3.length,h4],fun A outer s H args us vs Q E hr he hb hv h=>?_⟩
  obtain ⟨S,as,sto,ts,t,sto',h1,h2,h3,h4,h5,q⟩:=h
  unfold norm at h5
  split at h5
  · rename_i t1 s1 e
    cases h5
    refine codeAny_mono (G.run A outer s H args us vs Q (fun _ _ _=>False) hr he hb hv ⟨S,as,sto,ts,.inl _,_,h1,h2,h3,h4,e,q⟩) fun r s' hq=>?_
    cases r with
    | ok fl=>cases fl <;> exact hq
    | error e =>
      obtain ⟨_,_,_,_,_,_,_,_,_,_,_,_,_,_,_,z⟩:=hq
      exact z
  · cases h5
end
section
variable {X:Cx} {B:Bas} {e:Expr} {es:List Expr} {ms:M (List T)} {pos p q1 q2 tpos:Pos} {k:Nat} {a Cl:Addr} {f x:Str} {fd:FuncData} {pn:List Str} {F:FnX} {h₀:ExceptHandler} {hs:List ExceptHandler} {th:Addr→TS} {i j:Nat} {hv:T→Option T}
def HOf (K:PySem.W.Frag) (B:Bas) (f:Str) (i j:Nat) (hv:T→Option T) (th:Addr→TS):Prop :=
  ∀ dx D σ H st ps S as v t u,Rel K B st σ H ((v,t)::ps) S as→H dx=some (Dk dx f v)→hv t=some u→(∀ σ' H' S' as',Rel K B (clr i (jf j u false (clr i st))) σ' H' ps S' as'→D.nx σ' H')→th dx D σ H
theorem a5f (G:Fg X.prog X.w X.K X.mg X.base (CXx X.prog X.w) k a fd pn (spX X.K pn.length Cl f F)) (hr:Ei k X.A) (hg:Gl X x) (hm:X.mg x=some (.ref a)) (hk:PySem.W.keepIn X.K (.ref a)=true) (hb:Binds X.K fd pn [])
    (ha:PA X.nox (e::es) (aOf X.K B ms)) (hdb:(x==("__debug__" : Str))=false:=by decide)
    (he:starEach (e::es) X.env=(false,eval e X.env)::starEach es X.env:=by rfl) (hpl:(backTo pos (starEach es X.env)).any (·.1)=false:=by rfl) (hsw:swapsWith (.Call (.Name x p) (e::es) [] pos) none q1.line X.env=pure false:=by rfl) :
    PB X [.Expr (.Call (.Name x p) (e::es) [] pos) q1] fun D E σ H=>aOf X.K B ms σ H fun vs H1=>spX X.K pn.length Cl f F vs H1 (fun _ H2=>D.nx σ H2) E:=by
  intro pins s σ H D E I h
  refine wpAny_execs_cons (wpAny_mono (wpAny_Expr_any (Q:=SP X pins D) (thn (a6u G hr hg hm hk hb ha hdb he hpl pins s σ H (fun _ H2=>D.nx σ H2) E I h) fun v s1 z7=>by obtain ⟨y,H1,I1,r1,q1⟩:=z7; exact ⟨σ,H1,I1,q1⟩) I.quiet hsw) (fun fl s1 hq=>?_) fun _ _ z=>z)
  cases fl with
  | next=>exact wpAny_execs_nil hq
  | brk=>exact hq
  | cont=>exact hq
  | ret u=>exact hq
theorem a2n {F:FnX} {ms:M (List T)} {kk:T→Sta→Sta} {st st':Sta} {fl:Flow} (h:a3r F ms kk i j hv st=some (fl,st')) :
    ∃ ts s1 r sto,ms st=some (ts,s1)∧F ts s1.sto=some (r,sto)∧fl=.next∧(match r with | .inl t=>st'=kk t { s1 with sto:=sto } | .inr t=>∃ u,hv t=some u∧st'=clr i (jf j u false (clr i { s1 with sto:=sto }))):=by
  unfold a3r at h
  split at h
  · rename_i ts s1 e1
    split at h
    · rename_i t sto e2; cases h; exact ⟨ts,s1,.inl t,sto,e1,e2,rfl,rfl⟩
    · rename_i t sto e2
      split at h
      · rename_i u e3; cases h; exact ⟨ts,s1,.inr t,sto,e1,e2,rfl,u,e3,rfl⟩
      · cases h
    · cases h
  · cases h
theorem a5u (hst:X.stack=X.env::X.outer) (hfr:X.env.frame=some X.env.locals) (G:Fg X.prog X.w X.K X.mg X.base (CXx X.prog X.w) k a fd pn (spX X.K pn.length Cl f F)) (hr:Ei k X.A) (hg:Gl X x) (hm:X.mg x=some (.ref a)) (hk:PySem.W.keepIn X.K (.ref a)=true) (hb:Binds X.K fd pn [])
    (ha:PA X.nox (e::es) (aOf X.K B ms)) (hl:∀ st ts st',ms st=some (ts,st')→ts.length=pn.length) (hh:PHs X (h₀::hs) Cl th) (ho:HOf X.K B f i j hv th) (hdb:(x==("__debug__" : Str))=false:=by decide)
    (he:starEach (e::es) X.env=(false,eval e X.env)::starEach es X.env:=by rfl) (hpl:(backTo pos (starEach es X.env)).any (·.1)=false:=by rfl) (hsw:swapsWith (.Call (.Name x p) (e::es) [] pos) none q1.line X.env=pure false:=by rfl) :
    PS X (.Try [.Expr (.Call (.Name x p) (e::es) [] pos) q1] (h₀::hs) [] [] q2) (sOf X.K B (a3r F ms a2s i j hv)) :=
  (a8q hst hfr (a5f G hr hg hm hk hb ha hdb he hpl hsw) hh).imp fun D σ H z9=>by
    obtain ⟨st,ps,S,as,R,fl,st',e,q⟩:=z9
    obtain ⟨ts,s1,r,sto,e1,e2,rfl,z⟩:=a2n e
    refine ⟨st,ps,S,as,R,ts,s1,e1,fun vs H1 S1 as1 R1 rs=>⟨S1,as1,s1.sto,ts,r,sto,R1.sub,R1.sto,rs,hl _ _ _ e1,e2,?_⟩⟩
    cases r with
    | inl t =>
      obtain rfl:=z
      exact fun v H2 S2 as2 g sub so r=>q σ H2 S2 as2 (R1.call g sub so)
    | inr t =>
      obtain ⟨u,hu,rfl⟩:=z
      exact fun v dx H2 S2 as2 g sub so r hd=>⟨dx,rfl,rfl,ho dx D σ H2 _ ps S2 as2 v t u ((R1.call g sub so).push r) hd hu q⟩
end
end C
end
section
namespace L2
open PySem PySem.Spec PyProof.Rows
structure XG (K:PySem.W.Frag) (C:Addr) (f:Str):Prop where
  ga:PySem.W.findIn K (.ref C) "__getattribute__" = some (some (.builtin "BaseException.__getattribute__"))
  gt:PySem.W.findIn K (.ref C) "__getattr__" = some none
  bx:PySem.W.mroIn K C (.type "BaseException")=some true
  dc:PySem.W.hasDictIn K C=true
  na:PySem.W.findIn K (.ref C) f=some none
  cl:PySem.W.findIn K (.ref C) "__class__" = some (some (.builtin "object.__class__"))
  cg:PySem.W.specialIn K (.builtin "object.__class__") "__get__" = some (some (.builtin "getset_descriptor.__get__"))
  ct:PySem.W.takesIn K (.builtin "object.__class__")=some true
  ob:PySem.W.mroIn K C (.type "object")=some true
  ve:PySem.W.kitOne K (.ref C) (.type "ValueError")=some true
theorem Td {v:V} {u:Value} (r:RelV v u):PySem.W.handedIn u=true:=by
  cases v with
  | non=>cases r; rfl
  | bl b=>cases r; rfl
  | int i=>obtain ⟨t,rfl⟩:=r; rfl
  | str x=>obtain ⟨t,rfl⟩:=r; rfl
  | byt b=>obtain ⟨t,rfl⟩:=r; rfl
  | flt b=>obtain ⟨t,rfl⟩:=r; rfl
  | ref a=>cases r; rfl
  | ty n=>cases r; rfl
def ac5 (C:Addr) (f:Str) (i:Nat):TE:=fun σ H Q=>∃ a dx v,σ[i]? = some (some (.ref a))∧H a=some (Pn a C dx)∧H dx=some (Dk dx f v)∧Q v H
def ac2 (C:Addr) (f:Str) (i:Nat):TE:=fun σ H Q=>∃ a dx v,σ[i]? = some (some (.ref a))∧H a=some (Pn a C dx)∧H dx=some (Dk dx f v)∧Q (.bl true) H
section
variable {X:Cx} {e:Expr} {C:Addr} {f:Str} {i:Nat} {pos p:Pos}
theorem a9a (g:XG X.K C f) (he:PE X e (W9 i)) (hb:attributeBase e f X.env (eval e X.env)=eval e X.env):PE X (.Attribute e f pos) (ac5 C f i):=by
  intro pins s σ H Q I z8
  obtain ⟨a,dx,v,e1,e2,e3,q⟩:=z8
  refine a6w hb (thn (he pins s σ H (fun x H1=>x=.ref a∧H1=H) I ⟨_,e1,rfl,rfl⟩) fun u s1 z0=>?_)
  obtain ⟨x,H1,I1,rx,ex,eH⟩:=z0
  subst ex
  subst eH
  obtain rfl:u=Value.ref a:=rx
  obtain ⟨⟨vs,ga⟩,_⟩:=I1.hok a _ e2
  obtain ⟨⟨hs,tk,u,r,gd⟩,_⟩:=I1.hok dx _ e3
  refine My.a2j (ox:=Ut C dx vs) (od:=some (PySem.W.dictOf [⟨hs,.str f tk,u⟩] 1)) I1.kIn ⟨ga,rfl,rfl,gd⟩ g.ga g.gt g.bx (PySem.W.findObj_own g.dc g.na rfl ?_) (Td r) ⟨v,H1,I1.tok _,r,q⟩
  rw [PySem.W.lookIn_dict]
  simp [PySem.W.getL,Value.isStr]
theorem a97 (g:XG X.K C f) (hg:Gl X "isinstance") (hm:X.mg "isinstance" = none) (hg2:Gl X "ValueError") (hm2:X.mg "ValueError" = none) {pc:Pos} (he:PE X e (W9 i)) (hs:starEach [e,.Name "ValueError" pc] X.env=(false,eval e X.env)::starEach [.Name "ValueError" pc] X.env:=by rfl) :
    PE X (.Call (.Name "isinstance" p) [e,.Name "ValueError" pc] [] pos) (ac2 C f i):=by
  have hc:Eh X (.builtin "isinstance") (fun xs H Q=>∃ a dx v,xs=[.ref a,.ty "ValueError"]∧H a=some (Pn a C dx)∧H dx=some (Dk dx f v)∧Q (.bl true) H):=by
    intro pins s σ H xs us Q I rs z8
    obtain ⟨a,dx,v,ex,e2,e3,q⟩:=z8
    subst ex
    obtain ⟨u1,u2,rfl,r1,r2⟩:=rs.two
    obtain rfl:u1=Value.ref a:=r1
    obtain rfl:u2=Value.type "ValueError" := r2
    obtain ⟨⟨vs,ga⟩,_⟩:=I.hok a _ e2
    obtain ⟨⟨hs,tk,u,r,gd⟩,_⟩:=I.hok dx _ e3
    exact PySem.W.kia_one (My.a1e (ox:=Ut C dx vs) (od:=PySem.W.dictOf [⟨hs,.str f tk,u⟩] 1) g.ga g.gt g.bx g.dc g.cl g.cg g.ct g.ob) I.kIn ⟨ga,rfl,rfl,gd⟩ g.ve (by intro q; cases q) fun t=>⟨.bl true,H,I.tok t,rfl,q⟩
  exact (u6 hc hg hm PyProof.Rows.boot_isinstance (jt he (jt (Y9 (v:=.ty "ValueError") hg2 hm2 PyProof.Rows.Boot.«ValueError» rfl) wz) hs) (by decide) (by decide) hs rfl).imp fun σ H Q ⟨a,dx,v,e1,e2,e3,q⟩=>⟨_,e1,a,dx,v,rfl,e2,e3,q⟩
end
end L2
namespace C
open PySem PySem.Spec PyProof.Rows L2
section
variable {K:PySem.W.Frag} {B:Bas} {f:Str} {i j:Nat} {hv:T→Option T} {th:Addr→TS} {Cl:Addr} {te:TE}
theorem a6t {o:HO} (h:HOf K B f i j hv th):HOf K B f i j hv (fun dx D σ H=>∀ p,H p=none→th dx D σ (upd H p o)):=fun dx D σ H st ps S as v t u R hd hu q p hp =>
  h dx D σ _ st ps S as v t u (R.ext (Ext.beside R.sub hp o)) (by rw [dw (jr hd hp)]; exact hd) hu q
def TEx (K:PySem.W.Frag) (B:Bas) (Cl:Addr) (f:Str) (i:Nat) (hv:T→Option T) (te:TE):Prop :=
  ∀ σ H a dx v t u Q st ps S as,σ[i]? = some (some (.ref a))→H a=some (Pn a Cl dx)→H dx=some (Dk dx f v)→Rel K B st σ H ((v,t)::ps) S as→hv t=some u→(∀ w H' S' as',Rel K B st σ H' ((w,u)::ps) S' as'→Q w H')→te σ H Q
theorem Xn (h:TEx K B Cl f i hv te):HOf K B f i j hv (fun dx D σ H=>∀ a,H a=none→i<σ.length→a3p te (Mv j) (a8b i D) (σ.set i (some (.ref a))) (upd H a (Pn a Cl dx))):=fun dx D σ H st ps S as v t u R hd hu q a ha hi=>by
  have R1:=(R.ext (Ext.beside R.sub ha (Pn a Cl dx))).clr (i:=i) (σ':=σ.set i (some (.ref a))) (fun k n=>List.getElem?_set_ne (Ne.symm n)) (List.length_set ..)
  refine h _ _ a dx v t u _ _ ps S as (List.getElem?_set_self hi) dj (by rw [dw (jr hd ha)]; exact hd) R1 hu fun w H' S' as' R'=>?_
  exact q _ H' S' as' ((R'.drop.put R'.top).clr (fun k n=>List.getElem?_set_ne (Ne.symm n)) (List.length_set ..))
theorem a9c:TEx K B Cl f i some (ac5 Cl f i):=fun σ H a dx v t u Q st ps S as e1 e2 e3 R hu q=>by
  cases hu
  exact ⟨a,dx,v,e1,e2,e3,q v H S as R⟩
theorem a87:TEx K B Cl f i (fun _=>some (.bl true)) (ac2 Cl f i):=fun σ H a dx v t u Q st ps S as e1 e2 e3 R hu q=>by
  cases hu
  exact ⟨a,dx,v,e1,e2,e3,q _ H S as (R.drop.push (.bl true))⟩
end
end C
end
section
namespace C
open PySem PySem.Spec PyProof.Rows L2
structure XR (P:Program) (w:World) (K:PySem.W.Frag) (mg:Str→Option Value) (base:Heap) (x:Str) (Cl:Addr) (f p:Str):Prop where
  ex:∃ D fI fd,XC K Cl D fI f∧Fg P w K mg base CX0 1 fI fd ["self",p] (Oo Cl f)∧Binds K fd ["self",p] []
  m:mg x=some (.ref Cl)
def Gi (P:Program) (w:World) (K:PySem.W.Frag) (mg:Str→Option Value) (base:Heap) (x:Str) (n:Nat) (ps:List Str) (Cl:Addr) (f:Str) (F:FnX):Prop :=
  ∃ (a:Addr) (fd:FuncData),Fg P w K mg base (CXx P w) n a fd ps (spX K ps.length Cl f F)∧Binds K fd ps []∧PySem.W.keepIn K (.ref a)=true∧mg x=some (.ref a)
theorem Gi.mono {P:Program} {w:World} {K:PySem.W.Frag} {mg:Str→Option Value} {base:Heap} {x:Str} {n m:Nat} {ps:List Str} {Cl:Addr} {f:Str} {F:FnX} (D:Gi P w K mg base x n ps Cl f F) (h:n≤m):Gi P w K mg base x m ps Cl f F :=
  let ⟨a,fd,h1,h2⟩:=D; ⟨a,fd,h1.mono h,h2⟩
theorem Gi.norm {P:Program} {w:World} {K:PySem.W.Frag} {mg:Str→Option Value} {base:Heap} {x:Str} {n:Nat} {ps:List Str} {Cl:Addr} {f:Str} {F:FnX} (D:Gi P w K mg base x n ps Cl f F):iw P w K mg base x n ps (C.norm F) :=
  let ⟨a,fd,h1,h2,h3,h4⟩:=D; ⟨a,fd,a6h h1,h2,h3,h4⟩
def Xz (K:PySem.W.Frag) (mg:Str→Option Value) (x:Str) (Cl:Addr) (bm:List Value):Prop:=XCl K Cl bm∧mg x=some (.ref Cl)
section
variable {X:Cx} {B:Bas} {e:Expr} {es:List Expr} {ms:M (List T)} {pos p q1 q2 tpos:Pos} {k:Nat} {Cl:Addr} {f x:Str} {pn:List Str} {F:FnX} {h₀:ExceptHandler} {hs:List ExceptHandler} {th:Addr→TS} {i j:Nat} {hv:T→Option T}
theorem X5 {E:XK} {pr:Str} {arg:Expr} {m:M T} {np cpos:Pos} (R:XR X.prog X.w X.K X.mg X.base x Cl f pr) (W:XW X E) (hr:Ei 2 X.A) (hg:Gl X x) (ha:PE X arg (tOf X.K B m))
    (hdb:(x==("__debug__" : Str))=false:=by decide) (he:starEach [arg] X.env=[(false,eval arg X.env)]:=by rfl) :
    PS X (.Raise (some (.Call (.Name x np) [arg] [] cpos)) none pos) (T5 X.K B Cl f E (Km m)):=by
  obtain ⟨⟨D,fI,fd,h1,h2,h3⟩,m⟩:=R
  exact a0s W h1 h2 hr h3 hg m ha hdb he
theorem U7 (D:Gi X.prog X.w X.K X.mg X.base x k pn Cl f F) (hst:X.stack=X.env::X.outer) (hfr:X.env.frame=some X.env.locals) (hr:Ei k X.A) (hg:Gl X x)
    (ha:PA X.nox (e::es) (aOf X.K B ms)) (hl:∀ st ts st',ms st=some (ts,st')→ts.length=pn.length) (hh:PHs X (h₀::hs) Cl th) (ho:HOf X.K B f i j hv th) (hdb:(x==("__debug__" : Str))=false:=by decide)
    (he:starEach (e::es) X.env=(false,eval e X.env)::starEach es X.env:=by rfl) (hpl:(backTo pos (starEach es X.env)).any (·.1)=false:=by rfl) (hsw:swapsWith (.Call (.Name x p) (e::es) [] pos) none q1.line X.env=pure false:=by rfl) :
    PS X (.Try [.Expr (.Call (.Name x p) (e::es) [] pos) q1] (h₀::hs) [] [] q2) (sOf X.K B (a3r F ms a2s i j hv)):=by
  obtain ⟨a,fd,h1,h2,h3,h4⟩:=D
  exact a5u hst hfr h1 hr hg h4 h3 h2 ha hl hh ho hdb he hpl hsw
end
end C
end
section
namespace K
open C PySem
def Bf:Fn:=qt 2
  (v9 (mOp Hh (mOp cu (bh 0) (aq (.int 0))) (jo a7w (ao (uy 2 [1] (Ej [0,1]) (Aa (mOp cu (bh 0) (aq (.int 1)))) uz (mOp Ja (bh 1) (mOp cu (bh 2) (bh 0)))) fu))))
mutual
def tu:Nat→Fn
  | 0=>fun _ _=>none
  | n+1=>qt 4
      (j7 (vg 3 (mOp cu (bh 0) (aq (.int 0))))
      (j7 (sIf (gn (mOp eqO (bh 3) (aq (.str "most"))))
      (v9 (mOp leT (gb Bf (ao (mOp cu (bh 0) (aq (.int 1))) (ao (bh 1) fu))) (aq (.int 0))))
      zj)
      (j7 (sIf (gn (mOp eqO (bh 3) (aq (.str "rest"))))
      (v9 (mOp eqO (mOp Kc (gb Bf (ao (mOp cu (bh 0) (aq (.int 1))) (ao (bh 1) fu))) (mOp cu (bh 0) (aq (.int 2)))) (aq (.int 0))))
      zj)
      (j7 (sIf (gn (mOp eqO (bh 3) (aq (.str "at"))))
      (v9 (mOp eqO (mOp cu (bh 2) (mOp cu (bh 0) (aq (.int 1)))) (mOp cu (bh 0) (aq (.int 2)))))
      zj)
      (j7 (sIf (gn (mOp eqO (bh 3) (aq (.str "not"))))
      (v9 (Gd (Ws (gn (gb (tu n) (ao (mOp cu (bh 0) (aq (.int 1))) (ao (bh 1) (ao (bh 2) fu))))))))
      zj)
      (j7 (sIf (gn (mOp eqO (bh 3) (aq (.str "and"))))
      (v9 (Gd (Ws (gn (gb (Ca n) (ao (aq (.bl false)) (ao (mOp cu (bh 0) (aq (.int 1))) (ao (bh 1) (ao (bh 2) fu)))))))))
      zj)
      (v9 (gb (Ca n) (ao (aq (.bl true)) (ao (mOp cu (bh 0) (aq (.int 1))) (ao (bh 1) (ao (bh 2) fu))))))))))))
def Ca:Nat→Fn
  | 0=>fun _ _=>none
  | n+1=>qt 5
      (j7 (Hj (hName 4) (Aa (bh 1))
      (sIf (gn (mOp eqO (gb (tu n) (ao (bh 4) (ao (bh 2) (ao (bh 3) fu)))) (bh 0)))
      (v9 (aq (.bl true)))
      zj))
      (v9 (aq (.bl false))))
end
def jj:Fn:=qt 1
  (v9 (jo (fun l=>some (.tup l)) (ao (jo qu (ao (uy 1 [] (hName 0) (Aa (mOp cu (bh 0) (aq (.int 1)))) uz (aq (.int 0))) fu)) (ao (jo qu (ao (uy 1 [] (hName 0) (Aa (mOp cu (bh 0) (aq (.int 0)))) uz (mOp cu (bh 0) (aq (.int 4)))) fu)) fu))))
def Dp:Fn:=qt 2
  (v9 (mOp G3 (uy 1 [] (hName 0) (Aa (mOp cu (bh 0) (aq (.int 0)))) uz (mOp cu (bh 0) (aq (.int 0)))) (mOp cu (bh 1) (aq (.int 1)))))
def Aj:Fn:=qt 2
  (v9 (mOp G3 (uy 1 [] (hName 0) (Aa (mOp cu (bh 0) (aq (.int 1)))) uz (mOp cu (bh 0) (aq (.int 0)))) (mOp cu (bh 1) (aq (.int 0)))))
def qy:Fn:=qt 11
  (j7 (vg 3 (jo G6 (ao (mOp cu (bh 2) (aq (.int 3))) fu)))
  (j7 (sNew 4 (jo (fun l=>some (.lst l)) fu))
  (j7 (Hj (Ej [5,6,7,8,9]) (Aa (mOp cu (bh 0) (aq (.int 0))))
  (j7 (vg 10 (mIf (gn (mOp inT (bh 5) (bh 3))) (gb Bf (ao (mOp cu (bh 3) (bh 5)) (ao (bh 1) fu))) (mOp cu (bh 1) (bh 5))))
  (j7 (sIf (Lq (gn (mOp inT (bh 5) (bh 3))) (mOr (gn (mOp ltT (bh 10) (bh 7))) (gn (mOp gtT (bh 10) (bh 8)))))
  (v9 (aq .non))
  zj)
  (mz 4 (bh 10)))))
  (v9 (jo qu (ao (bh 4) fu))))))
def qp:Fn:=qt 2
  (v9 (jo qu (ao (uy 2 [1] (Ej [0,1]) (Oi (bh 0)) uz (mIf (gn (mOp eqO (bh 0) (mOp cu (bh 2) (aq (.int 0))))) (mOp cu (bh 2) (aq (.int 4))) (bh 1))) fu)))
def Dm:Fn:=qt 8
  (j7 (vg 2 (gb Dp (ao (bh 0) (ao (bh 1) fu))))
  (j7 (vg 3 (gb Aj (ao (bh 0) (ao (bh 1) fu))))
  (j7 (sNew 4 (jo (fun l=>some (.lst l)) fu))
  (j7 (Hj (Ej [5,6]) (Gv (mOp cu (bh 0) (aq (.int 2))))
  (sIf (Lq (gn (mOp eqO (mOp cu (bh 3) (mOp cu (bh 6) (aq (.int 0)))) (mOp cu (bh 6) (aq (.int 1))))) (gn (gb (tu 40) (ao (mOp cu (bh 6) (aq (.int 2))) (ao (bh 2) (ao (bh 3) fu))))))
  (j7 (vg 7 (gb qy (ao (bh 0) (ao (bh 2) (ao (bh 6) fu)))))
  (sIf (gn (mOp Bj (bh 7) (aq .non)))
  (mz 4 (jo (fun l=>some (.tup l)) (ao (bh 5) (ao (jo (fun l=>some (.tup l)) (ao (gb qp (ao (bh 3) (ao (bh 6) fu))) (ao (bh 7) fu))) fu))))
  zj))
  zj))
  (v9 (bh 4))))))
def yw:FnX:=Lw 6
  (Sv (lx (sNew 2 (jo (fun l=>some (.lst l)) (ao (gb jj (ao (bh 0) fu)) fu))))
  (Sv (a7k (Ej [3,4]) (Gv (bh 1))
  (Sv (lx (vg 5 (jo G6 (ao (gb Dm (ao (bh 0) (ao (Bg 2 (mUn S9 (aq (.int 1)))) fu))) fu))))
  (Sv (xIf (gn (mOp Cj (bh 4) (bh 5)))
  (Km (bh 3))
  (lx zj))
  (lx (mz 2 (mOp cu (bh 5) (bh 4)))))))
  (lx (v9 (bh 2)))))
def Fp:Fn:=norm yw
def kj:Fn:=qt 2
  (j7 (sIf (gn (mOp ltT (bh 1) (jo Nb (ao (bh 0) fu))))
  (v9 (mOp cu (bh 0) (bh 1)))
  zj)
  (v9 (aq (.int 0))))
def dh:Fn:=qt 3
  (j7 (sIf (gn (mOp eqO (Dz (bh 0)) (aq (.int 2))))
  (K9 0 (Ab (bh 0) (aq (.int 0))))
  zj)
  (j7 (sIf (Lq (gn (mOp eqO (Ab (bh 0) (aq (.int 1))) (aq (.int 0)))) (gn (mOp inT (Ab (bh 0) (aq (.int 0))) (jo (fun l=>some (.lst l)) (ao (aq (.int 0)) (ao (mUn S9 (aq (.int 1))) fu))))))
  (j7 (En (bh 0) (aq (.int 0)) (mOp Hh (Ab (bh 0) (aq (.int 2))) (aq (.int 1013))))
  (En (bh 0) (aq (.int 1)) (aq (.int 1))))
  zj)
  (j7 (sIf (gn (mOp eqO (Ab (bh 0) (aq (.int 1))) (aq (.int 0))))
  (j7 (vg 2 (mOp Kc (Ab (bh 0) (aq (.int 0))) (bh 1)))
  (j7 (En (bh 0) (aq (.int 0)) (mOp Hi (Ab (bh 0) (aq (.int 0))) (bh 1)))
  (v9 (bh 2))))
  zj)
  (j7 (En (bh 0) (aq (.int 0)) (mOp Kc (mOp Hh (mOp Ja (mOp Kc (Ab (bh 0) (aq (.int 0))) (aq (.int 2147483647))) (aq (.int 48271))) (aq (.int 1013))) (aq (.int 2147483629))))
  (v9 (mOp Kc (mOp Hi (mOp Kc (mOp Ja (Ab (bh 0) (aq (.int 0))) (aq (.int 69621))) (aq (.int 2147483587))) (aq (.int 11))) (bh 1)))))))
def wj:Fn:=qt 4
  (j7 (sIf (gn (mOp eqO (mOp Kc (mOp Hi (bh 0) (aq (.int 640))) (aq (.int 4))) (aq (.int 1))))
  (v9 (mOp cu (jo (fun l=>some (.lst l)) (a09 ["b","ab","abc","abcd","a","ba","aab","b1","bab","ab1"])) (mOp Kc (bh 1) (aq (.int 10)))))
  zj)
  (j7 (vg 2 (mOp Hh (aq (.int 1)) (mOp Kc (bh 0) (aq (.int 8)))))
  (j7 (vg 3 (mOp Kc (mOp Hi (bh 0) (aq (.int 8))) (bh 2)))
  (v9 (mOp Hh (mOp Hh (mOp Ja (aq (.str "q")) (bh 3)) (mOp cu (aq (.str "abcdefghij")) (mOp Kc (mOp Hh (mOp Ja (aq (.int 3)) (bh 1)) (mOp Hi (bh 0) (aq (.int 64)))) (aq (.int 10))))) (mOp Ja (aq (.str "q")) (mOp Gm (mOp Gm (bh 2) (aq (.int 1))) (bh 3))))))))
def Av:Fn:=qt 6
  (j7 (vg 2 (mOp Gm (gb dh (ao (bh 0) (ao (aq (.int 5)) fu))) (aq (.int 2))))
  (j7 (sIf (gn (mOp eqO (gb dh (ao (bh 0) (ao (aq (.int 9)) fu))) (aq (.int 8))))
  (vg 2 (mOp Gm (gb dh (ao (bh 0) (ao (mOp Gm (mOp Ja (aq (.int 2)) (mOp Vr (aq (.int 10)) (aq (.int 9)))) (aq (.int 1))) fu))) (mOp Gm (mOp Vr (aq (.int 10)) (aq (.int 9))) (aq (.int 1)))))
  zj)
  (j7 (sNew 3 (jo (fun l=>some (.lst l)) fu))
  (j7 (Hj (hName 4) (Aa (jo K4 (ao (bh 1) fu)))
  (j7 (vg 5 (mOp cu (jo (fun l=>some (.lst l)) (ao (aq (.int 0)) (ao (aq (.int 0)) (ao (aq (.int 1)) (ao (aq (.int 1)) (ao (mUn S9 (aq (.int 1))) (ao (aq (.int 2)) (ao (mOp Gm (gb dh (ao (bh 0) (ao (aq (.int 7)) fu))) (aq (.int 3))) fu)))))))) (gb dh (ao (bh 0) (ao (aq (.int 7)) fu)))))
  (sIf (gn (mOp neO (bh 5) (aq (.int 0))))
  (mz 3 (jo (fun l=>some (.tup l)) (ao (bh 4) (ao (bh 5) fu))))
  zj)))
  (v9 (jo (fun l=>some (.tup l)) (ao (bh 2) (ao (jo qu (ao (bh 3) fu)) fu))))))))
def qe:Fn:=qt 7
  (j7 (vg 3 (gb dh (ao (bh 0) (ao (aq (.int 4)) fu))))
  (j7 (sIf (gn (mOp eqO (bh 3) (aq (.int 0))))
  (j7 (sGo (Ej [4,5]) (mOp cu (bh 2) (gb dh (ao (bh 0) (ao (jo Nb (ao (bh 2) fu)) fu)))))
  (v9 (jo (fun l=>some (.tup l)) (ao (aq (.str "at")) (ao (bh 4) (ao (gb dh (ao (bh 0) (ao (bh 5) fu))) fu))))))
  zj)
  (j7 (vg 6 (gb Av (ao (bh 0) (ao (bh 1) fu))))
  (j7 (sIf (gn (mOp eqO (bh 3) (aq (.int 1))))
  (v9 (jo (fun l=>some (.tup l)) (ao (aq (.str "rest")) (ao (bh 6) (ao (mOp Hh (aq (.int 2)) (gb dh (ao (bh 0) (ao (aq (.int 11)) fu)))) fu)))))
  zj)
  (v9 (jo (fun l=>some (.tup l)) (ao (aq (.str "most")) (ao (bh 6) fu))))))))
def zp:Fn:=qt 7
  (j7 (vg 3 (gb dh (ao (bh 0) (ao (aq (.int 11)) fu))))
  (j7 (sIf (gn (mOp ltT (bh 3) (aq (.int 2))))
  (v9 (jo (fun l=>some (.tup l)) (ao (aq (.str "and")) (ao (jo (fun l=>some (.tup l)) fu) fu))))
  zj)
  (j7 (vg 4 (gb qe (ao (bh 0) (ao (bh 1) (ao (bh 2) fu)))))
  (j7 (sIf (gn (mOp ltT (bh 3) (aq (.int 5))))
  (v9 (bh 4))
  zj)
  (j7 (sIf (gn (mOp eqO (bh 3) (aq (.int 5))))
  (v9 (jo (fun l=>some (.tup l)) (ao (aq (.str "not")) (ao (bh 4) fu))))
  zj)
  (j7 (vg 5 (jo (fun l=>some (.tup l)) (ao (mOp cu (jo (fun l=>some (.lst l)) (ao (aq (.str "and")) (ao (aq (.str "or")) fu))) (mOp Kc (bh 3) (aq (.int 2)))) (ao (jo (fun l=>some (.tup l)) (ao (bh 4) (ao (gb qe (ao (bh 0) (ao (bh 1) (ao (bh 2) fu)))) fu))) fu))))
  (j7 (sIf (gn (mOp ltT (bh 3) (aq (.int 8))))
  (v9 (bh 5))
  zj)
  (j7 (sIf (gn (mOp eqO (bh 3) (aq (.int 8))))
  (v9 (jo (fun l=>some (.tup l)) (ao (aq (.str "not")) (ao (jo (fun l=>some (.tup l)) (ao (mOp cu (jo (fun l=>some (.lst l)) (ao (aq (.str "and")) (ao (aq (.str "or")) fu))) (gb dh (ao (bh 0) (ao (aq (.int 2)) fu)))) (ao (mOp cu (bh 5) (aq (.int 1))) fu))) fu))))
  zj)
  (j7 (sIf (gn (mOp eqO (bh 3) (aq (.int 9))))
  (v9 (jo (fun l=>some (.tup l)) (ao (mOp cu (jo (fun l=>some (.lst l)) (ao (aq (.str "and")) (ao (aq (.str "or")) fu))) (gb dh (ao (bh 0) (ao (aq (.int 2)) fu)))) (ao (jo (fun l=>some (.tup l)) (ao (jo (fun l=>some (.tup l)) (ao (aq (.str "not")) (ao (bh 5) fu))) (ao (gb qe (ao (bh 0) (ao (bh 1) (ao (bh 2) fu)))) fu))) fu))))
  zj)
  (j7 (vg 6 (jo qu (ao (uy 1 [0,1,2] (hName 0) (Cz (mOp Hh (aq (.int 1)) (gb dh (ao (bh 0) (ao (aq (.int 3)) fu))))) uz (gb qe (ao (bh 1) (ao (bh 2) (ao (bh 3) fu))))) fu)))
  (v9 (jo (fun l=>some (.tup l)) (ao (mOp cu (jo (fun l=>some (.lst l)) (ao (aq (.str "and")) (ao (aq (.str "or")) fu))) (gb dh (ao (bh 0) (ao (aq (.int 2)) fu)))) (ao (mOp Hh (mOp cu (bh 5) (aq (.int 1))) (bh 6)) fu))))))))))))))
def Ak:Fn:=qt 7
  (j7 (sNew 3 (jo (fun l=>some (.lst l)) fu))
  (j7 (Hj (hName 4) (Cz (bh 2))
  (j7 (vg 5 (mOp Gm (gb dh (ao (bh 0) (ao (aq (.int 4)) fu))) (aq (.int 2))))
  (j7 (sIf (gn (mOp eqO (gb dh (ao (bh 0) (ao (aq (.int 9)) fu))) (aq (.int 8))))
  (vg 5 (mOp Gm (gb dh (ao (bh 0) (ao (mOp Gm (mOp Ja (aq (.int 2)) (mOp Vr (aq (.int 10)) (aq (.int 30)))) (aq (.int 9))) fu))) (mOp Vr (aq (.int 10)) (aq (.int 30)))))
  zj)
  (j7 (vg 6 (mOp Hh (bh 5) (gb dh (ao (bh 0) (ao (aq (.int 3)) fu)))))
  (mz 3 (jo (fun l=>some (.tup l)) (ao (gb wj (ao (bh 1) (ao (bh 4) fu))) (ao (aq (.str "")) (ao (bh 5) (ao (bh 6) (ao (mOp Hh (bh 5) (gb dh (ao (bh 0) (ao (mOp Hh (mOp Gm (bh 6) (bh 5)) (aq (.int 1))) fu)))) fu)))))))))))
  (v9 (bh 3))))
def Af:Fn:=qt 11
  (j7 (sGo (Ej [3,4]) (mOp cu (bh 2) (gb dh (ao (bh 0) (ao (jo Nb (ao (bh 2) fu)) fu)))))
  (j7 (vg 5 (gb dh (ao (bh 0) (ao (bh 4) fu))))
  (j7 (vg 6 (gb dh (ao (bh 0) (ao (bh 4) fu))))
  (j7 (vg 7 (gb zp (ao (bh 0) (ao (bh 1) (ao (bh 2) fu)))))
  (j7 (sNew 8 (jo (fun l=>some (.lst l)) fu))
  (j7 (Hj (hName 9) (Aa (jo K4 (ao (bh 1) fu)))
  (j7 (vg 10 (gb dh (ao (bh 0) (ao (aq (.int 5)) fu))))
  (j7 (sIf (gn (mOp eqO (bh 10) (aq (.int 0))))
  (mz 8 (jo (fun l=>some (.tup l)) (ao (bh 9) (ao (gb Av (ao (bh 0) (ao (bh 1) fu))) fu))))
  zj)
  (sIf (gn (mOp eqO (bh 10) (aq (.int 1))))
  (mz 8 (jo (fun l=>some (.tup l)) (ao (bh 9) (ao (jo (fun l=>some (.tup l)) (ao (mOp Gm (gb dh (ao (bh 0) (ao (aq (.int 3)) fu))) (aq (.int 1))) (ao (jo (fun l=>some (.tup l)) (ao (jo (fun l=>some (.tup l)) (ao (bh 9) (ao (aq (.int 1)) fu))) fu)) fu))) fu))))
  zj))))
  (v9 (jo (fun l=>some (.tup l)) (ao (bh 3) (ao (bh 5) (ao (bh 7) (ao (jo qu (ao (bh 8) fu)) (ao (bh 6) fu)))))))))))))
def wu:Fn:=qt 11
  (j7 (vg 2 (mOp Kc (mOp Hi (gb kj (ao (bh 0) (ao (aq (.int 0)) fu))) (aq (.int 5))) (aq (.int 2))))
  (j7 (vg 3 (gb kj (ao (bh 0) (ao (aq (.int 1)) fu))))
  (j7 (vg 4 (Ec (ao (gb kj (ao (bh 0) (ao (aq (.int 2)) fu))) (ao (bh 2) fu))))
  (j7 (vg 5 (mOp Hh (aq (.int 1)) (gb dh (ao (bh 4) (ao (aq (.int 3)) fu)))))
  (j7 (sNew 6 (jo (fun l=>some (.lst l)) fu))
  (j7 (Hj (hName 7) (Cz (bh 5))
  (mz 6 (jo (fun l=>some (.tup l)) (ao (gb wj (ao (bh 3) (ao (mOp Hh (aq (.int 5)) (bh 7)) fu))) (ao (mOp Hh (aq (.int 1)) (gb dh (ao (bh 4) (ao (mOp cu (jo (fun l=>some (.lst l)) (ao (aq (.int 4)) (ao (aq (.int 4)) (ao (aq (.int 2)) fu)))) (mOp Gm (bh 5) (aq (.int 1)))) fu)))) fu)))))
  (j7 (vg 8 (gb Ak (ao (bh 4) (ao (bh 3) (ao (gb dh (ao (bh 4) (ao (aq (.int 3)) fu))) fu)))))
  (j7 (vg 9 (uy 1 [] (hName 0) (Aa (bh 8)) uz (mOp cu (bh 0) (aq (.int 0)))))
  (j7 (vg 10 (uy 1 [9,6,2] (hName 0) (Aa (zc (bh 0) (Ax (aq (.int 3))) (Ax (mOp Hh (aq (.int 3)) (bh 1))))) uz (gb Af (ao (Ec (ao (bh 0) (ao (bh 3) fu))) (ao (bh 1) (ao (bh 2) fu))))))
  (v9 (jo (fun l=>some (.tup l)) (ao (bh 8) (ao (bh 6) (ao (bh 10) (ao (jo (fun l=>some (.tup l)) fu) fu)))))))))))))))
def qj:Fn:=qt 2
  (v9 (mOp Hh (mOp cu (bh 0) (aq (.int 0))) (jo a7w (ao (uy 2 [1] (Ej [0,1]) (Aa (mOp cu (bh 0) (aq (.int 1)))) uz (mOp Ja (bh 1) (mOp cu (bh 2) (bh 0)))) fu))))
mutual
def j9:Nat→Fn
  | 0=>fun _ _=>none
  | n+1=>qt 4
      (j7 (sIf (gn (mOp eqO (mOp cu (bh 0) (aq (.int 0))) (aq (.str "most"))))
      (v9 (mOp leT (gb qj (ao (mOp cu (bh 0) (aq (.int 1))) (ao (bh 1) fu))) (aq (.int 0))))
      zj)
      (j7 (sIf (gn (mOp eqO (mOp cu (bh 0) (aq (.int 0))) (aq (.str "rest"))))
      (v9 (mOp eqO (mOp Kc (gb qj (ao (mOp cu (bh 0) (aq (.int 1))) (ao (bh 1) fu))) (mOp cu (bh 0) (aq (.int 2)))) (aq (.int 0))))
      zj)
      (j7 (sIf (gn (mOp eqO (mOp cu (bh 0) (aq (.int 0))) (aq (.str "at"))))
      (v9 (mOp eqO (mOp cu (bh 2) (mOp cu (bh 0) (aq (.int 1)))) (mOp cu (bh 0) (aq (.int 2)))))
      zj)
      (j7 (sIf (gn (mOp eqO (mOp cu (bh 0) (aq (.int 0))) (aq (.str "not"))))
      (v9 (Gd (Ws (gn (gb (j9 n) (ao (mOp cu (bh 0) (aq (.int 1))) (ao (bh 1) (ao (bh 2) fu))))))))
      zj)
      (j7 (vg 3 (uy 1 [1,2] (hName 0) (Aa (mOp cu (bh 0) (aq (.int 1)))) uz (gb (j9 n) (ao (bh 0) (ao (bh 1) (ao (bh 2) fu))))))
      (v9 (mIf (gn (mOp eqO (mOp cu (bh 0) (aq (.int 0))) (aq (.str "and")))) (mOp Cj (aq (.bl false)) (bh 3)) (mOp inT (aq (.bl true)) (bh 3)))))))))
end
def yt:Fn:=qt 1
  (v9 (jo (fun l=>some (.tup l)) (ao (jo qu (ao (mOp Vq (jo (fun l=>some (.lst l)) (ao (aq (.int 0)) fu)) (jo Nb (ao (mOp cu (bh 0) (aq (.int 1))) fu))) fu)) (ao (jo qu (ao (uy 1 [] (hName 0) (Aa (mOp cu (bh 0) (aq (.int 0)))) uz (mOp cu (bh 0) (aq (.int 4)))) fu)) fu))))
def vm:Fn:=qt 13
  (j7 (sGo (Ej [3,4,5,6,7]) (mOp cu (mOp cu (bh 0) (aq (.int 2))) (bh 2)))
  (j7 (sNew 8 (mOp G3 (uy 1 [] (hName 0) (Aa (mOp cu (bh 0) (aq (.int 1)))) uz (mOp cu (bh 0) (aq (.int 0)))) (mOp cu (bh 1) (aq (.int 0)))))
  (j7 (vg 9 (mOp G3 (uy 1 [] (hName 0) (Aa (mOp cu (bh 0) (aq (.int 0)))) uz (mOp cu (bh 0) (aq (.int 0)))) (mOp cu (bh 1) (aq (.int 1)))))
  (j7 (sIf (Ob [8] (mOr (gn (mOp neO (rm 8 (bh 3)) (bh 4))) (Ws (gn (gb (j9 40) (ao (bh 5) (ao (bh 9) (ao (bh 8) fu))))))))
  (v9 (aq .non))
  zj)
  (j7 (sNew 10 (jo G6 (ao (bh 9) fu)))
  (j7 (Hj (Ej [11,12]) (Aa (bh 6))
  (Du 10 (bh 11) (gb qj (ao (bh 12) (ao (bh 9) fu)))))
  (j7 (Hj (hName 11) (Aa (mOp cu (bh 0) (aq (.int 0))))
  (sIf (mOr (gn (mOp ltT (rm 10 (mOp cu (bh 11) (aq (.int 0)))) (mOp cu (bh 11) (aq (.int 2))))) (gn (mOp gtT (rm 10 (mOp cu (bh 11) (aq (.int 0)))) (mOp cu (bh 11) (aq (.int 3))))))
  (v9 (aq .non))
  zj))
  (j7 (Du 8 (bh 3) (bh 7))
  (v9 (jo (fun l=>some (.tup l)) (ao (jo qu (ao (uy 1 [8] (hName 0) (Aa (mOp cu (bh 0) (aq (.int 1)))) uz (mOp cu (bh 1) (mOp cu (bh 0) (aq (.int 0))))) fu)) (ao (jo qu (ao (uy 1 [10] (hName 0) (Aa (mOp cu (bh 0) (aq (.int 0)))) uz (mOp cu (bh 1) (mOp cu (bh 0) (aq (.int 0))))) fu)) fu))))))))))))
def Bh:Fn:=qt 2
  (v9 (uy 1 [0,1] (hName 0) (Cz (jo Nb (ao (mOp cu (bh 0) (aq (.int 2))) fu))) (gn (mOp Bj (gb vm (ao (bh 1) (ao (bh 2) (ao (bh 0) fu)))) (aq .non))) (bh 0)))
def vo:Fn:=qt 8
  (j7 (sNew 2 (jo (fun l=>some (.lst l)) fu))
  (j7 (sNew 3 (jo (fun l=>some (.lst l)) (ao (gb yt (ao (bh 1) fu)) fu)))
  (j7 (vg 4 (aq .non))
  (j7 (Hj (hName 5) (Aa (zc (bh 0) (Ax (aq (.int 15))) (Ax (aq (.int 63)))))
  (j7 (vg 6 (mOp Gm (mOp Kc (mOp Hi (bh 5) (aq (.int 8))) (mOp Hh (jo Nb (ao (mOp cu (bh 1) (aq (.int 2))) fu)) (aq (.int 2)))) (aq (.int 1))))
  (j7 (vg 7 (gb Bh (ao (bh 1) (ao (Bg 3 (mUn S9 (aq (.int 1)))) fu))))
  (j7 (sIf (Lq (gn (mOp gtT (mOp Kc (bh 5) (aq (.int 8))) (aq (.int 0)))) (gn (mOp neO (bh 7) (jo (fun l=>some (.lst l)) fu))))
  (vg 6 (mOp cu (bh 7) (mOp Kc (mOp Hi (bh 5) (aq (.int 8))) (jo Nb (ao (bh 7) fu)))))
  zj)
  (j7 (mz 2 (bh 6))
  (j7 (sIf (Lq (gn (mOp Zq (bh 4) (aq .non))) (gn (mOp Cj (bh 6) (bh 7))))
  (vg 4 (mOp Gm (Gw 2) (aq (.int 1))))
  zj)
  (sIf (gn (mOp Zq (bh 4) (aq .non)))
  (mz 3 (gb vm (ao (bh 1) (ao (Bg 3 (mUn S9 (aq (.int 1)))) (ao (bh 6) fu)))))
  zj)))))))
  (v9 (jo (fun l=>some (.tup l)) (ao (bh 2) (ao (bh 3) (ao (bh 4) fu)))))))))
def vp:Fn:=qt 4
  (j7 (vg 2 (aq .non))
  (j7 (a3r yw (ao (bh 0) (ao (bh 1) fu)) a2s 3 2 some)
  (v9 (bh 2))))
def Bl:Fn:=qt 4
  (j7 (vg 2 (aq (.bl false)))
  (j7 (a3r yw (ao (bh 0) (ao (bh 1) fu)) a2s 3 2 (fun _=>some (.bl true)))
  (v9 (bh 2))))
def Wb:Fn:=qt 7
  (j7 (vg 1 (gb wu (ao (bh 0) (ao (aq (.int 12)) fu))))
  (j7 (sGo (Ej [2,3,4]) (gb vo (ao (bh 0) (ao (bh 1) fu))))
  (j7 (vg 5 (jo Nz (ao (bh 2) fu)))
  (j7 (sIf (gn (mOp Bj (bh 4) (aq .non)))
  (j7 (sIf (mOr (gn (mOp neO (gb vp (ao (bh 1) (ao (bh 5) fu))) (bh 4))) (mOr (Ws (gn (gb Bl (ao (bh 1) (ao (bh 5) fu))))) (gn (mOp neO (bh 5) (bh 2)))))
  (v9 (aq (.bl false)))
  zj)
  (vg 2 (zc (bh 2) Og (Ax (bh 4)))))
  zj)
  (j7 (vg 6 (gb Fp (ao (bh 1) (ao (bh 2) fu))))
  (v9 (Gd (Lq (gn (jo O5 (ao (bh 6) fu))) (gn (Gd (Lq (gn (mOp eqO (bh 6) (bh 3))) (gn (mOp eqO (gb Fp (ao (bh 1) (ao (jo (fun l=>some (.lst l)) fu) fu))) (zc (bh 3) Og (Ax (aq (.int 1)))))))))))))))))
end K
end
section
namespace D
open PySem L2 C
def top (i:Nat):Stmt:=PySem.Challenge.pw_calm_k21_weavings.main.body.getD i (.Pass ⟨0,0,0,0⟩)
def a2q:Stmt→Stmt
  | .ClassDef _ _ _ b _ _ _ _ _ _ _=>b.getD 0 (.Pass ⟨0,0,0,0⟩)
  | s=>s
abbrev ll1:List Str:=["_law_program_here","_law_stand","_law_number","_law_hand","_law_here","_law_guard","_law_sets","_law_there","_law_places","_law_book","_law_then","_law_box","_law_one"]
abbrev ll2:List Str:=["_law_stream","_law_boxes_here","_law_hands","_law_hand","_law_places","_law_here","_law_there","_law_guard","_law_sets","_law_box","_law_way"]
abbrev ll3:List Str:=["_law_script","_law_most","_law_way","_law_cell","_law_stream","_law_many","_law_hands","_law_k","_law_boxes_here","_law_names","_law_steps"]
abbrev ll4:List Str:=["_law_script","_law_program_here","_law_numbers_here","_law_stands","_law_bad","_law_cell","_law_number","_law_some"]
abbrev ll5:List Str:=["_law_script","_law_program_here","_law_numbers_here","_law_stands","_law_bad","_law_handed","_law_found"]
abbrev ll6:List Str:=["_law_stream","_law_boxes_here","_law_hands","_law_way","_law_hand","_law_places","_law_one"]
abbrev ll7:List Str:=["_law_stream","_law_boxes_here","_law_hands","_law_way","_law_one","_law_two","_law_others"]
abbrev ll8:List Str:=["_law_stream","_law_cell","_law_many","_law_boxes_here","_law_k","_law_low","_law_high"]
abbrev ll9:List Str:=["program","book","step","sets","values","box","owner","low","high","start","new"]
abbrev abq:List Str:=["_law_stream","_law_boxes_here","_law_number","_law_parts","_law_box","_law_times_of"]
abbrev abr:List Str:=["program","stand","book","places","told","number","step","values"]
abbrev aa9:List Str:=["_law_remark_here","_law_book","_law_places","_law_some"]
abbrev a7i:List Str:=["_law_program_here","_law_numbers_here","_law_found","e"]
abbrev ab7:List Str:=["program","numbers","stands","place","number","there"]
abbrev abz:List Str:=["_law_k","_law_stream","_law_boxes_here","_law_hands"]
abbrev aci:List Str:=["_law_one","_law_names","_law_hands","_law_way"]
abbrev abm:List Str:=["_law_cell","_law_k","_law_size","_law_place"]
abbrev a9n:List Str:=["_law_program_here","_law_stand","_law_number"]
abbrev aam:List Str:=["wanted","members","book","places","member"]
abbrev Wq:List Str:=["_law_stream","_law_boxes_here","_law_hands"]
abbrev a6o:List Str:=["_law_remark_here","_law_book","_law_places"]
abbrev ac9:List Str:=["_law_k","_law_program_here","_law_stand"]
abbrev abx:List Str:=["_law_stream","_law_many","_law_found"]
abbrev aas:List Str:=["_law_box","_law_times_of","_law_book"]
abbrev a3w:List Str:=["_law_program_here","_law_numbers_here"]
abbrev a9r:List Str:=["_law_stream","_law_cell","_law_many"]
abbrev ace:List Str:=["_law_one","_law_book","_law_places"]
abbrev a7h:List Str:=["wanted","members","book","places"]
abbrev abn:List Str:=["remark","book","places","kind"]
abbrev a9v:List Str:=["_law_script","_law_program_here"]
abbrev a66:List Str:=["_law_program_here","_law_stand"]
abbrev a9k:List Str:=["_law_stream","_law_boxes_here"]
abbrev a4f:List Str:=["remark","book","places"]
abbrev a2d:List Str:=["_law_stream","_law_many"]
abbrev a9s:List Str:=["_law_script","_law_most"]
abbrev a9x:List Str:=["program","book","step"]
abbrev aai:List Str:=["hand","place","step"]
abbrev a73:List Str:=["_law_script","_law_k"]
abbrev a1h:List Str:=["_law_one","_law_book"]
abbrev abf:List Str:=["box","times","book"]
abbrev a9g:List Str:=["_law_cell","_law_k"]
abbrev a7g:List Str:=["program","numbers"]
abbrev a4v:List Str:=["_law_program_here"]
abbrev O6:List Str:=["program","stand"]
abbrev a6j:List Str:=["places","step"]
abbrev a1q:List Str:=["one","book"]
abbrev ab9:List Str:=["_law_script"]
abbrev a4z:List Str:=["program"]
section
variable {P:Program} {w:World} {K:PySem.W.Frag} {mg:Str→Option Value} {base:Heap} {f:Addr} {fd:FuncData}
abbrev Ky:Stmt:=a2q (top 4)
theorem Vz:jc ["self","place"] ["self","place"] (dz Ky):=⟨rfl,rfl,rfl,by decide +kernel,rfl,by decide +kernel,by decide +kernel⟩
theorem a05 {Cl D fI:Addr} {fdI:FuncData} (c:XC K Cl D fI "place") (F:Fun K "__init__" "NoStep.__init__" Ky fI fdI) (m:mg "NoStep" = some (.ref Cl)):XR P w K mg base "NoStep" Cl "place" "place" :=
  ⟨⟨D,fI,fdI,c,a74 c F Vz rfl rfl rfl (by decide) (by decide) (by decide) (fun _=>rfl),F.binds (ps:=["self","place"]) fun _ _ _ _ _ _ us hl=>bd2 (fun _ _=>rfl) us hl⟩,m⟩
abbrev Sg:Stmt:=top 7
theorem Uc:jc a1q a1q (dz Sg):=⟨rfl,rfl,rfl,by decide +kernel,rfl,by decide +kernel,by decide +kernel⟩
theorem a0o (F:Fun K "value" "value" Sg f fd) (hmg:mg "value" = some (.ref f)) (b_sum:mg "sum" = none):iw P w K mg base "value" 1 a1q _root_.K.Bf:=by
  refine ⟨f,fd,?_,F.binds (ps:=a1q) fun _ _ _ _ _ _ us hl=>bd2 (fun _ _=>rfl) us hl,F.kp,hmg⟩
  refine jq (N:=a1q) F Uc (by decide)  fun cdv A outer s H E B hr=>?_
  have hu:=yx hr
  have hq:=hr.units
  have nd:a1q.Nodup:=Uc.nd
  refine fj ?_
  · refine j4 ?_
    · refine j8 ?_ ?_ ?_
      · exact sy
      · exact gw hu (ak 0 (pv 0)) bf (fun _ _=>rfl)
      · refine jh ?_
        · refine u6 (Oa (by rfl)) ?_ ?_ PyProof.Rows.boot_sum ?_
          · exact by rfl
          · exact b_sum
          · refine aj ?_ ?_
            · refine qm ?_
              · refine yu (N:=abf) ?_ ?_ ?_ ?_ ?_ ?_ ?_ ?_
                · exact ⟨rfl,fun j k h=>match j,h with | 0,h=>(by cases h; exact ⟨_,rfl,rfl,⟨.inl rfl,.inr (.inl rfl),.inl rfl⟩⟩) | _+1,h=>(by cases h)⟩
                · exact ⟨rfl,rfl,by decide +kernel,by decide +kernel⟩
                · exact rfl
                · exact xr (gw hu (ak 0 (pv 0)) bf (fun _ _=>rfl))
                · exact xg
                · exact fun C s₀ H₀ ex pn=>pgE fun B=>(Dj (is:=[0,1]) (Dy rfl (j6 (gk (show abf.Nodup by decide +kernel) rfl (Or.inl rfl)) (j6 (gk (show abf.Nodup by decide +kernel) rfl (Or.inl rfl)) Aw))))
                · exact fun C s₀ H₀ ex pn=>ql
                · exact fun C s₀ H₀ ex pn=>peE fun B=>(j8 Bu (ak 1 (pv 1)) (gw hu (ak 2 (pv 2)) (ak 0 (pv 0)) (fun _ _=>rfl)))
            · exact c7
abbrev Mw:Stmt:=top 9
theorem V5:jc abn a4f (dz Mw):=⟨rfl,rfl,rfl,by decide +kernel,rfl,by decide +kernel,by decide +kernel⟩
theorem a2b (F:Fun K "holds" "holds" Mw f fd) (hmg:mg "holds" = some (.ref f)) {nn:Nat} (d_any_is:iw P w K mg base "any_is" (1+nn) a7h (_root_.K.Ca nn)) (d_holds:iw P w K mg base "holds" (1+nn) a4f (_root_.K.tu nn)) (d_value:iw P w K mg base "value" 1 a1q (_root_.K.Bf)):iw P w K mg base "holds" (1+nn+1) a4f (_root_.K.tu (nn+1)):=by
  refine ⟨f,fd,?_,F.binds (ps:=a4f) fun _ _ _ _ _ _ us hl=>bd3 (fun _ _ _=>rfl) us hl,F.kp,hmg⟩
  have d_any_is:=d_any_is.mono (show (1+nn)≤(1+nn) by first | decide | omega)
  have d_holds:=d_holds.mono (show (1+nn)≤(1+nn) by first | decide | omega)
  have d_value:=d_value.mono (show 1≤(1+nn) by first | decide | omega)
  refine jq (N:=abn) F V5 (by decide)  fun cdv A outer s H E B hr=>?_
  have hu:=yx hr
  have hq:=hr.units
  have nd:abn.Nodup:=V5.nd
  refine cj ?_ ?_
  · exact jd 3 (iu nd rfl (Or.inl rfl) (gw hu (ak 0 (pv 0)) bf (fun _ _=>rfl))) (fun _ _ _ h=>h)
  · refine cj ?_ ?_
    · exact ud (j5 (m5 hq) (ak 3 (pv 3)) mq (iz _))   (fj (j4 (Ez a3g (dg d_value hr (by rfl) (aj (gw hu (ak 0 (pv 0)) bf (fun _ _=>rfl)) (aj (ak 1 (pv 1)) c7)) (au (au eq_nil))) bf (iz _))))   jl
    · refine cj ?_ ?_
      · refine ud ?_ ?_ ?_
        · exact j5 (m5 hq) (ak 3 (pv 3)) mq (iz _)
        · exact fj (j4 (Ez (m5 hq) (j8 v7 (dg d_value hr (by rfl) (aj (gw hu (ak 0 (pv 0)) bf (fun _ _=>rfl)) (aj (ak 1 (pv 1)) c7)) (au (au eq_nil))) (gw hu (ak 0 (pv 0)) bf (fun _ _=>rfl))) bf (iz _)))
        · exact jl
      · refine cj ?_ ?_
        · exact ud (j5 (m5 hq) (ak 3 (pv 3)) mq (iz _))   (fj (j4 (Ez (m5 hq) (gw hu (ak 2 (pv 2)) (gw hu (ak 0 (pv 0)) bf (fun _ _=>rfl)) (fun _ _=>rfl)) (gw hu (ak 0 (pv 0)) bf (fun _ _=>rfl)) (iz _))))   jl
        · refine cj ?_ ?_
          · exact ud (j5 (m5 hq) (ak 3 (pv 3)) mq (iz _))   (fj (j4 (Xd (dg d_holds hr (by rfl) (aj (gw hu (ak 0 (pv 0)) bf (fun _ _=>rfl)) (aj (ak 1 (pv 1)) (aj (ak 2 (pv 2)) c7))) (au (au (au eq_nil)))))))   jl
          · refine cj ?_ ?_
            · refine ud ?_ ?_ ?_
              · exact j5 (m5 hq) (ak 3 (pv 3)) mq (iz _)
              · exact fj (j4 (Xd (dg d_any_is hr (by rfl) (aj Qe (aj (gw hu (ak 0 (pv 0)) bf (fun _ _=>rfl)) (aj (ak 1 (pv 1)) (aj (ak 2 (pv 2)) c7)))) (au (au (au (au eq_nil)))))))
              · exact jl
            · exact fj (j4 (dg d_any_is hr (by rfl) (aj Qe (aj (gw hu (ak 0 (pv 0)) bf (fun _ _=>rfl)) (aj (ak 1 (pv 1)) (aj (ak 2 (pv 2)) c7)))) (au (au (au (au eq_nil))))))
abbrev Iu:Stmt:=top 10
theorem Q6:jc aam a7h (dz Iu):=⟨rfl,rfl,rfl,by decide +kernel,rfl,by decide +kernel,by decide +kernel⟩
theorem Yd (F:Fun K "any_is" "any_is" Iu f fd) (hmg:mg "any_is" = some (.ref f)) {nn:Nat} (d_holds:iw P w K mg base "holds" (1+nn) a4f (_root_.K.tu nn)):iw P w K mg base "any_is" (1+nn+1) a7h (_root_.K.Ca (nn+1)):=by
  refine ⟨f,fd,?_,F.binds (ps:=a7h) fun _ _ _ _ _ _ us hl=>bd4 (fun _ _ _ _=>rfl) us hl,F.kp,hmg⟩
  have d_holds:=d_holds.mono (show (1+nn)≤(1+nn) by first | decide | omega)
  refine jq (N:=aam) F Q6 (by decide)  fun cdv A outer s H E B hr=>?_
  have hu:=yx hr
  have hq:=hr.units
  have nd:aam.Nodup:=Q6.nd
  refine cj ?_ ?_
  · refine Et ?_ ?_ ?_ ?_ ?_ ?_
    · exact PassesOwn.never
    · exact rfl
    · exact xr (ak 1 (pv 1))
    · exact qg 4 (gk nd rfl (Or.inl rfl))
    · exact fj (ud (j5 (m5 hq) (dg d_holds hr (by rfl) (aj (ak 4 (pv 4)) (aj (ak 2 (pv 2)) (aj (ak 3 (pv 3)) c7))) (au (au (au eq_nil)))) (ak 0 (pv 0)) (iz _))   (fj (j4 Qe))   jl)
    · exact xg
  · exact fj (j4 Qe)
theorem Ow {f_holds:Addr} {fd_holds:FuncData} {f_any_is:Addr} {fd_any_is:FuncData} (F_holds:Fun K "holds" "holds" Mw f_holds fd_holds) (h_holds:mg "holds" = some (.ref f_holds)) (F_any_is:Fun K "any_is" "any_is" Iu f_any_is fd_any_is) (h_any_is:mg "any_is" = some (.ref f_any_is)) (d_value:iw P w K mg base "value" 1 a1q _root_.K.Bf):∀ nn:Nat,iw P w K mg base "holds" (1+nn) a4f (_root_.K.tu nn)∧iw P w K mg base "any_is" (1+nn) a7h (_root_.K.Ca nn)
  | 0=>⟨iw.zero F_holds h_holds (F_holds.binds (ps:=a4f) fun _ _ _ _ _ _ us hl=>bd3 (fun _ _ _=>rfl) us hl),iw.zero F_any_is h_any_is (F_any_is.binds (ps:=a7h) fun _ _ _ _ _ _ us hl=>bd4 (fun _ _ _ _=>rfl) us hl)⟩
  | nn+1=>by
    have ih:=Ow F_holds h_holds F_any_is h_any_is d_value nn
    obtain ⟨d_holds,d_any_is⟩:=ih
    exact ⟨a2b F_holds h_holds d_any_is d_holds d_value,Yd F_any_is h_any_is d_holds⟩
abbrev Cg:Stmt:=top 12
theorem Ey:jc a4z a4z (dz Cg):=⟨rfl,rfl,rfl,by decide +kernel,rfl,by decide +kernel,by decide +kernel⟩
theorem Ld (F:Fun K "first_stand" "first_stand" Cg f fd) (hmg:mg "first_stand" = some (.ref f)) (b_tuple:mg "tuple" = none):iw P w K mg base "first_stand" 1 a4z _root_.K.jj:=by
  refine ⟨f,fd,?_,F.binds (ps:=a4z) fun _ _ _ _ _ _ us hl=>bd1 (fun _=>rfl) us hl,F.kp,hmg⟩
  refine jq (N:=a4z) F Ey (by decide)  fun cdv A outer s H E B hr=>?_
  have hu:=yx hr
  have hq:=hr.units
  have nd:a4z.Nodup:=Ey.nd
  refine fj ?_
  · refine j4 ?_
    · refine lu ?_ ?_
      · refine aj ?_ ?_
        · refine jh ?_
          · refine m8 mj ?_ ?_ PyProof.Rows.boot_tuple ?_
            · exact by rfl
            · exact b_tuple
            · refine aj ?_ ?_
              · refine qm ?_
                · refine yu (N:=["hand"]) ?_ ?_ ?_ ?_ ?_ ?_ ?_ ?_
                  · exact ⟨rfl,fun j k h=>match j,h with | _+0,h=>(by cases h)⟩
                  · exact ⟨rfl,rfl,by decide +kernel,by decide +kernel⟩
                  · exact rfl
                  · exact xr (gw hu (ak 0 (pv 0)) bf (fun _ _=>rfl))
                  · exact xg
                  · exact fun C s₀ H₀ ex pn=>pgE fun B=>(qg 0 (gk (show (["hand"]:List Str).Nodup by decide +kernel) rfl (Or.inl rfl)))
                  · exact fun C s₀ H₀ ex pn=>ql
                  · exact fun C s₀ H₀ ex pn=>peE fun B=>bf
              · exact c7
        · refine aj ?_ ?_
          · refine jh ?_
            · refine m8 mj ?_ ?_ PyProof.Rows.boot_tuple ?_
              · exact by rfl
              · exact b_tuple
              · refine aj ?_ ?_
                · refine qm ?_
                  · refine yu (N:=["box"]) ?_ ?_ ?_ ?_ ?_ ?_ ?_ ?_
                    · exact ⟨rfl,fun j k h=>match j,h with | _+0,h=>(by cases h)⟩
                    · exact ⟨rfl,rfl,by decide +kernel,by decide +kernel⟩
                    · exact rfl
                    · exact xr (gw hu (ak 0 (pv 0)) bf (fun _ _=>rfl))
                    · exact xg
                    · exact fun C s₀ H₀ ex pn=>pgE fun B=>(qg 0 (gk (show (["box"]:List Str).Nodup by decide +kernel) rfl (Or.inl rfl)))
                    · exact fun C s₀ H₀ ex pn=>ql
                    · exact fun C s₀ H₀ ex pn=>peE fun B=>(gw hu (ak 0 (pv 0)) bf (fun _ _=>rfl))
                · exact c7
          · exact c7
      · exact iy (bw (bw gj)) (by decide)
abbrev K7:Stmt:=top 14
theorem Lz:jc O6 O6 (dz K7):=⟨rfl,rfl,rfl,by decide +kernel,rfl,by decide +kernel,by decide +kernel⟩
theorem Wc (F:Fun K "book_of" "book_of" K7 f fd) (hmg:mg "book_of" = some (.ref f)) (b_dict:mg "dict" = none) (b_zip:mg "zip" = none):iw P w K mg base "book_of" 1 O6 _root_.K.Dp:=by
  refine ⟨f,fd,?_,F.binds (ps:=O6) fun _ _ _ _ _ _ us hl=>bd2 (fun _ _=>rfl) us hl,F.kp,hmg⟩
  refine jq (N:=O6) F Lz (by decide)  fun cdv A outer s H E B hr=>?_
  have hu:=yx hr
  have hq:=hr.units
  have nd:O6.Nodup:=Lz.nd
  refine fj ?_
  · refine j4 ?_
    · refine Gp ?_ ?_ ?_ ?_ ?_ ?_ ?_
      · exact rfl
      · exact by rfl
      · exact b_dict
      · exact by rfl
      · exact b_zip
      · refine qm ?_
        · refine yu (N:=["box"]) ?_ ?_ ?_ ?_ ?_ ?_ ?_ ?_
          · exact ⟨rfl,fun j k h=>match j,h with | _+0,h=>(by cases h)⟩
          · exact ⟨rfl,rfl,by decide +kernel,by decide +kernel⟩
          · exact rfl
          · exact xr (gw hu (ak 0 (pv 0)) bf (fun _ _=>rfl))
          · exact xg
          · exact fun C s₀ H₀ ex pn=>pgE fun B=>(qg 0 (gk (show (["box"]:List Str).Nodup by decide +kernel) rfl (Or.inl rfl)))
          · exact fun C s₀ H₀ ex pn=>ql
          · exact fun C s₀ H₀ ex pn=>peE fun B=>(gw hu (ak 0 (pv 0)) bf (fun _ _=>rfl))
      · exact gw hu (ak 1 (pv 1)) bf (fun _ _=>rfl)
abbrev Fx:Stmt:=top 15
theorem Hz:jc O6 O6 (dz Fx):=⟨rfl,rfl,rfl,by decide +kernel,rfl,by decide +kernel,by decide +kernel⟩
theorem Q7 (F:Fun K "places_of" "places_of" Fx f fd) (hmg:mg "places_of" = some (.ref f)) (b_dict:mg "dict" = none) (b_zip:mg "zip" = none):iw P w K mg base "places_of" 1 O6 _root_.K.Aj:=by
  refine ⟨f,fd,?_,F.binds (ps:=O6) fun _ _ _ _ _ _ us hl=>bd2 (fun _ _=>rfl) us hl,F.kp,hmg⟩
  refine jq (N:=O6) F Hz (by decide)  fun cdv A outer s H E B hr=>?_
  have hu:=yx hr
  have hq:=hr.units
  have nd:O6.Nodup:=Hz.nd
  refine fj ?_
  · refine j4 ?_
    · refine Gp ?_ ?_ ?_ ?_ ?_ ?_ ?_
      · exact rfl
      · exact by rfl
      · exact b_dict
      · exact by rfl
      · exact b_zip
      · refine qm ?_
        · refine yu (N:=["hand"]) ?_ ?_ ?_ ?_ ?_ ?_ ?_ ?_
          · exact ⟨rfl,fun j k h=>match j,h with | _+0,h=>(by cases h)⟩
          · exact ⟨rfl,rfl,by decide +kernel,by decide +kernel⟩
          · exact rfl
          · exact xr (gw hu (ak 0 (pv 0)) bf (fun _ _=>rfl))
          · exact xg
          · exact fun C s₀ H₀ ex pn=>pgE fun B=>(qg 0 (gk (show (["hand"]:List Str).Nodup by decide +kernel) rfl (Or.inl rfl)))
          · exact fun C s₀ H₀ ex pn=>ql
          · exact fun C s₀ H₀ ex pn=>peE fun B=>(gw hu (ak 0 (pv 0)) bf (fun _ _=>rfl))
      · exact gw hu (ak 1 (pv 1)) bf (fun _ _=>rfl)
abbrev Ai:Stmt:=top 17
theorem Cu:jc ll9 a9x (dz Ai):=⟨rfl,rfl,rfl,by decide +kernel,rfl,by decide +kernel,by decide +kernel⟩
theorem Ir (F:Fun K "values_behind" "values_behind" Ai f fd) (hmg:mg "values_behind" = some (.ref f)) (d_value:iw P w K mg base "value" 1 a1q (_root_.K.Bf)) (b_dict:mg "dict" = none) (b_tuple:mg "tuple" = none):iw P w K mg base "values_behind" 2 a9x _root_.K.qy:=by
  refine ⟨f,fd,?_,F.binds (ps:=a9x) fun _ _ _ _ _ _ us hl=>bd3 (fun _ _ _=>rfl) us hl,F.kp,hmg⟩
  have d_value:=d_value.mono (by decide:1≤1)
  refine jq (N:=ll9) F Cu (by decide)  fun cdv A outer s H E B hr=>?_
  have hu:=yx hr
  have hq:=hr.units
  have nd:ll9.Nodup:=Cu.nd
  refine cj ?_ ?_
  · exact jd 3 (iu nd rfl (Or.inl rfl) (jh (m8 (Mg (by rfl)) (by rfl) b_dict PyProof.Rows.boot_dict (aj (gw hu (ak 2 (pv 2)) bf (fun _ _=>rfl)) c7)))) (fun _ _ _ h=>h)
  · refine cj ?_ ?_
    · exact Ea 4 (iu nd rfl (Or.inl rfl) (Gh c7 (iy gj (by decide)))) (fun _ _ _ h=>h)
    · refine cj ?_ ?_
      · refine Et ?_ ?_ ?_ ?_ ?_ ?_
        · exact PassesOwn.never
        · exact rfl
        · exact xr (gw hu (ak 0 (pv 0)) bf (fun _ _=>rfl))
        · exact Dj (is:=[5,6,7,8,9]) (Dy rfl (j6 (gk nd rfl (Or.inl rfl)) (j6 (gk nd rfl (Or.inl rfl)) (j6 (gk nd rfl (Or.inl rfl)) (j6 (gk nd rfl (Or.inl rfl)) (j6 (gk nd rfl (Or.inl rfl)) Aw))))))
        · refine cj ?_ ?_
          · refine @jd _ _ _ _ (tOf _ _ _) _ ?_ (fun _ _ _ h=>h)
            · refine iu ?_ ?_ ?_ ?_
              · exact nd
              · exact rfl
              · exact Or.inl rfl
              · exact Nf (j5 (U6 hq) (ak 5 (pv 5)) (ak 3 (pv 3)) rfl) (dg d_value hr (by rfl) (aj (gw hu (ak 3 (pv 3)) (ak 5 (pv 5)) (fun _ _=>rfl)) (aj (ak 1 (pv 1)) c7)) (au (au eq_nil))) (gw hu (ak 1 (pv 1)) (ak 5 (pv 5)) (fun _ _=>rfl))
          · refine cj ?_ ?_
            · exact ud (PW.pt (R7 (j5 (U6 hq) (ak 5 (pv 5)) (ak 3 (pv 3)) rfl) (Jc (PW.pt (Zr (j5 Mf (ak 10 (pv 10)) (ak 7 (pv 7)) (iz _)) (Ul (j5 a00 (ak 10 (pv 10)) (ak 8 (pv 8)) (iz _))))))))   (fj (j4 Eo))   jl
            · exact fj (xq 4 (Ao (Ka PySem.F.plainAttrs_list PySem.F.slot_list_append PySem.F.type_list_append uq (pv 4) (jt (ak 10 (pv 10)) wz))))
        · exact xg
      · exact fj (j4 (jh (m8 mj (by rfl) b_tuple PyProof.Rows.boot_tuple (aj (ak 4 (pv 4)) c7))))
abbrev Am:Stmt:=top 18
theorem Cy:jc a6j a6j (dz Am):=⟨rfl,rfl,rfl,by decide +kernel,rfl,by decide +kernel,by decide +kernel⟩
theorem Il (F:Fun K "places_behind" "places_behind" Am f fd) (hmg:mg "places_behind" = some (.ref f)) (b_tuple:mg "tuple" = none):iw P w K mg base "places_behind" 1 a6j _root_.K.qp:=by
  refine ⟨f,fd,?_,F.binds (ps:=a6j) fun _ _ _ _ _ _ us hl=>bd2 (fun _ _=>rfl) us hl,F.kp,hmg⟩
  refine jq (N:=a6j) F Cy (by decide)  fun cdv A outer s H E B hr=>?_
  have hu:=yx hr
  have hq:=hr.units
  have nd:a6j.Nodup:=Cy.nd
  refine fj ?_
  · refine j4 ?_
    · refine jh ?_
      · refine m8 mj ?_ ?_ PyProof.Rows.boot_tuple ?_
        · exact by rfl
        · exact b_tuple
        · refine aj ?_ ?_
          · refine qm ?_
            · refine a3b (N:=aai) ?_ ?_ ?_ ?_ ?_ ?_ ?_
              · exact ⟨rfl,fun j k h=>match j,h with | 0,h=>(by cases h; exact ⟨_,rfl,rfl,⟨.inl rfl,.inr (.inl rfl),.inl rfl⟩⟩) | _+1,h=>(by cases h)⟩
              · exact ⟨rfl,rfl,by decide +kernel,by decide +kernel⟩
              · exact rfl
              · exact pv 0
              · exact fun C s₀ H₀ ex pn=>pgE fun B=>(Dj (is:=[0,1]) (Dy rfl (j6 (gk (show aai.Nodup by decide +kernel) rfl (Or.inl rfl)) (j6 (gk (show aai.Nodup by decide +kernel) rfl (Or.inl rfl)) Aw))))
              · exact fun C s₀ H₀ ex pn=>ql
              · exact fun C s₀ H₀ ex pn=>peE fun B=>(Nf (j5 (m5 hq) (ak 0 (pv 0)) (gw hu (ak 2 (pv 2)) bf (fun _ _=>rfl)) (iz _)) (gw hu (ak 2 (pv 2)) bf (fun _ _=>rfl)) (ak 1 (pv 1)))
          · exact c7
abbrev Rm:Stmt:=top 16
theorem Uq:jc abr O6 (dz Rm):=⟨rfl,rfl,rfl,by decide +kernel,rfl,by decide +kernel,by decide +kernel⟩
theorem a2z (F:Fun K "moves" "moves" Rm f fd) (hmg:mg "moves" = some (.ref f)) (d_book_of:iw P w K mg base "book_of" 1 O6 (_root_.K.Dp)) (d_holds:iw P w K mg base "holds" 41 a4f (_root_.K.tu 40)) (d_places_behind:iw P w K mg base "places_behind" 1 a6j (_root_.K.qp)) (d_places_of:iw P w K mg base "places_of" 1 O6 (_root_.K.Aj)) (d_values_behind:iw P w K mg base "values_behind" 2 a9x (_root_.K.qy)) (b_enumerate:mg "enumerate" = none):iw P w K mg base "moves" 42 O6 _root_.K.Dm:=by
  refine ⟨f,fd,?_,F.binds (ps:=O6) fun _ _ _ _ _ _ us hl=>bd2 (fun _ _=>rfl) us hl,F.kp,hmg⟩
  have d_book_of:=d_book_of.mono (by decide:1≤41)
  have d_holds:=d_holds.mono (by decide:41≤41)
  have d_places_behind:=d_places_behind.mono (by decide:1≤41)
  have d_places_of:=d_places_of.mono (by decide:1≤41)
  have d_values_behind:=d_values_behind.mono (by decide:2≤41)
  refine jq (N:=abr) F Uq (by decide)  fun cdv A outer s H E B hr=>?_
  have hu:=yx hr
  have hq:=hr.units
  have nd:abr.Nodup:=Uq.nd
  refine cj ?_ ?_
  · exact jd 2 (iu nd rfl (Or.inl rfl) (dg d_book_of hr (by rfl) (aj (ak 0 (pv 0)) (aj (ak 1 (pv 1)) c7)) (au (au eq_nil)))) (fun _ _ _ h=>h)
  · refine cj ?_ ?_
    · exact jd 3 (iu nd rfl (Or.inl rfl) (dg d_places_of hr (by rfl) (aj (ak 0 (pv 0)) (aj (ak 1 (pv 1)) c7)) (au (au eq_nil)))) (fun _ _ _ h=>h)
    · refine cj ?_ ?_
      · exact Ea 4 (iu nd rfl (Or.inl rfl) (Gh c7 (iy gj (by decide)))) (fun _ _ _ h=>h)
      · refine cj ?_ ?_
        · refine Et ?_ ?_ ?_ ?_ ?_ ?_
          · exact PassesOwn.never
          · exact rfl
          · exact X7 (by rfl) b_enumerate (gw hu (ak 0 (pv 0)) bf (fun _ _=>rfl))
          · exact Dj (is:=[5,6]) (Dy rfl (j6 (gk nd rfl (Or.inl rfl)) (j6 (gk nd rfl (Or.inl rfl)) Aw)))
          · refine fj ?_
            · refine ud ?_ ?_ ?_
              · refine PW.pt ?_
                · refine R7 ?_ ?_
                  · exact j5 (m5 hq) (gw hu (ak 3 (pv 3)) (gw hu (ak 6 (pv 6)) bf (fun _ _=>rfl)) (fun _ _=>rfl)) (gw hu (ak 6 (pv 6)) bf (fun _ _=>rfl)) (iz _)
                  · exact Jc (Ze (dg d_holds hr (by rfl) (aj (gw hu (ak 6 (pv 6)) bf (fun _ _=>rfl)) (aj (ak 2 (pv 2)) (aj (ak 3 (pv 3)) c7))) (au (au (au eq_nil)))))
              · refine cj ?_ ?_
                · exact jd 7 (iu nd rfl (Or.inl rfl) (dg d_values_behind hr (by rfl) (aj (ak 0 (pv 0)) (aj (ak 2 (pv 2)) (aj (ak 6 (pv 6)) c7))) (au (au (au eq_nil))))) (fun _ _ _ h=>h)
                · refine fj ?_
                  · refine ud ?_ ?_ ?_
                    · exact j5 Jo (ak 7 (pv 7)) Eo (iz _)
                    · refine fj ?_
                      · refine xq _ ?_
                        · refine Ao ?_
                          · refine Ka PySem.F.plainAttrs_list PySem.F.slot_list_append PySem.F.type_list_append uq ?_ ?_
                            · exact pv 4
                            · refine jt ?_ ?_
                              · refine lu ?_ ?_
                                · exact aj (ak 5 (pv 5)) (aj (lu (aj (dg d_places_behind hr (by rfl) (aj (ak 3 (pv 3)) (aj (ak 6 (pv 6)) c7)) (au (au eq_nil))) (aj (ak 7 (pv 7)) c7)) (iy (bw (bw gj)) (by decide))) c7)
                                · exact iy (bw (bw gj)) (by decide)
                              · exact wz
                    · exact jl
              · exact jl
          · exact a06
        · exact fj (j4 (ak 4 (pv 4)))
abbrev T9:Stmt:=top 13
theorem Um:jc ab7 a7g (dz T9):=⟨rfl,rfl,rfl,by decide +kernel,rfl,by decide +kernel,by decide +kernel⟩
theorem a2y {C_NoStep:Addr} (F:Fun K "woven" "woven" T9 f fd) (hmg:mg "woven" = some (.ref f)) (d_first_stand:iw P w K mg base "first_stand" 1 a4z _root_.K.jj) (d_moves:iw P w K mg base "moves" 42 O6 _root_.K.Dm) (r_NoStep:XR P w K mg base "NoStep" C_NoStep "place" "place") (b_dict:mg "dict" = none) (b_enumerate:mg "enumerate" = none):Gi P w K mg base "woven" 43 a7g C_NoStep "place" _root_.K.yw:=by
  refine ⟨f,fd,?_,F.binds (ps:=a7g) fun _ _ _ _ _ _ us hl=>bd2 (fun _ _=>rfl) us hl,F.kp,hmg⟩
  have d_first_stand:=d_first_stand.mono (show 1≤42 by decide)
  have d_moves:=d_moves.mono (show 42≤42 by decide)
  refine a1y (N:=ab7) F Um (by decide) fun cdv A outer s H E B hr=>?_
  have hu:=yx hr
  have hq:=hr.units
  have nd:ab7.Nodup:=Um.nd
  have hr2:=hr.mono (show 2≤42 by decide)
  refine Nq ?_ ?_
  · exact Nk (Ea 2 (iu nd rfl (Or.inl rfl) (Gh (aj (dg d_first_stand hr (by rfl) (aj (ak 0 (pv 0)) c7) (au eq_nil)) c7) (iy (bw gj) (by decide)))) (fun _ _ _ h=>h))
  · refine Nq ?_ ?_
    · refine a7p ?_ ?_ ?_ ?_ ?_ ?_
      · exact PassesOwn.leaving
      · exact rfl
      · exact X7 (by rfl) b_enumerate (ak 1 (pv 1))
      · exact Dj (is:=[3,4]) (Dy rfl (j6 (gk nd rfl (Or.inl rfl)) (j6 (gk nd rfl (Or.inl rfl)) Aw)))
      · refine Nq ?_ ?_
        · refine Nk ?_
          · refine @jd _ _ _ _ (tOf _ _ _) _ ?_ (fun _ _ _ h=>h)
            · exact iu nd rfl (Or.inl rfl) (jh (m8 (Mg (by rfl)) (by rfl) b_dict PyProof.Rows.boot_dict (aj (dg d_moves hr (by rfl) (aj (ak 0 (pv 0)) (aj (Nx 2 (pv 2) (Zx Kg bf) (fun _ _=>rfl)) c7)) (au (au eq_nil))) c7)))
        · refine Nq ?_ ?_
          · exact aar (j5 (Jp hq) (ak 4 (pv 4)) (ak 5 (pv 5)) rfl)   (Zz (X5 r_NoStep ab6 hr2 (by rfl) (ak 3 (pv 3))))   (a1x jl)
          · exact Zz (Nk (xq 2 (Ao (Ka PySem.F.plainAttrs_list PySem.F.slot_list_append PySem.F.type_list_append uq (pv 2) (jt (gw hu (ak 5 (pv 5)) (ak 4 (pv 4)) (fun _ _=>rfl)) wz)))))
      · exact a06
    · exact Zz (Nk (j4 (ak 2 (pv 2))))
abbrev Br:Stmt:=top 20
theorem Ew:jc a73 a73 (dz Br):=⟨rfl,rfl,rfl,by decide +kernel,rfl,by decide +kernel,by decide +kernel⟩
theorem Lk (F:Fun K "_law_cell_at" "_law_cell_at" Br f fd) (hmg:mg "_law_cell_at" = some (.ref f)) (b_len:mg "len" = none):iw P w K mg base "_law_cell_at" 1 a73 _root_.K.kj:=by
  refine ⟨f,fd,?_,F.binds (ps:=a73) fun _ _ _ _ _ _ us hl=>bd2 (fun _ _=>rfl) us hl,F.kp,hmg⟩
  refine jq (N:=a73) F Ew (by decide)  fun cdv A outer s H E B hr=>?_
  have hu:=yx hr
  have hq:=hr.units
  have nd:a73.Nodup:=Ew.nd
  exact cj (ud (j5 Mf (ak 1 (pv 1)) (jh (u6 Ah (by rfl) b_len PySem.boot_len (aj (ak 0 (pv 0)) c7))) (iz _))   (fj (j4 (gw hu (ak 0 (pv 0)) (ak 1 (pv 1)) (fun _ _=>rfl))))   jl)   (fj (j4 bf))
abbrev Hl:Stmt:=top 21
theorem K5:jc abx a2d (dz Hl):=⟨rfl,rfl,rfl,by decide +kernel,rfl,by decide +kernel,by decide +kernel⟩
theorem Rk (F:Fun K "_law_pick" "_law_pick" Hl f fd) (hmg:mg "_law_pick" = some (.ref f)) (b_len:mg "len" = none):iw P w K mg base "_law_pick" 1 a2d _root_.K.dh:=by
  refine ⟨f,fd,?_,F.binds (ps:=a2d) fun _ _ _ _ _ _ us hl=>bd2 (fun _ _=>rfl) us hl,F.kp,hmg⟩
  refine jq (N:=abx) F K5 (by decide)  fun cdv A outer s H E B hr=>?_
  have hu:=yx hr
  have hq:=hr.units
  have nd:abx.Nodup:=K5.nd
  refine cj ?_ ?_
  · refine ud ?_ ?_ ?_
    · exact j5 (m5 hq) (Yy (by rfl) b_len (ak 0 (pv 0))) bf (iz _)
    · exact fj (a07 0 (Ao (Ka PySem.F.plainAttrs_list PySem.F.slot_list_append PySem.F.type_list_append uq (pv 0) (jt (Ad (ak 0 (pv 0)) bf (fun _ _=>rfl)) wz))))
    · exact jl
  · refine cj ?_ ?_
    · refine ud ?_ ?_ ?_
      · refine PW.pt ?_
        · refine R7 ?_ ?_
          · exact j5 (m5 hq) (Ad (ak 0 (pv 0)) bf (fun _ _=>rfl)) bf (iz _)
          · exact Jc (j5 (U6 hq) (Ad (ak 0 (pv 0)) bf (fun _ _=>rfl)) (Eu (aj bf (aj (Zx Kg bf) c7)) (iy (bw (bw gj)) (by decide))) rfl)
      · exact cj (Iw (Hu (j8 sy (Ad (ak 0 (pv 0)) bf (fun _ _=>rfl)) bf) (Tj (ak 0 (pv 0)) bf set_list)))   (fj (Iw (Hu bf (Tj (ak 0 (pv 0)) bf set_list))))
      · exact jl
    · refine cj ?_ ?_
      · refine ud ?_ ?_ ?_
        · exact j5 (m5 hq) (Ad (ak 0 (pv 0)) bf (fun _ _=>rfl)) bf (iz _)
        · refine cj ?_ ?_
          · exact jd 2 (iu nd rfl (Or.inl rfl) (j8 v7 (Ad (ak 0 (pv 0)) bf (fun _ _=>rfl)) (ak 1 (pv 1)))) (fun _ _ _ h=>h)
          · exact cj (Iw (Hu (j8 Bb (Ad (ak 0 (pv 0)) bf (fun _ _=>rfl)) (ak 1 (pv 1))) (Tj (ak 0 (pv 0)) bf set_list)))   (fj (j4 (ak 2 (pv 2))))
        · exact jl
      · refine cj ?_ ?_
        · exact Iw (Hu (j8 v7 (j8 sy (j8 Bu (j8 v7 (Ad (ak 0 (pv 0)) bf (fun _ _=>rfl)) bf) bf) bf) bf) (Tj (ak 0 (pv 0)) bf set_list))
        · exact fj (j4 (j8 v7 (j8 Bb (j8 v7 (j8 Bu (Ad (ak 0 (pv 0)) bf (fun _ _=>rfl)) bf) bf) bf) (ak 1 (pv 1))))
abbrev Gz:Stmt:=top 22
theorem Jd:jc abm a9g (dz Gz):=⟨rfl,rfl,rfl,by decide +kernel,rfl,by decide +kernel,by decide +kernel⟩
theorem Rh (F:Fun K "_law_name" "_law_name" Gz f fd) (hmg:mg "_law_name" = some (.ref f)):iw P w K mg base "_law_name" 1 a9g _root_.K.wj:=by
  refine ⟨f,fd,?_,F.binds (ps:=a9g) fun _ _ _ _ _ _ us hl=>bd2 (fun _ _=>rfl) us hl,F.kp,hmg⟩
  refine jq (N:=abm) F Jd (by decide)  fun cdv A outer s H E B hr=>?_
  have hu:=yx hr
  have hq:=hr.units
  have nd:abm.Nodup:=Jd.nd
  refine cj ?_ ?_
  · refine ud ?_ ?_ ?_
    · exact j5 (m5 hq) (j8 v7 (j8 Bb (ak 0 (pv 0)) bf) bf) bf (iz _)
    · refine fj ?_
      · refine j4 ?_
        · refine gw ?_ ?_ ?_ ?_
          · exact hu
          · refine Eu ?_ ?_
            · exact Yl (.cons (.cons (.cons (.cons (.cons (.cons (.cons (.cons (.cons (.cons .nil))))))))))
            · exact iy (len_strs _) (by decide)
          · exact j8 v7 (ak 1 (pv 1)) bf
          · exact fun _ _=>rfl
    · exact jl
  · refine cj ?_ ?_
    · exact jd 2 (iu nd rfl (Or.inl rfl) (j8 sy bf (j8 v7 (ak 0 (pv 0)) bf))) (fun _ _ _ h=>h)
    · refine cj ?_ ?_
      · exact jd 3 (iu nd rfl (Or.inl rfl) (j8 v7 (j8 Bb (ak 0 (pv 0)) bf) (ak 2 (pv 2)))) (fun _ _ _ h=>h)
      · refine fj ?_
        · refine j4 ?_
          · refine j8 ?_ ?_ ?_
            · exact sy
            · exact j8 sy (j8 Bu mq (ak 3 (pv 3))) (gw hu mq (j8 v7 (j8 sy (j8 Bu bf (ak 1 (pv 1))) (j8 Bb (ak 0 (pv 0)) bf)) bf) (fun _ _=>rfl))
            · exact j8 Bu mq (j8 yr (j8 yr (ak 2 (pv 2)) bf) (ak 3 (pv 3)))
abbrev Kl:Stmt:=top 23
theorem Mr:jc abq a9k (dz Kl):=⟨rfl,rfl,rfl,by decide +kernel,rfl,by decide +kernel,by decide +kernel⟩
theorem Vm (F:Fun K "_law_sum" "_law_sum" Kl f fd) (hmg:mg "_law_sum" = some (.ref f)) (d_law_pick:iw P w K mg base "_law_pick" 1 a2d (_root_.K.dh)) (b_sorted:mg "sorted" = none) (b_tuple:mg "tuple" = none):iw P w K mg base "_law_sum" 2 a9k _root_.K.Av:=by
  refine ⟨f,fd,?_,F.binds (ps:=a9k) fun _ _ _ _ _ _ us hl=>bd2 (fun _ _=>rfl) us hl,F.kp,hmg⟩
  have d_law_pick:=d_law_pick.mono (by decide:1≤1)
  refine jq (N:=abq) F Mr (by decide)  fun cdv A outer s H E B hr=>?_
  have hu:=yx hr
  have hq:=hr.units
  have nd:abq.Nodup:=Mr.nd
  refine cj ?_ ?_
  · exact jd 2 (iu nd rfl (Or.inl rfl) (j8 yr (dg d_law_pick hr (by rfl) (aj (ak 0 (pv 0)) (aj bf c7)) (au (au eq_nil))) bf)) (fun _ _ _ h=>h)
  · refine cj ?_ ?_
    · refine ud ?_ ?_ ?_
      · exact j5 (m5 hq) (dg d_law_pick hr (by rfl) (aj (ak 0 (pv 0)) (aj bf c7)) (au (au eq_nil))) bf (iz _)
      · refine fj ?_
        · refine @jd _ _ _ _ (tOf _ _ _) _ ?_ (fun _ _ _ h=>h)
          · exact iu nd rfl (Or.inl rfl) (j8 yr (dg d_law_pick hr (by rfl) (aj (ak 0 (pv 0)) (aj (j8 yr (j8 Bu bf (j8 Ni bf bf)) bf) c7)) (au (au eq_nil))) (j8 yr (j8 Ni bf bf) bf))
      · exact jl
    · refine cj ?_ ?_
      · exact Ea 3 (iu nd rfl (Or.inl rfl) (Gh c7 (iy gj (by decide)))) (fun _ _ _ h=>h)
      · refine cj ?_ ?_
        · refine Et ?_ ?_ ?_ ?_ ?_ ?_
          · exact PassesOwn.never
          · exact rfl
          · exact xr (jh (u6 (Hv (by rfl)) (by rfl) b_sorted PyProof.Rows.boot_sorted (aj (ak 1 (pv 1)) c7)))
          · exact qg 4 (gk nd rfl (Or.inl rfl))
          · refine cj ?_ ?_
            · refine @jd _ _ _ _ (tOf _ _ _) _ ?_ (fun _ _ _ h=>h)
              · refine iu ?_ ?_ ?_ ?_
                · exact nd
                · exact rfl
                · exact Or.inl rfl
                · refine gw ?_ ?_ ?_ ?_
                  · exact hu
                  · refine Eu ?_ ?_
                    · exact aj bf (aj bf (aj bf (aj bf (aj (Zx Kg bf) (aj bf (aj (j8 yr (dg d_law_pick hr (by rfl) (aj (ak 0 (pv 0)) (aj bf c7)) (au (au eq_nil))) bf) c7))))))
                    · exact iy (bw (bw (bw (bw (bw (bw (bw gj))))))) (by decide)
                  · exact dg d_law_pick hr (by rfl) (aj (ak 0 (pv 0)) (aj bf c7)) (au (au eq_nil))
                  · exact fun _ _=>rfl
            · refine fj ?_
              · refine ud ?_ ?_ ?_
                · exact j5 (Oh hq) (ak 5 (pv 5)) bf (iz _)
                · exact fj (xq 3 (Ao (Ka PySem.F.plainAttrs_list PySem.F.slot_list_append PySem.F.type_list_append uq (pv 3) (jt (lu (aj (ak 4 (pv 4)) (aj (ak 5 (pv 5)) c7)) (iy (bw (bw gj)) (by decide))) wz))))
                · exact jl
          · exact xg
        · exact fj (j4 (lu (aj (ak 2 (pv 2)) (aj (jh (m8 mj (by rfl) b_tuple PyProof.Rows.boot_tuple (aj (ak 3 (pv 3)) c7))) c7)) (iy (bw (bw gj)) (by decide))))
abbrev Ds:Stmt:=top 24
theorem Ga:jc ll6 Wq (dz Ds):=⟨rfl,rfl,rfl,by decide +kernel,rfl,by decide +kernel,by decide +kernel⟩
theorem Mu (F:Fun K "_law_simple" "_law_simple" Ds f fd) (hmg:mg "_law_simple" = some (.ref f)) (d_law_pick:iw P w K mg base "_law_pick" 1 a2d (_root_.K.dh)) (d_law_sum:iw P w K mg base "_law_sum" 2 a9k (_root_.K.Av)) (b_len:mg "len" = none):iw P w K mg base "_law_simple" 3 Wq _root_.K.qe:=by
  refine ⟨f,fd,?_,F.binds (ps:=Wq) fun _ _ _ _ _ _ us hl=>bd3 (fun _ _ _=>rfl) us hl,F.kp,hmg⟩
  have d_law_pick:=d_law_pick.mono (by decide:1≤2)
  have d_law_sum:=d_law_sum.mono (by decide:2≤2)
  refine jq (N:=ll6) F Ga (by decide)  fun cdv A outer s H E B hr=>?_
  have hu:=yx hr
  have hq:=hr.units
  have nd:ll6.Nodup:=Ga.nd
  refine cj ?_ ?_
  · exact jd 3 (iu nd rfl (Or.inl rfl) (dg d_law_pick hr (by rfl) (aj (ak 0 (pv 0)) (aj bf c7)) (au (au eq_nil)))) (fun _ _ _ h=>h)
  · refine cj ?_ ?_
    · refine ud ?_ ?_ ?_
      · exact j5 (m5 hq) (ak 3 (pv 3)) bf (iz _)
      · refine cj ?_ ?_
        · refine a2v ?_
          · refine Hu ?_ ?_
            · exact gw hu (ak 2 (pv 2)) (dg d_law_pick hr (by rfl) (aj (ak 0 (pv 0)) (aj (jh (u6 Ah (by rfl) b_len PySem.boot_len (aj (ak 2 (pv 2)) c7))) c7)) (au (au eq_nil))) (fun _ _=>rfl)
            · exact Dj (is:=[4,5]) (Dy rfl (j6 (gk nd rfl (Or.inl rfl)) (j6 (gk nd rfl (Or.inl rfl)) Aw)))
        · exact fj (j4 (lu (aj mq (aj (ak 4 (pv 4)) (aj (dg d_law_pick hr (by rfl) (aj (ak 0 (pv 0)) (aj (ak 5 (pv 5)) c7)) (au (au eq_nil))) c7))) (iy (bw (bw (bw gj))) (by decide))))
      · exact jl
    · refine cj ?_ ?_
      · exact jd 6 (iu nd rfl (Or.inl rfl) (dg d_law_sum hr (by rfl) (aj (ak 0 (pv 0)) (aj (ak 1 (pv 1)) c7)) (au (au eq_nil)))) (fun _ _ _ h=>h)
      · refine cj ?_ ?_
        · refine ud ?_ ?_ ?_
          · exact j5 (m5 hq) (ak 3 (pv 3)) bf (iz _)
          · exact fj (j4 (lu (aj mq (aj (ak 6 (pv 6)) (aj (j8 sy bf (dg d_law_pick hr (by rfl) (aj (ak 0 (pv 0)) (aj bf c7)) (au (au eq_nil)))) c7))) (iy (bw (bw (bw gj))) (by decide))))
          · exact jl
        · exact fj (j4 (lu (aj mq (aj (ak 6 (pv 6)) c7)) (iy (bw (bw gj)) (by decide))))
abbrev Dl:Stmt:=top 25
theorem G7:jc ll7 Wq (dz Dl):=⟨rfl,rfl,rfl,by decide +kernel,rfl,by decide +kernel,by decide +kernel⟩
theorem Nh (F:Fun K "_law_remark" "_law_remark" Dl f fd) (hmg:mg "_law_remark" = some (.ref f)) (d_law_pick:iw P w K mg base "_law_pick" 1 a2d (_root_.K.dh)) (d_law_simple:iw P w K mg base "_law_simple" 3 Wq (_root_.K.qe)) (b_range:mg "range" = none) (b_tuple:mg "tuple" = none):iw P w K mg base "_law_remark" 4 Wq _root_.K.zp:=by
  refine ⟨f,fd,?_,F.binds (ps:=Wq) fun _ _ _ _ _ _ us hl=>bd3 (fun _ _ _=>rfl) us hl,F.kp,hmg⟩
  have d_law_pick:=d_law_pick.mono (by decide:1≤3)
  have d_law_simple:=d_law_simple.mono (by decide:3≤3)
  refine jq (N:=ll7) F G7 (by decide)  fun cdv A outer s H E B hr=>?_
  have hu:=yx hr
  have hq:=hr.units
  have nd:ll7.Nodup:=G7.nd
  refine cj ?_ ?_
  · exact jd 3 (iu nd rfl (Or.inl rfl) (dg d_law_pick hr (by rfl) (aj (ak 0 (pv 0)) (aj bf c7)) (au (au eq_nil)))) (fun _ _ _ h=>h)
  · refine cj ?_ ?_
    · exact ud (j5 Mf (ak 3 (pv 3)) bf (iz _))   (fj (j4 (lu (aj mq (aj (lu c7 (iy gj (by decide))) c7)) (iy (bw (bw gj)) (by decide)))))   jl
    · refine cj ?_ ?_
      · exact jd 4 (iu nd rfl (Or.inl rfl) (dg d_law_simple hr (by rfl) (aj (ak 0 (pv 0)) (aj (ak 1 (pv 1)) (aj (ak 2 (pv 2)) c7))) (au (au (au eq_nil))))) (fun _ _ _ h=>h)
      · refine cj ?_ ?_
        · exact ud (j5 Mf (ak 3 (pv 3)) bf (iz _))   (fj (j4 (ak 4 (pv 4))))   jl
        · refine cj ?_ ?_
          · exact ud (j5 (m5 hq) (ak 3 (pv 3)) bf (iz _))   (fj (j4 (lu (aj mq (aj (ak 4 (pv 4)) c7)) (iy (bw (bw gj)) (by decide)))))   jl
          · refine cj ?_ ?_
            · refine @jd _ _ _ _ (tOf _ _ _) _ ?_ (fun _ _ _ h=>h)
              · refine iu ?_ ?_ ?_ ?_
                · exact nd
                · exact rfl
                · exact Or.inl rfl
                · refine lu ?_ ?_
                  · refine aj ?_ ?_
                    · exact gw hu (Eu (aj mq (aj mq c7)) (iy (bw (bw gj)) (by decide))) (j8 v7 (ak 3 (pv 3)) bf) (fun _ _=>rfl)
                    · exact aj (lu (aj (ak 4 (pv 4)) (aj (dg d_law_simple hr (by rfl) (aj (ak 0 (pv 0)) (aj (ak 1 (pv 1)) (aj (ak 2 (pv 2)) c7))) (au (au (au eq_nil)))) c7)) (iy (bw (bw gj)) (by decide))) c7
                  · exact iy (bw (bw gj)) (by decide)
            · refine cj ?_ ?_
              · exact ud (j5 Mf (ak 3 (pv 3)) bf (iz _))   (fj (j4 (ak 5 (pv 5))))   jl
              · refine cj ?_ ?_
                · refine ud ?_ ?_ ?_
                  · exact j5 (m5 hq) (ak 3 (pv 3)) bf (iz _)
                  · refine fj ?_
                    · refine j4 ?_
                      · refine lu ?_ ?_
                        · refine aj ?_ ?_
                          · exact mq
                          · refine aj ?_ ?_
                            · refine lu ?_ ?_
                              · refine aj ?_ ?_
                                · exact gw hu (Eu (aj mq (aj mq c7)) (iy (bw (bw gj)) (by decide))) (dg d_law_pick hr (by rfl) (aj (ak 0 (pv 0)) (aj bf c7)) (au (au eq_nil))) (fun _ _=>rfl)
                                · exact aj (gw hu (ak 5 (pv 5)) bf (fun _ _=>rfl)) c7
                              · exact iy (bw (bw gj)) (by decide)
                            · exact c7
                        · exact iy (bw (bw gj)) (by decide)
                  · exact jl
                · refine cj ?_ ?_
                  · refine ud ?_ ?_ ?_
                    · exact j5 (m5 hq) (ak 3 (pv 3)) bf (iz _)
                    · refine fj ?_
                      · refine j4 ?_
                        · refine lu ?_ ?_
                          · refine aj ?_ ?_
                            · exact gw hu (Eu (aj mq (aj mq c7)) (iy (bw (bw gj)) (by decide))) (dg d_law_pick hr (by rfl) (aj (ak 0 (pv 0)) (aj bf c7)) (au (au eq_nil))) (fun _ _=>rfl)
                            · refine aj ?_ ?_
                              · refine lu ?_ ?_
                                · exact aj (lu (aj mq (aj (ak 5 (pv 5)) c7)) (iy (bw (bw gj)) (by decide))) (aj (dg d_law_simple hr (by rfl) (aj (ak 0 (pv 0)) (aj (ak 1 (pv 1)) (aj (ak 2 (pv 2)) c7))) (au (au (au eq_nil)))) c7)
                                · exact iy (bw (bw gj)) (by decide)
                              · exact c7
                          · exact iy (bw (bw gj)) (by decide)
                    · exact jl
                  · refine cj ?_ ?_
                    · refine @jd _ _ _ _ (tOf _ _ _) _ ?_ (fun _ _ _ h=>h)
                      · refine iu ?_ ?_ ?_ ?_
                        · exact nd
                        · exact rfl
                        · exact Or.inl rfl
                        · refine jh ?_
                          · refine m8 mj ?_ ?_ PyProof.Rows.boot_tuple ?_
                            · exact by rfl
                            · exact b_tuple
                            · refine aj ?_ ?_
                              · refine qm ?_
                                · refine yu (N:=abz) ?_ ?_ ?_ ?_ ?_ ?_ ?_ ?_
                                  · refine ⟨rfl,fun j k h=>match j,h with | 0,h=>(by cases h; exact ⟨_,rfl,rfl,⟨.inl rfl,.inr (.inl rfl),.inl rfl⟩⟩) | 1,h=>(by cases h; exact ⟨_,rfl,rfl,⟨.inl rfl,.inr (.inl rfl),.inl rfl⟩⟩) | 2,h=>(by cases h; exact ⟨_,rfl,rfl,⟨.inl rfl,.inr (.inl rfl),.inl rfl⟩⟩) | _+3,h=>(by cases h)⟩
                                  · exact ⟨rfl,rfl,by decide +kernel,by decide +kernel⟩
                                  · exact rfl
                                  · exact J5 (by rfl) b_range (j8 sy bf (dg d_law_pick hr (by rfl) (aj (ak 0 (pv 0)) (aj bf c7)) (au (au eq_nil))))
                                  · exact Iv
                                  · exact fun C s₀ H₀ ex pn=>pgE fun B=>(qg 0 (gk (show abz.Nodup by decide +kernel) rfl (Or.inl rfl)))
                                  · exact fun C s₀ H₀ ex pn=>ql
                                  · exact fun C s₀ H₀ ex pn=>peE fun B=>(dg d_law_simple hr (by rfl) (aj (ak 1 (pv 1)) (aj (ak 2 (pv 2)) (aj (ak 3 (pv 3)) c7))) (au (au (au eq_nil))))
                              · exact c7
                    · refine fj ?_
                      · refine j4 ?_
                        · refine lu ?_ ?_
                          · refine aj ?_ ?_
                            · exact gw hu (Eu (aj mq (aj mq c7)) (iy (bw (bw gj)) (by decide))) (dg d_law_pick hr (by rfl) (aj (ak 0 (pv 0)) (aj bf c7)) (au (au eq_nil))) (fun _ _=>rfl)
                            · exact aj (j8 sy (gw hu (ak 5 (pv 5)) bf (fun _ _=>rfl)) (ak 6 (pv 6))) c7
                          · exact iy (bw (bw gj)) (by decide)
abbrev Fi:Stmt:=top 26
theorem Hq:jc ll8 a9r (dz Fi):=⟨rfl,rfl,rfl,by decide +kernel,rfl,by decide +kernel,by decide +kernel⟩
theorem Pz (F:Fun K "_law_boxes" "_law_boxes" Fi f fd) (hmg:mg "_law_boxes" = some (.ref f)) (d_law_name:iw P w K mg base "_law_name" 1 a9g (_root_.K.wj)) (d_law_pick:iw P w K mg base "_law_pick" 1 a2d (_root_.K.dh)) (b_range:mg "range" = none):iw P w K mg base "_law_boxes" 2 a9r _root_.K.Ak:=by
  refine ⟨f,fd,?_,F.binds (ps:=a9r) fun _ _ _ _ _ _ us hl=>bd3 (fun _ _ _=>rfl) us hl,F.kp,hmg⟩
  have d_law_name:=d_law_name.mono (by decide:1≤1)
  have d_law_pick:=d_law_pick.mono (by decide:1≤1)
  refine jq (N:=ll8) F Hq (by decide)  fun cdv A outer s H E B hr=>?_
  have hu:=yx hr
  have hq:=hr.units
  have nd:ll8.Nodup:=Hq.nd
  refine cj ?_ ?_
  · exact Ea 3 (iu nd rfl (Or.inl rfl) (Gh c7 (iy gj (by decide)))) (fun _ _ _ h=>h)
  · refine cj ?_ ?_
    · refine Et ?_ ?_ ?_ ?_ ?_ ?_
      · exact PassesOwn.never
      · exact rfl
      · exact J5 (by rfl) b_range (ak 2 (pv 2))
      · exact qg 4 (gk nd rfl (Or.inl rfl))
      · refine cj ?_ ?_
        · exact jd 5 (iu nd rfl (Or.inl rfl) (j8 yr (dg d_law_pick hr (by rfl) (aj (ak 0 (pv 0)) (aj bf c7)) (au (au eq_nil))) bf)) (fun _ _ _ h=>h)
        · refine cj ?_ ?_
          · refine ud ?_ ?_ ?_
            · exact j5 (m5 hq) (dg d_law_pick hr (by rfl) (aj (ak 0 (pv 0)) (aj bf c7)) (au (au eq_nil))) bf (iz _)
            · exact fj (jd 5 (iu nd rfl (Or.inl rfl) (j8 yr (dg d_law_pick hr (by rfl) (aj (ak 0 (pv 0)) (aj (j8 yr (j8 Bu bf (j8 Ni bf bf)) bf) c7)) (au (au eq_nil))) (j8 Ni bf bf))) (fun _ _ _ h=>h))
            · exact jl
          · refine cj ?_ ?_
            · exact jd 6 (iu nd rfl (Or.inl rfl) (j8 sy (ak 5 (pv 5)) (dg d_law_pick hr (by rfl) (aj (ak 0 (pv 0)) (aj bf c7)) (au (au eq_nil))))) (fun _ _ _ h=>h)
            · refine fj ?_
              · refine xq _ ?_
                · refine Ao ?_
                  · refine Ka PySem.F.plainAttrs_list PySem.F.slot_list_append PySem.F.type_list_append uq ?_ ?_
                    · exact pv 3
                    · refine jt ?_ ?_
                      · refine lu ?_ ?_
                        · refine aj ?_ ?_
                          · exact dg d_law_name hr (by rfl) (aj (ak 1 (pv 1)) (aj (ak 4 (pv 4)) c7)) (au (au eq_nil))
                          · refine aj ?_ ?_
                            · exact mq
                            · exact aj (ak 5 (pv 5)) (aj (ak 6 (pv 6)) (aj (j8 sy (ak 5 (pv 5)) (dg d_law_pick hr (by rfl) (aj (ak 0 (pv 0)) (aj (j8 sy (j8 yr (ak 6 (pv 6)) (ak 5 (pv 5))) bf) c7)) (au (au eq_nil)))) c7))
                        · exact iy (bw (bw (bw (bw (bw gj))))) (by decide)
                      · exact wz
      · exact Iv
    · exact fj (j4 (ak 3 (pv 3)))
abbrev Gu:Stmt:=top 27
theorem Je:jc ll2 Wq (dz Gu):=⟨rfl,rfl,rfl,by decide +kernel,rfl,by decide +kernel,by decide +kernel⟩
theorem Rc (F:Fun K "_law_step" "_law_step" Gu f fd) (hmg:mg "_law_step" = some (.ref f)) (d_law_pick:iw P w K mg base "_law_pick" 1 a2d (_root_.K.dh)) (d_law_remark:iw P w K mg base "_law_remark" 4 Wq (_root_.K.zp)) (d_law_sum:iw P w K mg base "_law_sum" 2 a9k (_root_.K.Av)) (b_len:mg "len" = none) (b_sorted:mg "sorted" = none) (b_tuple:mg "tuple" = none):iw P w K mg base "_law_step" 5 Wq _root_.K.Af:=by
  refine ⟨f,fd,?_,F.binds (ps:=Wq) fun _ _ _ _ _ _ us hl=>bd3 (fun _ _ _=>rfl) us hl,F.kp,hmg⟩
  have d_law_pick:=d_law_pick.mono (by decide:1≤4)
  have d_law_remark:=d_law_remark.mono (by decide:4≤4)
  have d_law_sum:=d_law_sum.mono (by decide:2≤4)
  refine jq (N:=ll2) F Je (by decide)  fun cdv A outer s H E B hr=>?_
  have hu:=yx hr
  have hq:=hr.units
  have nd:ll2.Nodup:=Je.nd
  refine cj ?_ ?_
  · refine a2v ?_
    · refine Hu ?_ ?_
      · exact gw hu (ak 2 (pv 2)) (dg d_law_pick hr (by rfl) (aj (ak 0 (pv 0)) (aj (jh (u6 Ah (by rfl) b_len PySem.boot_len (aj (ak 2 (pv 2)) c7))) c7)) (au (au eq_nil))) (fun _ _=>rfl)
      · exact Dj (is:=[3,4]) (Dy rfl (j6 (gk nd rfl (Or.inl rfl)) (j6 (gk nd rfl (Or.inl rfl)) Aw)))
  · refine cj ?_ ?_
    · exact jd 5 (iu nd rfl (Or.inl rfl) (dg d_law_pick hr (by rfl) (aj (ak 0 (pv 0)) (aj (ak 4 (pv 4)) c7)) (au (au eq_nil)))) (fun _ _ _ h=>h)
    · refine cj ?_ ?_
      · exact jd 6 (iu nd rfl (Or.inl rfl) (dg d_law_pick hr (by rfl) (aj (ak 0 (pv 0)) (aj (ak 4 (pv 4)) c7)) (au (au eq_nil)))) (fun _ _ _ h=>h)
      · refine cj ?_ ?_
        · exact jd 7 (iu nd rfl (Or.inl rfl) (dg d_law_remark hr (by rfl) (aj (ak 0 (pv 0)) (aj (ak 1 (pv 1)) (aj (ak 2 (pv 2)) c7))) (au (au (au eq_nil))))) (fun _ _ _ h=>h)
        · refine cj ?_ ?_
          · exact Ea 8 (iu nd rfl (Or.inl rfl) (Gh c7 (iy gj (by decide)))) (fun _ _ _ h=>h)
          · refine cj ?_ ?_
            · refine Et ?_ ?_ ?_ ?_ ?_ ?_
              · exact PassesOwn.never
              · exact rfl
              · exact xr (jh (u6 (Hv (by rfl)) (by rfl) b_sorted PyProof.Rows.boot_sorted (aj (ak 1 (pv 1)) c7)))
              · exact qg 9 (gk nd rfl (Or.inl rfl))
              · refine cj ?_ ?_
                · exact jd 10 (iu nd rfl (Or.inl rfl) (dg d_law_pick hr (by rfl) (aj (ak 0 (pv 0)) (aj bf c7)) (au (au eq_nil)))) (fun _ _ _ h=>h)
                · refine cj ?_ ?_
                  · refine ud ?_ ?_ ?_
                    · exact j5 (m5 hq) (ak 10 (pv 10)) bf (iz _)
                    · refine fj ?_
                      · refine xq _ ?_
                        · refine Ao ?_
                          · refine Ka PySem.F.plainAttrs_list PySem.F.slot_list_append PySem.F.type_list_append uq ?_ ?_
                            · exact pv 8
                            · exact jt (lu (aj (ak 9 (pv 9)) (aj (dg d_law_sum hr (by rfl) (aj (ak 0 (pv 0)) (aj (ak 1 (pv 1)) c7)) (au (au eq_nil))) c7)) (iy (bw (bw gj)) (by decide))) wz
                    · exact jl
                  · refine fj ?_
                    · refine ud ?_ ?_ ?_
                      · exact j5 (m5 hq) (ak 10 (pv 10)) bf (iz _)
                      · refine fj ?_
                        · refine xq _ ?_
                          · refine Ao ?_
                            · refine Ka PySem.F.plainAttrs_list PySem.F.slot_list_append PySem.F.type_list_append uq ?_ ?_
                              · exact pv 8
                              · refine jt ?_ ?_
                                · refine lu ?_ ?_
                                  · refine aj ?_ ?_
                                    · exact ak 9 (pv 9)
                                    · refine aj ?_ ?_
                                      · refine lu ?_ ?_
                                        · refine aj ?_ ?_
                                          · exact j8 yr (dg d_law_pick hr (by rfl) (aj (ak 0 (pv 0)) (aj bf c7)) (au (au eq_nil))) bf
                                          · exact aj (lu (aj (lu (aj (ak 9 (pv 9)) (aj bf c7)) (iy (bw (bw gj)) (by decide))) c7) (iy (bw gj) (by decide))) c7
                                        · exact iy (bw (bw gj)) (by decide)
                                      · exact c7
                                  · exact iy (bw (bw gj)) (by decide)
                                · exact wz
                      · exact jl
              · exact xg
            · refine fj ?_
              · refine j4 ?_
                · refine lu ?_ ?_
                  · exact aj (ak 3 (pv 3)) (aj (ak 5 (pv 5)) (aj (ak 7 (pv 7)) (aj (jh (m8 mj (by rfl) b_tuple PyProof.Rows.boot_tuple (aj (ak 8 (pv 8)) c7))) (aj (ak 6 (pv 6)) c7))))
                  · exact iy (bw (bw (bw (bw (bw gj))))) (by decide)
abbrev Cd:Stmt:=top 28
theorem Ep:jc ll3 a9s (dz Cd):=⟨rfl,rfl,rfl,by decide +kernel,rfl,by decide +kernel,by decide +kernel⟩
theorem Li (F:Fun K "_law_program" "_law_program" Cd f fd) (hmg:mg "_law_program" = some (.ref f)) (d_law_boxes:iw P w K mg base "_law_boxes" 2 a9r (_root_.K.Ak)) (d_law_cell_at:iw P w K mg base "_law_cell_at" 1 a73 (_root_.K.kj)) (d_law_name:iw P w K mg base "_law_name" 1 a9g (_root_.K.wj)) (d_law_pick:iw P w K mg base "_law_pick" 1 a2d (_root_.K.dh)) (d_law_step:iw P w K mg base "_law_step" 5 Wq (_root_.K.Af)) (b_range:mg "range" = none):iw P w K mg base "_law_program" 6 a9s _root_.K.wu:=by
  refine ⟨f,fd,?_,F.binds (ps:=a9s) fun _ _ _ _ _ _ us hl=>bd2 (fun _ _=>rfl) us hl,F.kp,hmg⟩
  have d_law_boxes:=d_law_boxes.mono (by decide:2≤5)
  have d_law_cell_at:=d_law_cell_at.mono (by decide:1≤5)
  have d_law_name:=d_law_name.mono (by decide:1≤5)
  have d_law_pick:=d_law_pick.mono (by decide:1≤5)
  have d_law_step:=d_law_step.mono (by decide:5≤5)
  refine jq (N:=ll3) F Ep (by decide)  fun cdv A outer s H E B hr=>?_
  have hu:=yx hr
  have hq:=hr.units
  have nd:ll3.Nodup:=Ep.nd
  refine cj ?_ ?_
  · exact jd 2 (iu nd rfl (Or.inr rfl) (j8 v7 (j8 Bb (dg d_law_cell_at hr (by rfl) (aj (ak 0 (pv 0)) (aj bf c7)) (au (au eq_nil))) bf) bf)) (fun _ _ _ h=>h)
  · refine cj ?_ ?_
    · exact jd 3 (iu nd rfl (Or.inl rfl) (dg d_law_cell_at hr (by rfl) (aj (ak 0 (pv 0)) (aj bf c7)) (au (au eq_nil)))) (fun _ _ _ h=>h)
    · refine cj ?_ ?_
      · exact jd 4 (iu nd rfl (Or.inl rfl) (Px (aj (dg d_law_cell_at hr (by rfl) (aj (ak 0 (pv 0)) (aj bf c7)) (au (au eq_nil))) (aj (ak 2 (pv 2)) c7)) (iy (bw (bw gj)) (by decide)))) (fun _ _ _ h=>h)
      · refine cj ?_ ?_
        · exact jd 5 (iu nd rfl (Or.inl rfl) (j8 sy bf (dg d_law_pick hr (by rfl) (aj (ak 4 (pv 4)) (aj bf c7)) (au (au eq_nil))))) (fun _ _ _ h=>h)
        · refine cj ?_ ?_
          · exact Ea 6 (iu nd rfl (Or.inr rfl) (Gh c7 (iy gj (by decide)))) (fun _ _ _ h=>h)
          · refine cj ?_ ?_
            · refine Et ?_ ?_ ?_ ?_ ?_ ?_
              · exact PassesOwn.never
              · exact rfl
              · exact J5 (by rfl) b_range (ak 5 (pv 5))
              · exact qg 7 (gk nd rfl (Or.inl rfl))
              · refine fj ?_
                · refine xq _ ?_
                  · refine Ao ?_
                    · refine Ka PySem.F.plainAttrs_list PySem.F.slot_list_append PySem.F.type_list_append uq ?_ ?_
                      · exact pv 6
                      · refine jt ?_ ?_
                        · refine lu ?_ ?_
                          · refine aj ?_ ?_
                            · exact dg d_law_name hr (by rfl) (aj (ak 3 (pv 3)) (aj (j8 sy bf (ak 7 (pv 7))) c7)) (au (au eq_nil))
                            · refine aj ?_ ?_
                              · refine j8 ?_ ?_ ?_
                                · exact sy
                                · exact bf
                                · refine dg d_law_pick ?_ ?_ ?_ ?_
                                  · exact hr
                                  · exact by rfl
                                  · exact aj (ak 4 (pv 4)) (aj (gw hu (Eu (aj bf (aj bf (aj bf c7))) (iy (bw (bw (bw gj))) (by decide))) (j8 yr (ak 5 (pv 5)) bf) (fun _ _=>rfl)) c7)
                                  · exact au (au eq_nil)
                              · exact c7
                          · exact iy (bw (bw gj)) (by decide)
                        · exact wz
              · exact Iv
            · refine cj ?_ ?_
              · refine @jd _ _ _ _ (tOf _ _ _) _ ?_ (fun _ _ _ h=>h)
                · exact iu nd rfl (Or.inl rfl) (dg d_law_boxes hr (by rfl) (aj (ak 4 (pv 4)) (aj (ak 3 (pv 3)) (aj (dg d_law_pick hr (by rfl) (aj (ak 4 (pv 4)) (aj bf c7)) (au (au eq_nil))) c7))) (au (au (au eq_nil))))
              · refine cj ?_ ?_
                · refine @jd _ _ _ _ (tOf _ _ _) _ ?_ (fun _ _ _ h=>h)
                  · refine iu ?_ ?_ ?_ ?_
                    · exact nd
                    · exact rfl
                    · exact Or.inr rfl
                    · refine qm ?_
                      · refine yu (N:=["_law_box"]) ?_ ?_ ?_ ?_ ?_ ?_ ?_ ?_
                        · exact ⟨rfl,fun j k h=>match j,h with | _+0,h=>(by cases h)⟩
                        · exact ⟨rfl,rfl,by decide +kernel,by decide +kernel⟩
                        · exact rfl
                        · exact xr (ak 8 (pv 8))
                        · exact xg
                        · exact fun C s₀ H₀ ex pn=>pgE fun B=>(qg 0 (gk (show (["_law_box"]:List Str).Nodup by decide +kernel) rfl (Or.inl rfl)))
                        · exact fun C s₀ H₀ ex pn=>ql
                        · exact fun C s₀ H₀ ex pn=>peE fun B=>(gw hu (ak 0 (pv 0)) bf (fun _ _=>rfl))
                · refine cj ?_ ?_
                  · exact jd 10 (Xj (N:=aci) ⟨rfl,rfl,by decide +kernel,by decide +kernel⟩ rfl (xr (Iz (ak 0 (pv 0)) (Gn bf) (Gn (j8 sy bf (ak 1 (pv 1)))))) (fun C s₀ H₀ ex pn=>pgE fun B=>(qg 0 (gk (show aci.Nodup by decide +kernel) rfl (Or.inl rfl)))) (fun C s₀ H₀ ex pn=>ql) (fun C s₀ H₀ ex pn=>peE fun B=>(dg d_law_step hr (by rfl) (aj (Px (aj (ak 0 (pv 0)) (aj (ak 3 (pv 3)) c7)) (iy (bw (bw gj)) (by decide))) (aj (ak 1 (pv 1)) (aj (ak 2 (pv 2)) c7))) (au (au (au eq_nil))))) (gk nd rfl (Or.inl rfl)) rfl) (fun σ H Q h=>Xk ⟨rfl,fun j k h=>match j,h with | 0,h=>(by cases h; exact ⟨_,rfl,rfl,⟨.inl rfl,.inr (.inl rfl),.inl rfl⟩⟩) | 1,h=>(by cases h; exact ⟨_,rfl,rfl,⟨.inl rfl,.inr (.inl rfl),.inl rfl⟩⟩) | 2,h=>(by cases h; exact ⟨_,rfl,rfl,⟨.inl rfl,.inr (.inl rfl),.inl rfl⟩⟩) | _+3,h=>(by cases h)⟩ xg (Yk h))
                  · exact fj (j4 (lu (aj (ak 8 (pv 8)) (aj (ak 6 (pv 6)) (aj (ak 10 (pv 10)) (aj (lu c7 (iy gj (by decide))) c7)))) (iy (bw (bw (bw (bw gj)))) (by decide))))
abbrev Fj:Stmt:=top 29
theorem Hx:jc a1h a1h (dz Fj):=⟨rfl,rfl,rfl,by decide +kernel,rfl,by decide +kernel,by decide +kernel⟩
theorem Oq (F:Fun K "_law_value" "_law_value" Fj f fd) (hmg:mg "_law_value" = some (.ref f)) (b_sum:mg "sum" = none):iw P w K mg base "_law_value" 1 a1h _root_.K.qj:=by
  refine ⟨f,fd,?_,F.binds (ps:=a1h) fun _ _ _ _ _ _ us hl=>bd2 (fun _ _=>rfl) us hl,F.kp,hmg⟩
  refine jq (N:=a1h) F Hx (by decide)  fun cdv A outer s H E B hr=>?_
  have hu:=yx hr
  have hq:=hr.units
  have nd:a1h.Nodup:=Hx.nd
  refine fj ?_
  · refine j4 ?_
    · refine j8 ?_ ?_ ?_
      · exact sy
      · exact gw hu (ak 0 (pv 0)) bf (fun _ _=>rfl)
      · refine jh ?_
        · refine u6 (Oa (by rfl)) ?_ ?_ PyProof.Rows.boot_sum ?_
          · exact by rfl
          · exact b_sum
          · refine aj ?_ ?_
            · refine qm ?_
              · refine yu (N:=aas) ?_ ?_ ?_ ?_ ?_ ?_ ?_ ?_
                · exact ⟨rfl,fun j k h=>match j,h with | 0,h=>(by cases h; exact ⟨_,rfl,rfl,⟨.inl rfl,.inr (.inl rfl),.inl rfl⟩⟩) | _+1,h=>(by cases h)⟩
                · exact ⟨rfl,rfl,by decide +kernel,by decide +kernel⟩
                · exact rfl
                · exact xr (gw hu (ak 0 (pv 0)) bf (fun _ _=>rfl))
                · exact xg
                · intro C s₀ H₀ ex pn
                  refine pgE ?_
                  intro B
                  exact Dj (is:=[0,1]) (Dy rfl (j6 (gk (show aas.Nodup by decide +kernel) rfl (Or.inl rfl)) (j6 (gk (show aas.Nodup by decide +kernel) rfl (Or.inl rfl)) Aw)))
                · exact fun C s₀ H₀ ex pn=>ql
                · exact fun C s₀ H₀ ex pn=>peE fun B=>(j8 Bu (ak 1 (pv 1)) (gw hu (ak 2 (pv 2)) (ak 0 (pv 0)) (fun _ _=>rfl)))
            · exact c7
abbrev Ci:Stmt:=top 30
theorem Hs:jc aa9 a6o (dz Ci):=⟨rfl,rfl,rfl,by decide +kernel,rfl,by decide +kernel,by decide +kernel⟩
theorem Pk (F:Fun K "_law_holds" "_law_holds" Ci f fd) (hmg:mg "_law_holds" = some (.ref f)) {nn:Nat} (d_law_holds:iw P w K mg base "_law_holds" (1+nn) a6o (_root_.K.j9 nn)) (d_law_value:iw P w K mg base "_law_value" 1 a1h (_root_.K.qj)):iw P w K mg base "_law_holds" (1+nn+1) a6o (_root_.K.j9 (nn+1)):=by
  refine ⟨f,fd,?_,F.binds (ps:=a6o) fun _ _ _ _ _ _ us hl=>bd3 (fun _ _ _=>rfl) us hl,F.kp,hmg⟩
  have d_law_holds:=d_law_holds.mono (show (1+nn)≤(1+nn) by first | decide | omega)
  have d_law_value:=d_law_value.mono (show 1≤(1+nn) by first | decide | omega)
  refine jq (N:=aa9) F Hs (by decide)  fun cdv A outer s H E B hr=>?_
  have hu:=yx hr
  have hq:=hr.units
  have nd:aa9.Nodup:=Hs.nd
  refine cj ?_ ?_
  · refine ud ?_ ?_ ?_
    · exact j5 (m5 hq) (gw hu (ak 0 (pv 0)) bf (fun _ _=>rfl)) mq (iz _)
    · exact fj (j4 (Ez a3g (dg d_law_value hr (by rfl) (aj (gw hu (ak 0 (pv 0)) bf (fun _ _=>rfl)) (aj (ak 1 (pv 1)) c7)) (au (au eq_nil))) bf (iz _)))
    · exact jl
  · refine cj ?_ ?_
    · refine ud ?_ ?_ ?_
      · exact j5 (m5 hq) (gw hu (ak 0 (pv 0)) bf (fun _ _=>rfl)) mq (iz _)
      · exact fj (j4 (Ez (m5 hq) (j8 v7 (dg d_law_value hr (by rfl) (aj (gw hu (ak 0 (pv 0)) bf (fun _ _=>rfl)) (aj (ak 1 (pv 1)) c7)) (au (au eq_nil))) (gw hu (ak 0 (pv 0)) bf (fun _ _=>rfl))) bf (iz _)))
      · exact jl
    · refine cj ?_ ?_
      · refine ud ?_ ?_ ?_
        · exact j5 (m5 hq) (gw hu (ak 0 (pv 0)) bf (fun _ _=>rfl)) mq (iz _)
        · exact fj (j4 (Ez (m5 hq) (gw hu (ak 2 (pv 2)) (gw hu (ak 0 (pv 0)) bf (fun _ _=>rfl)) (fun _ _=>rfl)) (gw hu (ak 0 (pv 0)) bf (fun _ _=>rfl)) (iz _)))
        · exact jl
      · refine cj ?_ ?_
        · refine ud ?_ ?_ ?_
          · exact j5 (m5 hq) (gw hu (ak 0 (pv 0)) bf (fun _ _=>rfl)) mq (iz _)
          · exact fj (j4 (Xd (dg d_law_holds hr (by rfl) (aj (gw hu (ak 0 (pv 0)) bf (fun _ _=>rfl)) (aj (ak 1 (pv 1)) (aj (ak 2 (pv 2)) c7))) (au (au (au eq_nil))))))
          · exact jl
        · refine cj ?_ ?_
          · exact jd 3 (Xj (N:=ace) ⟨rfl,rfl,by decide +kernel,by decide +kernel⟩ rfl (xr (gw hu (ak 0 (pv 0)) bf (fun _ _=>rfl))) (fun C s₀ H₀ ex pn=>pgE fun B=>(qg 0 (gk (show ace.Nodup by decide +kernel) rfl (Or.inl rfl)))) (fun C s₀ H₀ ex pn=>ql) (fun C s₀ H₀ ex pn=>peE fun B=>(dg d_law_holds hr (by rfl) (aj (ak 0 (pv 0)) (aj (ak 1 (pv 1)) (aj (ak 2 (pv 2)) c7))) (au (au (au eq_nil))))) (gk nd rfl (Or.inl rfl)) rfl) (fun σ H Q h=>Xk ⟨rfl,fun j k h=>match j,h with | 0,h=>(by cases h; exact ⟨_,rfl,rfl,⟨.inl rfl,.inr (.inl rfl),.inl rfl⟩⟩) | 1,h=>(by cases h; exact ⟨_,rfl,rfl,⟨.inl rfl,.inr (.inl rfl),.inl rfl⟩⟩) | _+2,h=>(by cases h)⟩ xg (Yk h))
          · exact fj (j4 (Nf (j5 (m5 hq) (gw hu (ak 0 (pv 0)) bf (fun _ _=>rfl)) mq (iz _)) (Ez (Jp hq) Qe (ak 3 (pv 3)) rfl) (Ez (U6 hq) Qe (ak 3 (pv 3)) rfl)))
theorem Gb {f_law_holds:Addr} {fd_law_holds:FuncData} (F_law_holds:Fun K "_law_holds" "_law_holds" Ci f_law_holds fd_law_holds) (h_law_holds:mg "_law_holds" = some (.ref f_law_holds)) (d_law_value:iw P w K mg base "_law_value" 1 a1h _root_.K.qj):∀ nn:Nat,iw P w K mg base "_law_holds" (1+nn) a6o (_root_.K.j9 nn)
  | 0=>iw.zero F_law_holds h_law_holds (F_law_holds.binds (ps:=a6o) fun _ _ _ _ _ _ us hl=>bd3 (fun _ _ _=>rfl) us hl)
  | nn+1=>by
    have ih:=Gb F_law_holds h_law_holds d_law_value nn
    have d_law_holds:=ih
    exact Pk F_law_holds h_law_holds d_law_holds d_law_value
abbrev Fy:Stmt:=top 31
theorem Hy:jc a4v a4v (dz Fy):=⟨rfl,rfl,rfl,by decide +kernel,rfl,by decide +kernel,by decide +kernel⟩
theorem Q5 (F:Fun K "_law_first" "_law_first" Fy f fd) (hmg:mg "_law_first" = some (.ref f)) (b_len:mg "len" = none) (b_tuple:mg "tuple" = none):iw P w K mg base "_law_first" 1 a4v _root_.K.yt:=by
  refine ⟨f,fd,?_,F.binds (ps:=a4v) fun _ _ _ _ _ _ us hl=>bd1 (fun _=>rfl) us hl,F.kp,hmg⟩
  refine jq (N:=a4v) F Hy (by decide)  fun cdv A outer s H E B hr=>?_
  have hu:=yx hr
  have hq:=hr.units
  have nd:a4v.Nodup:=Hy.nd
  refine fj ?_
  · refine j4 ?_
    · refine lu ?_ ?_
      · refine aj ?_ ?_
        · refine jh ?_
          · exact m8 mj (by rfl) b_tuple PyProof.Rows.boot_tuple (aj (a5l (aj bf c7) (iy (bw gj) (by decide)) (fun B=>(jh (u6 Ah (by rfl) b_len PySem.boot_len (aj (gw hu (ak 0 (pv 0)) bf (fun _ _=>rfl)) c7))))) c7)
        · refine aj ?_ ?_
          · refine jh ?_
            · refine m8 mj ?_ ?_ PyProof.Rows.boot_tuple ?_
              · exact by rfl
              · exact b_tuple
              · refine aj ?_ ?_
                · refine qm ?_
                  · refine yu (N:=["_law_box"]) ?_ ?_ ?_ ?_ ?_ ?_ ?_ ?_
                    · exact ⟨rfl,fun j k h=>match j,h with | _+0,h=>(by cases h)⟩
                    · exact ⟨rfl,rfl,by decide +kernel,by decide +kernel⟩
                    · exact rfl
                    · exact xr (gw hu (ak 0 (pv 0)) bf (fun _ _=>rfl))
                    · exact xg
                    · exact fun C s₀ H₀ ex pn=>pgE fun B=>(qg 0 (gk (show (["_law_box"]:List Str).Nodup by decide +kernel) rfl (Or.inl rfl)))
                    · exact fun C s₀ H₀ ex pn=>ql
                    · exact fun C s₀ H₀ ex pn=>peE fun B=>(gw hu (ak 0 (pv 0)) bf (fun _ _=>rfl))
                · exact c7
          · exact c7
      · exact iy (bw (bw gj)) (by decide)
abbrev Gs:Stmt:=top 32
theorem Ku:jc ll1 a9n (dz Gs):=⟨rfl,rfl,rfl,by decide +kernel,rfl,by decide +kernel,by decide +kernel⟩
theorem Sy (F:Fun K "_law_next" "_law_next" Gs f fd) (hmg:mg "_law_next" = some (.ref f)) (d_law_holds:iw P w K mg base "_law_holds" 41 a6o (_root_.K.j9 40)) (d_law_value:iw P w K mg base "_law_value" 1 a1h (_root_.K.qj)) (b_dict:mg "dict" = none) (b_tuple:mg "tuple" = none) (b_zip:mg "zip" = none):iw P w K mg base "_law_next" 42 a9n _root_.K.vm:=by
  refine ⟨f,fd,?_,F.binds (ps:=a9n) fun _ _ _ _ _ _ us hl=>bd3 (fun _ _ _=>rfl) us hl,F.kp,hmg⟩
  have d_law_holds:=d_law_holds.mono (by decide:41≤41)
  have d_law_value:=d_law_value.mono (by decide:1≤41)
  refine jq (N:=ll1) F Ku (by decide)  fun cdv A outer s H E B hr=>?_
  have hu:=yx hr
  have hq:=hr.units
  have nd:ll1.Nodup:=Ku.nd
  refine cj ?_ ?_
  · refine a2v ?_
    · refine Hu ?_ ?_
      · exact gw hu (gw hu (ak 0 (pv 0)) bf (fun _ _=>rfl)) (ak 2 (pv 2)) (fun _ _=>rfl)
      · exact Dj (is:=[3,4,5,6,7]) (Dy rfl (j6 (gk nd rfl (Or.inl rfl)) (j6 (gk nd rfl (Or.inl rfl)) (j6 (gk nd rfl (Or.inl rfl)) (j6 (gk nd rfl (Or.inl rfl)) (j6 (gk nd rfl (Or.inl rfl)) Aw))))))
  · refine cj ?_ ?_
    · refine @Ea _ _ _ _ (fOf _ _ _) _ ?_ (fun _ _ _ h=>h)
      · refine iu ?_ ?_ ?_ ?_
        · exact nd
        · exact rfl
        · exact Or.inr rfl
        · refine Mj ?_ ?_ ?_ ?_ ?_ ?_ ?_
          · exact rfl
          · exact by rfl
          · exact b_dict
          · exact by rfl
          · exact b_zip
          · refine qm ?_
            · refine yu (N:=["_law_one"]) ?_ ?_ ?_ ?_ ?_ ?_ ?_ ?_
              · exact ⟨rfl,fun j k h=>match j,h with | _+0,h=>(by cases h)⟩
              · exact ⟨rfl,rfl,by decide +kernel,by decide +kernel⟩
              · exact rfl
              · exact xr (gw hu (ak 0 (pv 0)) bf (fun _ _=>rfl))
              · exact xg
              · exact fun C s₀ H₀ ex pn=>pgE fun B=>(qg 0 (gk (show (["_law_one"]:List Str).Nodup by decide +kernel) rfl (Or.inl rfl)))
              · exact fun C s₀ H₀ ex pn=>ql
              · exact fun C s₀ H₀ ex pn=>peE fun B=>(gw hu (ak 0 (pv 0)) bf (fun _ _=>rfl))
          · exact gw hu (ak 1 (pv 1)) bf (fun _ _=>rfl)
    · refine cj ?_ ?_
      · refine @jd _ _ _ _ (tOf _ _ _) _ ?_ (fun _ _ _ h=>h)
        · refine iu ?_ ?_ ?_ ?_
          · exact nd
          · exact rfl
          · exact Or.inl rfl
          · refine Gp ?_ ?_ ?_ ?_ ?_ ?_ ?_
            · exact rfl
            · exact by rfl
            · exact b_dict
            · exact by rfl
            · exact b_zip
            · refine qm ?_
              · refine yu (N:=["_law_one"]) ?_ ?_ ?_ ?_ ?_ ?_ ?_ ?_
                · exact ⟨rfl,fun j k h=>match j,h with | _+0,h=>(by cases h)⟩
                · exact ⟨rfl,rfl,by decide +kernel,by decide +kernel⟩
                · exact rfl
                · exact xr (gw hu (ak 0 (pv 0)) bf (fun _ _=>rfl))
                · exact xg
                · exact fun C s₀ H₀ ex pn=>pgE fun B=>(qg 0 (gk (show (["_law_one"]:List Str).Nodup by decide +kernel) rfl (Or.inl rfl)))
                · exact fun C s₀ H₀ ex pn=>ql
                · exact fun C s₀ H₀ ex pn=>peE fun B=>(gw hu (ak 0 (pv 0)) bf (fun _ _=>rfl))
            · exact gw hu (ak 1 (pv 1)) bf (fun _ _=>rfl)
      · refine cj ?_ ?_
        · refine ud ?_ ?_ ?_
          · refine a0l [8] ?_
            · intro B
              refine PW.pt ?_
              · refine Zr ?_ ?_
                · exact j5 (Oh hq) (Ho 8 hu (pv 8) (ak 3 (pv 3)) (fun _ _=>rfl)) (ak 4 (pv 4)) (iz _)
                · exact Ul (a4g (Ze (dg d_law_holds hr (by rfl) (aj (ak 5 (pv 5)) (aj (ak 9 (pv 9)) (aj (ak 8 (pv 8)) c7))) (au (au (au eq_nil))))))
          · exact fj (j4 Eo)
          · exact jl
        · refine cj ?_ ?_
          · exact Ea 10 (iu nd rfl (Or.inr rfl) (a6y rfl (by rfl) b_dict (ak 9 (pv 9)))) (fun _ _ _ h=>h)
          · refine cj ?_ ?_
            · refine Et ?_ ?_ ?_ ?_ ?_ ?_
              · exact PassesOwn.never
              · exact rfl
              · exact xr (ak 6 (pv 6))
              · exact Dj (is:=[11,12]) (Dy rfl (j6 (gk nd rfl (Or.inl rfl)) (j6 (gk nd rfl (Or.inl rfl)) Aw)))
              · exact fj (Qi 10 hu (pv 10) (ak 11 (pv 11)) (dg d_law_value hr (by rfl) (aj (ak 12 (pv 12)) (aj (ak 9 (pv 9)) c7)) (au (au eq_nil))) rfl)
              · exact xg
            · refine cj ?_ ?_
              · refine Et ?_ ?_ ?_ ?_ ?_ ?_
                · exact PassesOwn.never
                · exact rfl
                · exact xr (gw hu (ak 0 (pv 0)) bf (fun _ _=>rfl))
                · exact qg 11 (gk nd rfl (Or.inl rfl))
                · refine fj ?_
                  · refine ud ?_ ?_ ?_
                    · refine PW.pt ?_
                      · refine Zr ?_ ?_
                        · exact j5 Mf (Ho 10 hu (pv 10) (gw hu (ak 11 (pv 11)) bf (fun _ _=>rfl)) (fun _ _=>rfl)) (gw hu (ak 11 (pv 11)) bf (fun _ _=>rfl)) (iz _)
                        · exact Ul (j5 a00 (Ho 10 hu (pv 10) (gw hu (ak 11 (pv 11)) bf (fun _ _=>rfl)) (fun _ _=>rfl)) (gw hu (ak 11 (pv 11)) bf (fun _ _=>rfl)) (iz _))
                    · exact fj (j4 Eo)
                    · exact jl
                · exact xg
              · refine cj ?_ ?_
                · exact Qi 8 hu (pv 8) (ak 3 (pv 3)) (ak 7 (pv 7)) rfl
                · refine fj ?_
                  · refine j4 ?_
                    · refine lu ?_ ?_
                      · refine aj ?_ ?_
                        · refine jh ?_
                          · refine m8 mj ?_ ?_ PyProof.Rows.boot_tuple ?_
                            · exact by rfl
                            · exact b_tuple
                            · refine aj ?_ ?_
                              · refine qm ?_
                                · refine yu (N:=["_law_one","_law_places"]) ?_ ?_ ?_ ?_ ?_ ?_ ?_ ?_
                                  · exact ⟨rfl,fun j k h=>match j,h with | 0,h=>(by cases h; exact ⟨_,rfl,rfl,⟨.inl rfl,.inr (.inl rfl),.inl rfl⟩⟩) | _+1,h=>(by cases h)⟩
                                  · exact ⟨rfl,rfl,by decide +kernel,by decide +kernel⟩
                                  · exact rfl
                                  · exact xr (gw hu (ak 0 (pv 0)) bf (fun _ _=>rfl))
                                  · exact xg
                                  · exact fun C s₀ H₀ ex pn=>pgE fun B=>(qg 0 (gk (show (["_law_one","_law_places"]:List Str).Nodup by decide +kernel) rfl (Or.inl rfl)))
                                  · exact fun C s₀ H₀ ex pn=>ql
                                  · exact fun C s₀ H₀ ex pn=>peE fun B=>(gw hu (ak 1 (pv 1)) (gw hu (ak 0 (pv 0)) bf (fun _ _=>rfl)) (fun _ _=>rfl))
                              · exact c7
                        · refine aj ?_ ?_
                          · refine jh ?_
                            · refine m8 mj ?_ ?_ PyProof.Rows.boot_tuple ?_
                              · exact by rfl
                              · exact b_tuple
                              · refine aj ?_ ?_
                                · refine qm ?_
                                  · refine yu (N:=["_law_one","_law_then"]) ?_ ?_ ?_ ?_ ?_ ?_ ?_ ?_
                                    · exact ⟨rfl,fun j k h=>match j,h with | 0,h=>(by cases h; exact ⟨_,rfl,rfl,⟨.inl rfl,.inr (.inl rfl),.inl rfl⟩⟩) | _+1,h=>(by cases h)⟩
                                    · exact ⟨rfl,rfl,by decide +kernel,by decide +kernel⟩
                                    · exact rfl
                                    · exact xr (gw hu (ak 0 (pv 0)) bf (fun _ _=>rfl))
                                    · exact xg
                                    · exact fun C s₀ H₀ ex pn=>pgE fun B=>(qg 0 (gk (show (["_law_one","_law_then"]:List Str).Nodup by decide +kernel) rfl (Or.inl rfl)))
                                    · exact fun C s₀ H₀ ex pn=>ql
                                    · exact fun C s₀ H₀ ex pn=>peE fun B=>(gw hu (ak 1 (pv 1)) (gw hu (ak 0 (pv 0)) bf (fun _ _=>rfl)) (fun _ _=>rfl))
                                · exact c7
                          · exact c7
                      · exact iy (bw (bw gj)) (by decide)
abbrev Jb:Stmt:=top 33
theorem M7:jc a66 a66 (dz Jb):=⟨rfl,rfl,rfl,by decide +kernel,rfl,by decide +kernel,by decide +kernel⟩
theorem W8 (F:Fun K "_law_can" "_law_can" Jb f fd) (hmg:mg "_law_can" = some (.ref f)) (d_law_next:iw P w K mg base "_law_next" 42 a9n (_root_.K.vm)) (b_len:mg "len" = none) (b_range:mg "range" = none):iw P w K mg base "_law_can" 43 a66 _root_.K.Bh:=by
  refine ⟨f,fd,?_,F.binds (ps:=a66) fun _ _ _ _ _ _ us hl=>bd2 (fun _ _=>rfl) us hl,F.kp,hmg⟩
  have d_law_next:=d_law_next.mono (by decide:42≤42)
  refine jq (N:=a66) F M7 (by decide)  fun cdv A outer s H E B hr=>?_
  have hu:=yx hr
  have hq:=hr.units
  have nd:a66.Nodup:=M7.nd
  refine fj ?_
  · refine j4 ?_
    · refine qm ?_
      · refine yu (N:=ac9) ?_ ?_ ?_ ?_ ?_ ?_ ?_ ?_
        · exact ⟨rfl,fun j k h=>match j,h with | 0,h=>(by cases h; exact ⟨_,rfl,rfl,⟨.inl rfl,.inr (.inl rfl),.inl rfl⟩⟩) | 1,h=>(by cases h; exact ⟨_,rfl,rfl,⟨.inl rfl,.inr (.inl rfl),.inl rfl⟩⟩) | _+2,h=>(by cases h)⟩
        · exact ⟨rfl,rfl,by decide +kernel,by decide +kernel⟩
        · exact rfl
        · exact J5 (by rfl) b_range (jh (u6 Ah (by rfl) b_len PySem.boot_len (aj (gw hu (ak 0 (pv 0)) bf (fun _ _=>rfl)) c7)))
        · exact Iv
        · exact fun C s₀ H₀ ex pn=>pgE fun B=>(qg 0 (gk (show ac9.Nodup by decide +kernel) rfl (Or.inl rfl)))
        · exact fun C s₀ H₀ ex pn=>(a1g fun B=>(j5 Jo (dg d_law_next hr (by rfl) (aj (ak 1 (pv 1)) (aj (ak 2 (pv 2)) (aj (ak 0 (pv 0)) c7))) (au (au (au eq_nil)))) Eo (iz _)))
        · exact fun C s₀ H₀ ex pn=>peE fun B=>(ak 0 (pv 0))
abbrev Bs:Stmt:=top 34
theorem Er:jc ll4 a9v (dz Bs):=⟨rfl,rfl,rfl,by decide +kernel,rfl,by decide +kernel,by decide +kernel⟩
theorem Lf (F:Fun K "_law_numbers" "_law_numbers" Bs f fd) (hmg:mg "_law_numbers" = some (.ref f)) (d_law_can:iw P w K mg base "_law_can" 43 a66 (_root_.K.Bh)) (d_law_first:iw P w K mg base "_law_first" 1 a4v (_root_.K.yt)) (d_law_next:iw P w K mg base "_law_next" 42 a9n (_root_.K.vm)) (b_len:mg "len" = none):iw P w K mg base "_law_numbers" 44 a9v _root_.K.vo:=by
  refine ⟨f,fd,?_,F.binds (ps:=a9v) fun _ _ _ _ _ _ us hl=>bd2 (fun _ _=>rfl) us hl,F.kp,hmg⟩
  have d_law_can:=d_law_can.mono (by decide:43≤43)
  have d_law_first:=d_law_first.mono (by decide:1≤43)
  have d_law_next:=d_law_next.mono (by decide:42≤43)
  refine jq (N:=ll4) F Er (by decide)  fun cdv A outer s H E B hr=>?_
  have hu:=yx hr
  have hq:=hr.units
  have nd:ll4.Nodup:=Er.nd
  refine cj ?_ ?_
  · exact Ea 2 (iu nd rfl (Or.inl rfl) (Gh c7 (iy gj (by decide)))) (fun _ _ _ h=>h)
  · refine cj ?_ ?_
    · exact Ea 3 (iu nd rfl (Or.inl rfl) (Gh (aj (dg d_law_first hr (by rfl) (aj (ak 1 (pv 1)) c7) (au eq_nil)) c7) (iy (bw gj) (by decide)))) (fun _ _ _ h=>h)
    · refine cj ?_ ?_
      · exact jd 4 (iu nd rfl (Or.inl rfl) Eo) (fun _ _ _ h=>h)
      · refine cj ?_ ?_
        · refine Et ?_ ?_ ?_ ?_ ?_ ?_
          · exact PassesOwn.never
          · exact rfl
          · exact xr (Iz (ak 0 (pv 0)) (Gn bf) (Gn bf))
          · exact qg 5 (gk nd rfl (Or.inl rfl))
          · refine cj ?_ ?_
            · exact jd 6 (iu nd rfl (Or.inl rfl) (j8 yr (j8 v7 (j8 Bb (ak 5 (pv 5)) bf) (j8 sy (jh (u6 Ah (by rfl) b_len PySem.boot_len (aj (gw hu (ak 1 (pv 1)) bf (fun _ _=>rfl)) c7))) bf)) bf)) (fun _ _ _ h=>h)
            · refine cj ?_ ?_
              · exact jd 7 (iu nd rfl (Or.inl rfl) (dg d_law_can hr (by rfl) (aj (ak 1 (pv 1)) (aj (Nx 3 (pv 3) (Zx Kg bf) (fun _ _=>rfl)) c7)) (au (au eq_nil)))) (fun _ _ _ h=>h)
              · refine cj ?_ ?_
                · refine ud ?_ ?_ ?_
                  · exact PW.pt (R7 (j5 a00 (j8 v7 (ak 5 (pv 5)) bf) bf (iz _)) (Jc (j5 (Oh hq) (ak 7 (pv 7)) (Eu c7 (iy gj (by decide))) (iz _))))
                  · exact fj (jd 6 (iu nd rfl (Or.inl rfl) (gw hu (ak 7 (pv 7)) (j8 v7 (j8 Bb (ak 5 (pv 5)) bf) (jh (u6 Ah (by rfl) b_len PySem.boot_len (aj (ak 7 (pv 7)) c7)))) (fun _ _=>rfl))) (fun _ _ _ h=>h))
                  · exact jl
                · refine cj ?_ ?_
                  · exact xq 2 (Ao (Ka PySem.F.plainAttrs_list PySem.F.slot_list_append PySem.F.type_list_append uq (pv 2) (jt (ak 6 (pv 6)) wz)))
                  · refine cj ?_ ?_
                    · exact ud (PW.pt (R7 (j5 a3v (ak 4 (pv 4)) Eo (iz _)) (Jc (j5 (Jp hq) (ak 6 (pv 6)) (ak 7 (pv 7)) rfl))))   (fj (jd 4 (iu nd rfl (Or.inl rfl) (j8 yr (Ys 2 b_len rfl (pv 2)) bf)) (fun _ _ _ h=>h)))   jl
                    · refine fj ?_
                      · refine ud ?_ ?_ ?_
                        · exact j5 a3v (ak 4 (pv 4)) Eo (iz _)
                        · refine fj ?_
                          · refine xq _ ?_
                            · refine Ao ?_
                              · refine Ka PySem.F.plainAttrs_list PySem.F.slot_list_append PySem.F.type_list_append uq ?_ ?_
                                · exact pv 3
                                · exact jt (dg d_law_next hr (by rfl) (aj (ak 1 (pv 1)) (aj (Nx 3 (pv 3) (Zx Kg bf) (fun _ _=>rfl)) (aj (ak 6 (pv 6)) c7))) (au (au (au eq_nil)))) wz
                        · exact jl
          · exact xg
        · exact fj (j4 (lu (aj (ak 2 (pv 2)) (aj (ak 3 (pv 3)) (aj (ak 4 (pv 4)) c7))) (iy (bw (bw (bw gj))) (by decide))))
abbrev Bt:Stmt:=top 35
theorem Es:jc a7i a3w (dz Bt):=⟨rfl,rfl,rfl,by decide +kernel,rfl,by decide +kernel,by decide +kernel⟩
theorem Ln {C_NoStep D_NoStep:Addr} {C_NoLock:Addr} {bm_NoLock:List Value} {C_NoText:Addr} {bm_NoText:List Value} {C_TooMany:Addr} {bm_TooMany:List Value} (F:Fun K "_law_refused" "_law_refused" Bt f fd) (hmg:mg "_law_refused" = some (.ref f)) (dx_woven:Gi P w K mg base "woven" 43 a7g C_NoStep "place" _root_.K.yw) (k_NoStep:Xz K mg "NoStep" C_NoStep (.ref D_NoStep::My.vB)) (g_NoStep:XG K C_NoStep "place") (k_NoLock:Xz K mg "NoLock" C_NoLock bm_NoLock) (n_NoLock:(Value.ref C_NoStep :: .ref D_NoStep::My.vB).contains (.ref C_NoLock)=false) (k_NoText:Xz K mg "NoText" C_NoText bm_NoText) (n_NoText:(Value.ref C_NoStep :: .ref D_NoStep::My.vB).contains (.ref C_NoText)=false) (k_TooMany:Xz K mg "TooMany" C_TooMany bm_TooMany) (n_TooMany:(Value.ref C_NoStep :: .ref D_NoStep::My.vB).contains (.ref C_TooMany)=false):iw P w K mg base "_law_refused" 44 a3w _root_.K.vp:=by
  refine ⟨f,fd,?_,F.binds (ps:=a3w) fun _ _ _ _ _ _ us hl=>bd2 (fun _ _=>rfl) us hl,F.kp,hmg⟩
  have dx_woven:=dx_woven.mono (show 43≤43 by decide)
  refine jq (N:=a7i) F Es (by decide) fun cdv A outer s H E B hr=>?_
  have hu:=yx hr
  have hq:=hr.units
  have nd:a7i.Nodup:=Es.nd
  refine cj ?_ ?_
  · exact jd 2 (iu nd rfl (Or.inl rfl) Eo) (fun _ _ _ h=>h)
  · refine cj ?_ ?_
    · exact U7 dx_woven rfl rfl hr (by rfl) (aj (ak 0 (pv 0)) (aj (ak 1 (pv 1)) c7)) (au (au eq_nil)) (a3a (fun _=>hr.hd) k_NoStep.1 k_TooMany.1 k_NoLock.1 k_NoText.1 n_TooMany n_NoLock n_NoText (by rfl) (by rfl) (by rfl) k_TooMany.2 k_NoLock.2 k_NoText.2 (X6 (fun _=>hr.hd) nd rfl rfl k_NoStep.1 k_NoStep.1 (by simp) (by rfl) k_NoStep.2 (fun a=>Ji (iu nd rfl (Or.inl rfl) (a9a g_NoStep (pv 3) rfl))))) (a6t (Xn a9c))
    · exact fj (j4 (ak 2 (pv 2)))
abbrev Jy:Stmt:=top 36
theorem M8:jc a7i a3w (dz Jy):=⟨rfl,rfl,rfl,by decide +kernel,rfl,by decide +kernel,by decide +kernel⟩
theorem Wf {C_NoStep D_NoStep:Addr} {C_CalmError:Addr} {bm_CalmError:List Value} (F:Fun K "_law_any" "_law_any" Jy f fd) (hmg:mg "_law_any" = some (.ref f)) (dx_woven:Gi P w K mg base "woven" 43 a7g C_NoStep "place" _root_.K.yw) (k_NoStep:Xz K mg "NoStep" C_NoStep (.ref D_NoStep::My.vB)) (g_NoStep:XG K C_NoStep "place") (k_CalmError:Xz K mg "CalmError" C_CalmError bm_CalmError) (t_CalmError:(Value.ref C_NoStep :: .ref D_NoStep::My.vB).contains (.ref C_CalmError)=true) (b_ValueError:mg "ValueError" = none) (b_isinstance:mg "isinstance" = none):iw P w K mg base "_law_any" 44 a3w _root_.K.Bl:=by
  refine ⟨f,fd,?_,F.binds (ps:=a3w) fun _ _ _ _ _ _ us hl=>bd2 (fun _ _=>rfl) us hl,F.kp,hmg⟩
  have dx_woven:=dx_woven.mono (show 43≤43 by decide)
  refine jq (N:=a7i) F M8 (by decide) fun cdv A outer s H E B hr=>?_
  have hu:=yx hr
  have hq:=hr.units
  have nd:a7i.Nodup:=M8.nd
  refine cj ?_ ?_
  · exact jd 2 (iu nd rfl (Or.inl rfl) Qe) (fun _ _ _ h=>h)
  · refine cj ?_ ?_
    · exact U7 dx_woven rfl rfl hr (by rfl) (aj (ak 0 (pv 0)) (aj (ak 1 (pv 1)) c7)) (au (au eq_nil)) (X6 (fun _=>hr.hd) nd rfl rfl k_NoStep.1 k_CalmError.1 t_CalmError (by rfl) k_CalmError.2 (fun a=>Ji (iu nd rfl (Or.inl rfl) (a97 g_NoStep (by rfl) b_isinstance (by rfl) b_ValueError (pv 3))))) (Xn a87)
    · exact fj (j4 (ak 2 (pv 2)))
abbrev Mt:Stmt:=top 37
theorem a4c:jc ll5 ab9 (dz Mt):=⟨rfl,rfl,rfl,by decide +kernel,rfl,by decide +kernel,by decide +kernel⟩
theorem a8j (F:Fun K "law" "law" Mt f fd) (d_law_any:iw P w K mg base "_law_any" 44 a3w (_root_.K.Bl)) (d_law_numbers:iw P w K mg base "_law_numbers" 44 a9v (_root_.K.vo)) (d_law_program:iw P w K mg base "_law_program" 6 a9s (_root_.K.wu)) (d_law_refused:iw P w K mg base "_law_refused" 44 a3w (_root_.K.vp)) (d_woven:iw P w K mg base "woven" 43 a7g (_root_.K.Fp)) (b_isinstance:mg "isinstance" = none) (b_list:mg "list" = none):Fg P w K mg base CX0 45 f fd ab9 (spF K ab9.length _root_.K.Wb):=by
  have d_law_any:=d_law_any.mono (by decide:44≤44)
  have d_law_numbers:=d_law_numbers.mono (by decide:44≤44)
  have d_law_program:=d_law_program.mono (by decide:6≤44)
  have d_law_refused:=d_law_refused.mono (by decide:44≤44)
  have d_woven:=d_woven.mono (by decide:43≤44)
  refine jq (N:=ll5) F a4c (by decide)  fun cdv A outer s H E B hr=>?_
  have hu:=yx hr
  have hq:=hr.units
  have nd:ll5.Nodup:=a4c.nd
  refine cj ?_ ?_
  · exact jd 1 (iu nd rfl (Or.inl rfl) (dg d_law_program hr (by rfl) (aj (ak 0 (pv 0)) (aj bf c7)) (au (au eq_nil)))) (fun _ _ _ h=>h)
  · refine cj ?_ ?_
    · refine a2v ?_
      · refine Hu ?_ ?_
        · exact dg d_law_numbers hr (by rfl) (aj (ak 0 (pv 0)) (aj (ak 1 (pv 1)) c7)) (au (au eq_nil))
        · exact Dj (is:=[2,3,4]) (Dy rfl (j6 (gk nd rfl (Or.inl rfl)) (j6 (gk nd rfl (Or.inl rfl)) (j6 (gk nd rfl (Or.inl rfl)) Aw))))
    · refine cj ?_ ?_
      · exact jd 5 (iu nd rfl (Or.inl rfl) (jh (m8 Vn (by rfl) b_list PyProof.Rows.boot_list (aj (ak 2 (pv 2)) c7)))) (fun _ _ _ h=>h)
      · refine cj ?_ ?_
        · refine ud ?_ ?_ ?_
          · exact j5 Jo (ak 4 (pv 4)) Eo (iz _)
          · refine cj ?_ ?_
            · refine ud ?_ ?_ ?_
              · refine PW.pt ?_
                · refine Zr ?_ ?_
                  · exact j5 (Oh hq) (dg d_law_refused hr (by rfl) (aj (ak 1 (pv 1)) (aj (ak 5 (pv 5)) c7)) (au (au eq_nil))) (ak 4 (pv 4)) (iz _)
                  · exact Zr (a4g (Ze (dg d_law_any hr (by rfl) (aj (ak 1 (pv 1)) (aj (ak 5 (pv 5)) c7)) (au (au eq_nil))))) (Ul (j5 (Oh hq) (ak 5 (pv 5)) (ak 2 (pv 2)) (iz _)))
              · exact fj (j4 Qe)
              · exact jl
            · exact fj (jd 2 (iu nd rfl (Or.inl rfl) (Iz (ak 2 (pv 2)) Z7 (Gn (ak 4 (pv 4))))) (fun _ _ _ h=>h))
          · exact jl
        · refine cj ?_ ?_
          · exact jd 6 (iu nd rfl (Or.inl rfl) (dg d_woven hr (by rfl) (aj (ak 1 (pv 1)) (aj (ak 2 (pv 2)) c7)) (au (au eq_nil)))) (fun _ _ _ h=>h)
          · refine fj ?_
            · refine j4 ?_
              · refine a3o ?_ ?_
                · exact Rn (by rfl) b_isinstance (by rfl) b_list (ak 6 (pv 6))
                · refine a3o ?_ ?_
                  · exact Ez (m5 hq) (ak 6 (pv 6)) (ak 3 (pv 3)) (iz _)
                  · exact a9e (Ez (m5 hq) (dg d_woven hr (by rfl) (aj (ak 1 (pv 1)) (aj (Eu c7 (iy gj (by decide))) c7)) (au (au eq_nil))) (Iz (ak 3 (pv 3)) Z7 (Gn bf)) (iz _))
end
end D
end
section
namespace C
open PySem
theorem Qs {α:Type} {h f:α→T} {g:G} {c:M Bool} {e:M T} {nv:Nat} {cap:List Slot} {sto:List SO} (hcap:cap.map Oz=cap) :
    ∀ (l:List α) (acc:List T) (pre:List Slot),pre.length=nv→acc.length+l.length≤lim →
      (∀ a∈l,∀ pre:List Slot,pre.length=nv→∃ pre',pre'.length=nv∧g (h a) ⟨pre++cap,sto⟩=some ⟨pre'++cap,sto⟩∧c ⟨pre'++cap,sto⟩=some (true,⟨pre'++cap,sto⟩)∧e ⟨pre'++cap,sto⟩=some (f a,⟨pre'++cap,sto⟩)) →
      ∃ s',Bp g c e (l.map h) ⟨pre++cap,sto⟩ acc=some (acc++l.map f,s')∧s'.sto=sto
  | [],acc,pre,hp,hl,H=>⟨⟨pre++cap,sto⟩,by simp [Bp],rfl⟩
  | a::l,acc,pre,hp,hl,H=>by
    obtain ⟨pre',p1,p2,p3,p4⟩:=H a List.mem_cons_self pre hp
    have hlen:acc.length<lim:=by simp at hl ⊢; (clear p4 p3 p2 p1 H hp hcap; omega)
    obtain ⟨s',q1,q2⟩:=Qs hcap l (acc++[f a]) (pre'.map Oz) (by simpa using p1) (by simp at hl ⊢; (clear hlen p4 p3 p2 p1 H hp hcap; omega)) fun b hb=>H b (List.mem_cons_of_mem _ hb)
    refine ⟨s',?_,q2⟩
    rw [List.map_cons,Bp,p2]
    dsimp only
    rw [p3]
    dsimp only
    rw [p4]
    dsimp only
    rw [if_pos hlen,kh]
    dsimp only
    rw [List.map_append,hcap,q1]
    simp
theorem qw {α:Type} (h f:α→T) (l:List α) {g:G} {c:M Bool} {e:M T} {nv:Nat} {ci:List Nat} {it:M (List T)} {s s1:Sta} (env:List Slot) (cap:List Slot) (hit:it s=some (l.map h,s1)) (henv:jg ci s1.env=env) (hci:ci.map (fun i=>(env[i]?).getD none)=cap) (hcap:cap.map Oz=cap) (hl:l.length≤lim)
    (H:∀ a∈l,∀ pre:List Slot,pre.length=nv→∃ pre',pre'.length=nv∧g (h a) ⟨pre++cap,s1.sto⟩=some ⟨pre'++cap,s1.sto⟩∧c ⟨pre'++cap,s1.sto⟩=some (true,⟨pre'++cap,s1.sto⟩)∧e ⟨pre'++cap,s1.sto⟩=some (f a,⟨pre'++cap,s1.sto⟩)) :
    uy nv ci g it c e s=some (.lst (l.map f),⟨env,s1.sto⟩):=by
  obtain ⟨s',q1,q2⟩:=Qs hcap l [] (List.replicate nv none) (by simp) (by simpa using hl) H
  unfold uy
  rw [hit]
  dsimp only
  rw [henv,hci,q1]
  dsimp only
  rw [q2]; rfl
def okS (x:Str):Prop:=PyData.canLay0 (.str x)=true
theorem Jw {x:Str} (h:okS x):dat (.str x)=some (.str x):=by
  unfold okS at h
  simp [dat,h]
theorem a65 {a b:Str} (ha:okS a) (hb:okS b):neO (.str a) (.str b)=some (.bl (!(a==b))):=by
  simp [neO,eqT,eqD,Jw ha,Jw hb,PyData.depth,PyData.eqv]
def Pl (n:Nat) (t:T):Prop:=∃ d,dat t=some d∧d.depth≤n
theorem Ay (n:Nat) (i:Int):Pl n (.int i):=⟨.int i,by simp [dat],by simp [PyData.depth]⟩
theorem Bc (n:Nat) {x:Str} (h:okS x):Pl n (.str x):=⟨.str x,Jw h,by simp [PyData.depth]⟩
theorem pls {n:Nat}:∀ ts:List T,(∀ t∈ts,Pl n t)→∃ ds,Fz ts=some ds∧PyData.depthAll ds≤n
  | [],_=>⟨[],by simp [Fz],by simp [PyData.depthAll]⟩
  | t::r,h=>by
    obtain ⟨d,d1,d2⟩:=h t List.mem_cons_self
    obtain ⟨ds,e1,e2⟩:=pls r fun x hx=>h x (List.mem_cons_of_mem _ hx)
    exact ⟨d::ds,by simp [Fz,d1,e1],by simp only [PyData.depthAll]; (clear e1 d1 h; omega)⟩
theorem v8 {n:Nat} {ts:List T} (h:∀ t∈ts,Pl n t):Pl (n+1) (.tup ts):=by
  obtain ⟨ds,e1,e2⟩:=pls ts h
  exact ⟨.tuple ds,by simp [dat,e1],by simp only [PyData.depth]; (clear e1 h; omega)⟩
theorem Ma {n:Nat} {ts:List T} (h:∀ t∈ts,Pl n t):Pl (n+1) (.lst ts):=by
  obtain ⟨ds,e1,e2⟩:=pls ts h
  exact ⟨.list ds,by simp [dat,e1],by simp only [PyData.depth]; (clear e1 h; omega)⟩
mutual
theorem Uz:∀ d:PyData,d.canLay0=true→PyData.eqv d d=true
  | .none,_=>by simp [PyData.eqv]
  | .bool b,_=>by simp [PyData.eqv] -- here
  | .int i,_=>by simp [PyData.eqv] -- here
  | .str x,_=>by simp [PyData.eqv] -- here
  | .list xs,h=>by simp only [PyData.eqv]; exact Jq xs (by simpa [PyData.canLay0] using h)
  | .tuple xs,h=>by simp only [PyData.eqv]; exact Jq xs (by simpa [PyData.canLay0] using h)
  | .dict _,h=>by simp [PyData.canLay0] at h
theorem Jq:∀ xs:List PyData,PyData.canLayAll0 xs=true→PyData.eqvAll xs xs=true
  | [],_=>by simp [PyData.eqvAll]
  | x::xs,h=>by
    simp only [PyData.canLayAll0,Bool.and_eq_true] at h
    simp only [PyData.eqvAll,Uz x h.1,Jq xs h.2,Bool.and_self]
end
end C
namespace C
open PySem
theorem Zd {g:G} {b:S} (P:List T→Sta→Prop) (H:∀ t r s,P (t::r) s→∃ s1 s2,g t s=some s1∧b s1=some (.next,s2)∧P r s2):∀ (ts:List T) (s:Sta),P ts s→∃ s',forL g b ts s=some (.next,s')∧P [] s'
  | [],s,h=>⟨s,by simp [forL],h⟩
  | t::r,s,h=>by
    obtain ⟨s1,s2,h1,h2,h3⟩:=H t r s h
    obtain ⟨s',e,p⟩:=Zd P H r s2 h3
    refine ⟨s',?_,p⟩
    rw [forL]; dsimp only; rw [h1]; dsimp only; rw [h2]; dsimp only; exact e
theorem Ft {g:G} {b:S} {ts:List T} {s:Sta} {r:Option (Flow × Sta)} (hF:forL g b ts s=r) (P:List T→Sta→Prop) (hP:P ts s) (H:∀ t r s,P (t::r) s→∃ s1 s2,g t s=some s1∧b s1=some (.next,s2)∧P r s2):∃ s',r=some (.next,s')∧P [] s':=by
  obtain ⟨s',e,p⟩:=Zd P H ts s hP
  exact ⟨s',hF.symm.trans e,p⟩
end C
namespace C
open PySem
theorem Tn {α:Type} {g:G} {c:M Bool} {e:M T} {nv:Nat} {ci:List Nat} {it:M (List T)} {s:Sta} {r:Option (T × Sta)} (hF:uy nv ci g it c e s=r) (h f:α→T) (l:List α) (s1:Sta) (env cap:List Slot) (hit:it s=some (l.map h,s1)) (henv:jg ci s1.env=env) (hci:ci.map (fun i=>(env[i]?).getD none)=cap) (hcap:cap.map Oz=cap) (hl:l.length≤lim)
    (H:∀ a∈l,∀ pre:List Slot,pre.length=nv→∃ pre',pre'.length=nv∧g (h a) ⟨pre++cap,s1.sto⟩=some ⟨pre'++cap,s1.sto⟩∧c ⟨pre'++cap,s1.sto⟩=some (true,⟨pre'++cap,s1.sto⟩)∧e ⟨pre'++cap,s1.sto⟩=some (f a,⟨pre'++cap,s1.sto⟩)) :
    r=some (.lst (l.map f),⟨env,s1.sto⟩):=hF.symm.trans (qw h f l env cap hit henv hci hcap hl H)
theorem Qg {α:Type} (h:α→T) (l:List α) {i:Int} (h0:0≤i) (h1:i<l.length):∃ a∈l,cu (.lst (l.map h)) (.int i)=some (h a):=by
  have hi:i.toNat<l.length:=by omega
  refine ⟨l[i.toNat],List.getElem_mem hi,?_⟩
  simp [cu,ixI,h0,h1,List.getElem?_eq_getElem hi]
theorem a1d {α:Type} (h:α→T) (l:List α) {k:Nat} (hk:k<l.length):cu (.lst (l.map h)) (.int (k:Int))=some (h l[k]):=by
  have h1:(k:Int)<(l.length:Int):=by omega
  simp [cu,ixI,h1,List.getElem?_eq_getElem hk]
end C
end
open C
local macro_rules | `(tactic| simp! [$ls,*])=>`(tactic| simp [qt,j7,sIf,vg,sNew,v9,zj,sNx,a5p,sGo,a1l,Hj,mz,a6g,Hg,gn,Ws,Lq,mOr,Gd,mIf,mOp,mUn,bh,jo,ao,fu,aq,a09,gb,jf,hName,Ej,Cz,Aa,ltT,leT,Nb,Hh,Gm,Kc,Hi,S9,ad3,N8,uz,jg,Oz,$ls,*])
section
namespace C
open PySem
theorem Dd {α:Type} {h f:α→T} {q:α→Bool} {g:G} {c:M Bool} {e:M T} {nv:Nat} {cap:List Slot} {sto:List SO} (hcap:cap.map Oz=cap) :
    ∀ (l:List α) (acc:List T) (pre:List Slot),pre.length=nv→acc.length+l.length≤lim →
      (∀ a∈l,∀ pre:List Slot,pre.length=nv→∃ pre',pre'.length=nv∧g (h a) ⟨pre++cap,sto⟩=some ⟨pre'++cap,sto⟩∧c ⟨pre'++cap,sto⟩=some (q a,⟨pre'++cap,sto⟩)∧(q a=true→e ⟨pre'++cap,sto⟩=some (f a,⟨pre'++cap,sto⟩))) →
      ∃ s',Bp g c e (l.map h) ⟨pre++cap,sto⟩ acc=some (acc++(l.filter q).map f,s')∧s'.sto=sto
  | [],acc,pre,hp,hl,H=>⟨⟨pre++cap,sto⟩,by simp [Bp],rfl⟩
  | a::l,acc,pre,hp,hl,H=>by
    obtain ⟨pre',p1,p2,p3,p4⟩:=H a List.mem_cons_self pre hp
    have hlen:acc.length<lim:=by simp at hl ⊢; (clear p4 p3 p2 p1 H hp hcap; omega)
    rw [List.map_cons,Bp,p2]
    dsimp only
    rw [p3]
    cases hq:q a with
    | true =>
      obtain ⟨s',q1,q2⟩:=Dd hcap l (acc++[f a]) (pre'.map Oz) (by simpa using p1) (by simp at hl ⊢; (clear hq hlen p4 p3 p2 p1 H hp hcap; omega)) fun b hb=>H b (List.mem_cons_of_mem _ hb)
      refine ⟨s',?_,q2⟩
      dsimp only
      rw [p4 hq]
      dsimp only
      rw [if_pos hlen,kh]
      dsimp only
      rw [List.map_append,hcap,q1]
      simp [hq]
    | false =>
      obtain ⟨s',q1,q2⟩:=Dd hcap l acc (pre'.map Oz) (by simpa using p1) (by simp at hl ⊢; (clear hq hlen p4 p3 p2 p1 H hp hcap; omega)) fun b hb=>H b (List.mem_cons_of_mem _ hb)
      refine ⟨s',?_,q2⟩
      dsimp only
      rw [kh]
      dsimp only
      rw [List.map_append,hcap,q1]
      simp [hq]
theorem Y5 {α:Type} {g:G} {c:M Bool} {e:M T} {nv:Nat} {ci:List Nat} {it:M (List T)} {s:Sta} {r:Option (T × Sta)} (hF:uy nv ci g it c e s=r) (h f:α→T) (q:α→Bool) (l:List α) (s1:Sta) (env cap:List Slot) (hit:it s=some (l.map h,s1)) (henv:jg ci s1.env=env) (hci:ci.map (fun i=>(env[i]?).getD none)=cap) (hcap:cap.map Oz=cap) (hl:l.length≤lim)
    (H:∀ a∈l,∀ pre:List Slot,pre.length=nv→∃ pre',pre'.length=nv∧g (h a) ⟨pre++cap,s1.sto⟩=some ⟨pre'++cap,s1.sto⟩∧c ⟨pre'++cap,s1.sto⟩=some (q a,⟨pre'++cap,s1.sto⟩)∧(q a=true→e ⟨pre'++cap,s1.sto⟩=some (f a,⟨pre'++cap,s1.sto⟩))) :
    r=some (.lst ((l.filter q).map f),⟨env,s1.sto⟩):=by
  obtain ⟨s',q1,q2⟩:=Dd hcap l [] (List.replicate nv none) (by simp) (by simpa using hl) H
  rw [← hF]
  unfold uy
  rw [hit]
  dsimp only
  rw [henv,hci,q1]
  dsimp only
  rw [q2]; rfl
theorem a0n {n:Nat} {t:T} (h:Pl n t) (hn:n≤40):eqD t t=some true:=by
  obtain ⟨d,e1,e2⟩:=h
  have:d.depth≤40:=Nat.le_trans e2 hn
  simp [eqD,e1,this,Uz d (Ce _ e1)]
theorem Uk {n:Nat} {t:T} (h:Pl n t) (hn:n≤40):eqT t t=some true:=by
  cases t with
  | dic k=>obtain ⟨d,e1,_⟩:=h; simp [dat] at e1
  | _=>exact a0n h hn
theorem V7 {n:Nat} {t:T} (h:Pl n t) (hn:n≤40):neO t t=some (.bl false):=by simp [neO,Uk h hn]
theorem Ua {n:Nat} {t:T} (h:Pl n t) (hn:n≤40):eqO t t=some (.bl true):=by simp [eqO,Uk h hn]
theorem jk {a b:Int}:eqO (.int a) (.int b)=some (.bl (a==b)):=rfl
theorem Kq {a b:Int}:neO (.int a) (.int b)=some (.bl (!(a==b))):=by simp [neO,eqT,eqD,dat,PyData.depth,PyData.eqv]
theorem X4 {a b:Str} (ha:okS a) (hb:okS b):eqO (.str a) (.str b)=some (.bl (a==b)):=by
  simp [eqO,eqT,eqD,Jw ha,Jw hb,PyData.depth,PyData.eqv]
theorem Fw {xs:List T} {k:Nat} {t:T} (h:xs[k]? = some t):cu (.tup xs) (.int (k:Int))=some t:=by
  have hk:k<xs.length:=(List.getElem?_eq_some_iff.mp h).1
  have h1:(k:Int)<(xs.length:Int):=by omega
  simp [cu,ixI,h1,h]
theorem m6 {a:T} {r:List T}:cu (.tup (a::r)) (.int 0)=some a:=Fw (k:=0) rfl
theorem vd {a b:T} {r:List T}:cu (.tup (a::b::r)) (.int 1)=some b:=Fw (k:=1) rfl
theorem Fb {a b c:T} {r:List T}:cu (.tup (a::b::c::r)) (.int 2)=some c:=Fw (k:=2) rfl
theorem a3x {a b c d:T} {r:List T}:cu (.tup (a::b::c::d::r)) (.int 3)=some d:=Fw (k:=3) rfl
theorem Jx {i j:Nat} {x y:T} {s:Sta}:Ej [i,j] (.tup [x,y]) s=some (jf j y false (jf i x false s)):=by simp [Ej]
theorem Uw {a b c:S} {s s':Sta} (h:j7 a b s=some (.next,s')):j7 a (j7 b c) s=c s':=by
  unfold j7 at h ⊢
  cases ha:a s with
  | none=>rw [ha] at h; cases h
  | some p =>
    obtain ⟨fl,s1⟩:=p
    rw [ha] at h
    cases fl with
    | next=>dsimp only at h ⊢; rw [h]
    | _=>cases h
theorem gq {a b:S} {s s':Sta} (h:a s=some (.next,s')):j7 a b s=b s':=by unfold j7; rw [h]
def Out (r:Option (T × List SO)) (P:T→List SO→Prop):Prop:=∃ t s,r=some (t,s)∧P t s
theorem Out.of {t:T} {s:List SO} {P:T→List SO→Prop} (h:P t s):Out (some (t,s)) P:=⟨t,s,rfl,h⟩
end C
end
section
namespace K
open C PySem
abbrev scr (cs:List Int):T:=.lst (cs.map .int)
def cell (cs:List Int) (k:Nat):Int:=cs.getD k 0
theorem a5t {cs:List Int} {k:Nat} {sto:List SO}:kj [scr cs,.int (k:Int)] sto=some (.int (cell cs k),sto):=by
  by_cases h:k<cs.length
  · have h1:((k:Int)<(cs.length:Int)):=by omega
    have h2:cs[k]? = some cs[k]:=List.getElem?_eq_getElem h
    simp! [kj,cu,ixI,h1,h2,cell,List.getD]
  · have h1:¬ ((k:Int)<(cs.length:Int)):=by omega
    have h2:cs[k]? = none:=List.getElem?_eq_none_iff.mpr (by omega)
    simp! [kj,cu,ixI,h1,h2,cell,List.getD]
theorem Zb {cs:List Int} {k:Nat} {i:Int} {sto:List SO} (h:i=(k:Int)):kj [scr cs,.int i] sto=some (.int (cell cs k),sto):=by
  rw [h]; exact a5t
def a9w (so:SO):Prop:=(∃ a w,so=.lst [.int a,.int w])∨∃ a w c,so=.lst [.int a,.int w,.int c]
def StO (sto:List SO):Prop:=∀ so∈sto,a9w so
theorem StO.set {sto:List SO} (h:StO sto) (n:Nat) {so:SO} (hs:a9w so):StO (sto.set n so):=fun x hx=>by
  rcases List.mem_or_eq_of_mem_set hx with z | z
  · exact h x z
  · subst z; exact hs
theorem acj (a:Int):inT (.int a) (.lst [.int 0,.int (-1)])=some (.bl (a==0||a == -1)):=by
  simp [inT,inL,eqD,dat,PyData.depth,PyData.eqv]
  rw [show ((0:Int)==a)=(a==0) from Bool.beq_comm,show ((-1:Int)==a)=(a == -1) from Bool.beq_comm]
def mixed (a:Int):Int:=(a%2147483647 * 48271+1013)%2147483629
theorem a8g {n:Nat} {many a w c:Int} {sto:List SO} (hn:n<sto.length) (hs:StO sto) (hm:0<many) (hb:many.natAbs<fdl) (e:sto[n]? = some (.lst [.int a,.int w,.int c])) :
    ∃ r sto',dh [.obj n,.int many] sto=some (.int r,sto')∧0≤r∧r<many∧StO sto'∧sto'.length=sto.length:=by
  have lt:∀ x:Int,0≤x%many∧x%many<many:=fun x=>⟨Int.emod_nonneg _ (by omega),Int.emod_lt_of_pos _ hm⟩
  have S3:∀ a w c:Int,a9w (.lst [.int a,.int w,.int c]):=fun a w c=>.inr ⟨a,w,c,rfl⟩
  have b1:∀ x:Int,Lg (x%2147483647)=true:=fun x=>by
    have:=Int.emod_nonneg x (show (2147483647:Int)≠0 by decide)
    have:=Int.emod_lt_of_pos x (show (0:Int)<2147483647 by decide)
    simp only [Lg,decide_eq_true_eq]; omega
  have b2:Lg 69621=true:=by decide
  unfold dh
  by_cases hw:w=0
  · subst hw
    by_cases ha:(a==0||a == -1)=true
    · refine ⟨(mixed (c+1013) * 69621%2147483587) / 11%many,sto.set n (.lst [.int (mixed (c+1013)),.int 1,.int c]),?_,(lt _).1,(lt _).2,hs.set n (S3 _ _ _),List.length_set⟩
      simp! [Dz,e,jk,Ab,ixI,acj,ha,En,List.getElem?_set_self hn,Ja,b1,b2,hm,mixed]
    · refine ⟨a%many,sto.set n (.lst [.int (a / many),.int 0,.int c]),?_,(lt _).1,(lt _).2,hs.set n (S3 _ _ _),List.length_set⟩
      simp! [Dz,e,jk,Ab,ixI,acj,ha,En,List.getElem?_set_self hn,hm,hb]
  · have hw':(w==0)=false:=beq_eq_false_iff_ne.mpr hw
    refine ⟨(mixed a * 69621%2147483587) / 11%many,sto.set n (.lst [.int (mixed a),.int w,.int c]),?_,(lt _).1,(lt _).2,hs.set n (S3 _ _ _),List.length_set⟩
    simp! [Dz,e,jk,Ab,ixI,hw',En,List.getElem?_set_self hn,Ja,b1,b2,hm,mixed]
theorem aa4 {n:Nat} {many a w:Int} {sto:List SO} (hn:n<sto.length) (e:sto[n]? = some (.lst [.int a,.int w])):dh [.obj n,.int many] sto=dh [.obj n,.int many] (sto.set n (.lst [.int a,.int w,.int a])):=by
  have l2:(2:Nat)<lim:=by decide
  simp! [dh,Dz,e,jk,Ab,ixI,K9,List.getElem?_set_self hn,l2]
theorem pick {n:Nat} {many:Int} {sto:List SO} (hn:n<sto.length) (hs:StO sto) (hm:0<many) (hb:many.natAbs<fdl) :
    ∃ r sto',dh [.obj n,.int many] sto=some (.int r,sto')∧0≤r∧r<many∧StO sto'∧sto'.length=sto.length:=by
  have e:=List.getElem?_eq_getElem hn
  rcases hs _ (List.getElem_mem hn) with ⟨a,w,h⟩ | ⟨a,w,c,h⟩
  · rw [h] at e
    rw [aa4 hn e]
    obtain ⟨r,sto',q1,q2,q3,q4,q5⟩:=a8g (many:=many) (by rw [List.length_set]; exact hn) (hs.set n (.inr ⟨a,w,a,rfl⟩)) hm hb (List.getElem?_set_self hn)
    exact ⟨r,sto',q1,q2,q3,q4,by rw [q5,List.length_set]⟩
  · rw [h] at e
    exact a8g hn hs hm hb e
end K
end
section
namespace C
open PySem
theorem Lr {g:G} {e:M T} {nv:Nat} {cap:List Slot} (hcap:cap.map Oz=cap) (P:List T→List T→List SO→Prop)
    (H:∀ t r acc sto,P (t::r) acc sto→∀ pre:List Slot,pre.length=nv→∃ pre' u sto',pre'.length=nv∧g t ⟨pre++cap,sto⟩=some ⟨pre'++cap,sto⟩∧e ⟨pre'++cap,sto⟩=some (u,⟨pre'++cap,sto'⟩)∧P r (acc++[u]) sto') :
    ∀ (ts acc:List T) (pre:List Slot) (sto:List SO),pre.length=nv→acc.length+ts.length≤lim→P ts acc sto →
      ∃ us s',Bp g uz e ts ⟨pre++cap,sto⟩ acc=some (us,s')∧P [] us s'.sto
  | [],acc,pre,sto,hp,hl,p=>⟨acc,⟨pre++cap,sto⟩,by simp [Bp],p⟩
  | t::r,acc,pre,sto,hp,hl,p=>by
    obtain ⟨pre',u,sto',p1,p2,p3,p4⟩:=H t r acc sto p pre hp
    have hlen:acc.length<lim:=by simp only [List.length_cons] at hl; omega
    obtain ⟨us,s',q1,q2⟩:=Lr hcap P H r (acc++[u]) (pre'.map Oz) sto' (by simpa using p1) (by simp only [List.length_cons,List.length_append,List.length_nil] at hl ⊢; omega) p4
    refine ⟨us,s',?_,q2⟩
    rw [Bp,p2]
    dsimp only [uz]
    rw [p3]
    dsimp only
    rw [if_pos hlen,kh]
    dsimp only
    rw [List.map_append,hcap,q1]
theorem Lx {g:G} {e:M T} {nv:Nat} {ci:List Nat} {it:M (List T)} {s:Sta} {r:Option (T × Sta)} (hF:uy nv ci g it uz e s=r) (ts:List T) (s1:Sta) (env cap:List Slot) (P:List T→List T→List SO→Prop) (hit:it s=some (ts,s1)) (henv:jg ci s1.env=env) (hci:ci.map (fun i=>(env[i]?).getD none)=cap) (hcap:cap.map Oz=cap) (hl:ts.length≤lim) (p:P ts [] s1.sto)
    (H:∀ t r acc sto,P (t::r) acc sto→∀ pre:List Slot,pre.length=nv→∃ pre' u sto',pre'.length=nv∧g t ⟨pre++cap,sto⟩=some ⟨pre'++cap,sto⟩∧e ⟨pre'++cap,sto⟩=some (u,⟨pre'++cap,sto'⟩)∧P r (acc++[u]) sto') :
    ∃ us sto',r=some (.lst us,⟨env,sto'⟩)∧P [] us sto':=by
  obtain ⟨us,s',q1,q2⟩:=Lr hcap P H ts [] (List.replicate nv none) s1.sto (by simp) (by simpa using hl) p
  refine ⟨us,s'.sto,?_,q2⟩
  rw [← hF]
  unfold uy
  rw [hit]
  dsimp only
  rw [henv,hci,q1]
end C
namespace K
open C PySem
def qs (n:Nat):Str:=⟨((List.replicate n ("q" : Str).cps.toList).flatten).toArray⟩
theorem a7s {j:Int} (h0:0≤j) (h1:j≤1000):Ja (.str "q") (.int j)=some (.str (qs j.toNat)):=by
  have hl:Str.length ("q" : Str)≤100:=by decide +kernel
  simp only [Ja]
  rw [if_pos ⟨h0,h1,hl⟩]; rfl
def lt1 (i:Nat):Str:=⟨#[("abcdefghij" : Str).cps.toList.getD i 0]⟩
theorem a7l {i:Nat} (h:i<10):cu (.str "abcdefghij") (.int (i:Int))=some (.str (lt1 i)):=by
  match i,h with
  | 0,_=>rfl
  | 1,_=>rfl
  | 2,_=>rfl
  | 3,_=>rfl
  | 4,_=>rfl
  | 5,_=>rfl
  | 6,_=>rfl
  | 7,_=>rfl
  | 8,_=>rfl
  | 9,_=>rfl
def nm (p i q:Nat):Str:=qs p++lt1 i++qs q
def okN (x:Str):Prop:=okS x∧x.length<40
theorem aao:∀ p,p<8→∀ i,i<10→∀ q,q<8→okN (nm p i q)∧(qs p).length+(lt1 i).length<20∧(qs p++lt1 i).length+(qs q).length<40:=by
  unfold okN okS
  decide +kernel
def wd (i:Nat):Str:=(["b","ab","abc","abcd","a","ba","aab","b1","bab","ab1"]:List Str).getD i "b"
theorem aat:∀ i,i<10→okN (wd i):=by
  unfold okN okS
  decide +kernel
theorem aa5 {i:Nat} (h:i<10):cu (.lst [.str "b",.str "ab",.str "abc",.str "abcd",.str "a",.str "ba",.str "aab",.str "b1",.str "bab",.str "ab1"]) (.int (i:Int))=some (.str (wd i)):=by
  match i,h with
  | 0,_=>rfl
  | 1,_=>rfl
  | 2,_=>rfl
  | 3,_=>rfl
  | 4,_=>rfl
  | 5,_=>rfl
  | 6,_=>rfl
  | 7,_=>rfl
  | 8,_=>rfl
  | 9,_=>rfl
def nameOf (c k:Int):Str:=if c / 640%4=1 then wd (k%10).toNat else nm (c / 8%(1+c%8)).toNat ((3 * k+c / 64)%10).toNat (c%8 - c / 8%(1+c%8)).toNat
theorem name {c k:Int} {sto:List SO}:wj [.int c,.int k] sto=some (.str (nameOf c k),sto)∧okN (nameOf c k):=by
  by_cases h4:c / 640%4=1
  · obtain ⟨i,hi,ei⟩:∃ i:Nat,i<10∧k%10=(i:Int):=⟨(k%10).toNat,by omega,by omega⟩
    have en:nameOf c k=wd i:=by unfold nameOf; rw [if_pos h4,ei]; rfl
    rw [en]
    refine ⟨?_,aat i hi⟩
    simp! [wj,jk,h4,ei,aa5 hi]
  · obtain ⟨z,hz,ez⟩:∃ z:Nat,z<8∧c%8=(z:Int):=⟨(c%8).toNat,by omega,by omega⟩
    have hs:(0:Int)<1+(z:Int):=by omega
    have p0:=Int.emod_nonneg (c / 8) (show (1+(z:Int))≠0 by omega)
    have p1:=Int.emod_lt_of_pos (c / 8) hs
    obtain ⟨p,ep⟩:∃ p:Nat,c / 8%(1+(z:Int))=(p:Int):=⟨(c / 8%(1+(z:Int))).toNat,by omega⟩
    have hp:p≤z:=by omega
    obtain ⟨i,hi,ei⟩:∃ i:Nat,i<10∧(3 * k+c / 64)%10=(i:Int):=⟨((3 * k+c / 64)%10).toNat,by omega,by omega⟩
    obtain ⟨o1,o2,o3⟩:=aao p (by omega) i hi (z - p) (by omega)
    have en:nameOf c k=nm p i (z - p):=by
      unfold nameOf
      rw [if_neg h4,ez,ep,ei]
      congr 1
      omega
    rw [en]
    refine ⟨?_,o1⟩
    have hb:(c / 640%4==1)=false:=beq_eq_false_iff_ne.mpr h4
    have m1:=a7s (j:=(p:Int)) (by omega) (by omega)
    have m2:=a7s (j:=(z:Int) - (p:Int)) (by omega) (by omega)
    rw [Int.toNat_natCast] at m1
    rw [show ((z:Int) - (p:Int)).toNat=z - p by omega] at m2
    have b3:Lg 3=true:=by decide
    have mi:Ja (.int 3) (.int k)=some (.int (3 * k)):=by simp [Ja,b3]
    have l1:(qs p).length+(lt1 i).length<lim:=by show _<1000000; omega
    have l2:(qs p++lt1 i).length+(qs (z - p)).length<lim:=by show _<1000000; omega
    simp! [wj,jk,hb,ez,hs,ep,m1,mi,ei,a7l hi,l1,show 1+(z:Int) - 1 - (p:Int)=(z:Int) - (p:Int) by omega,m2,l2,nm]
theorem a4w (n:Nat):(qs n).cps.toList=List.replicate n 113:=by
  have e:("q" : Str).cps.toList=[113]:=by decide +kernel
  unfold qs
  rw [e]
  simp only
  induction n with
  | zero=>rfl
  | succ n ih=>simp [List.replicate_succ] at ih ⊢
def ltc (i:Nat):Nat:=("abcdefghij" : Str).cps.toList.getD i 0
theorem a6x:∀ i,i<10→∀ j,j<10→ltc i=ltc j→i=j:=by decide +kernel
theorem a8i:∀ i,i<10→∀ j,j<10→wd i=wd j→i=j:=by decide +kernel
theorem a7n {p q i j:Nat} (hi:i<10) (hj:j<10) (h:nm p i q=nm p j q):i=j:=by
  have e:=congrArg (fun x:Str=>x.cps.toList[p]?) h
  have at1:∀ k,(nm p k q).cps.toList[p]? = some (ltc k):=fun k=>by
    have:(nm p k q).cps.toList=(qs p).cps.toList++[ltc k]++(qs q).cps.toList:=by
      show ((qs p).cps ++ #[ltc k]++(qs q).cps).toList=_
      simp
    rw [this,a4w]
    simp
  simp only [at1] at e
  exact a6x i hi j hj (Option.some.inj e)
theorem Vd {c:Int} {i j:Int} (hi:0≤i∧i<10) (hj:0≤j∧j<10) (h:nameOf c i=nameOf c j):i=j:=by
  unfold nameOf at h
  by_cases h1:c / 640%4=1
  · rw [if_pos h1,if_pos h1] at h
    have:=a8i _ (by omega) _ (by omega) h
    omega
  rw [if_neg h1,if_neg h1] at h
  have:=a7n (by omega) (by omega) h
  omega
theorem V3 (c:Int) (a n:Nat) (h:a+n≤10):((List.range n).map fun (k:Nat)=>nameOf c ((a:Int)+(k:Int))).Nodup:=by
  refine List.Pairwise.map _ ?_ (List.Pairwise.and_mem.mp List.nodup_range)
  intro i j z8 e
  obtain ⟨hi,hj,hij⟩:=z8
  have hi':=List.mem_range.mp hi -- here
  have hj':=List.mem_range.mp hj -- here
  have:=Vd (by omega) (by omega) e
  exact hij (by omega)
abbrev Sm:=Int × List (Str × Int)
def pT (p:Str × Int):T:=.tup [.str p.1,.int p.2]
def smT (s:Sm):T:=.tup [.int s.1,.tup (s.2.map pT)]
def a0v (N:List Str) (s:Sm):Prop:=s.2.length≤N.length∧∀ p∈s.2,p.1∈N∧-4<p.2∧p.2<4
def Wh (N:List Str):Prop:=N.length≤2∧∀ x∈N,okN x
theorem Ud {x y:Str}:∀ {l:List Str},y∈O7 x l→y=x∨y∈l
  | [],h=>by simp [O7] at h; exact .inl h
  | z::l,h=>by
    unfold O7 at h
    split at h
    · rcases List.mem_cons.mp h with rfl | h -- here
      · exact .inl rfl
      · exact .inr h
    · rcases List.mem_cons.mp h with rfl | h -- here
      · exact .inr List.mem_cons_self
      · rcases Ud h with h | h
        · exact .inl h
        · exact .inr (List.mem_cons_of_mem _ h)
theorem U5 {x:Str}:∀ {l:List Str},(O7 x l).length=l.length+1
  | []=>rfl
  | z::l=>by unfold O7; split <;> simp [U5]
theorem Ag (l:List Str):∀ acc:List Str,(∀ y∈l.foldl (fun acc x=>O7 x acc) acc,y∈l∨y∈acc)∧(l.foldl (fun acc x=>O7 x acc) acc).length=l.length+acc.length:=by
  induction l with
  | nil=>intro acc; exact ⟨fun y h=>.inr h,by simp⟩
  | cons x l ih =>
    intro acc
    obtain ⟨h1,h2⟩:=ih (O7 x acc)
    refine ⟨fun y hy=>?_,by rw [List.foldl_cons,h2,U5,List.length_cons]; omega⟩
    rcases h1 y hy with h | h
    · exact .inl (List.mem_cons_of_mem _ h)
    · rcases Ud h with rfl | h
      · exact .inl List.mem_cons_self
      · exact .inr h
theorem Q8 {l:List Str} {y:Str} (h:y∈Ae l):y∈l:=by
  rcases (Ag l []).1 y h with h | h
  · exact h
  · cases h
theorem Ql {l:List Str}:(Ae l).length=l.length:=by have:=(Ag l []).2; unfold Ae; simpa using this
theorem strs_map:∀ l:List Str,Kh (l.map T.str)=some l
  | []=>rfl
  | x::l=>by simp [Kh,strs_map l]
theorem sorted_strs {l:List Str} (h:l.length<64):K4 [.lst (l.map T.str)]=some (.lst ((Ae l).map T.str)):=by
  simp [K4,h,strs_map]
theorem a2w {n:Nat} {v:Int} (hn:n<7) (h0:0≤v) (h1:v<7):∃ t:Int,cu (.lst [.int 0,.int 0,.int 1,.int 1,.int (-1),.int 2,.int (v - 3)]) (.int (n:Int))=some (.int t)∧-4<t∧t<4:=by
  match n,hn with
  | 0,_=>exact ⟨0,rfl,by omega,by omega⟩
  | 1,_=>exact ⟨0,rfl,by omega,by omega⟩
  | 2,_=>exact ⟨1,rfl,by omega,by omega⟩
  | 3,_=>exact ⟨1,rfl,by omega,by omega⟩
  | 4,_=>exact ⟨-1,rfl,by omega,by omega⟩
  | 5,_=>exact ⟨2,rfl,by omega,by omega⟩
  | 6,_=>exact ⟨v - 3,rfl,by omega,by omega⟩
theorem Z4 {j:Int} (h0:0≤j) (h1:j<1000000000000000000000000000000000):j.natAbs<fdl:=Nat.lt_trans (show j.natAbs<1000000000000000000000000000000000 by omega) (by decide)
structure Dn (sto:List SO) (sto':List SO):Prop where
  ok:StO sto'
  len:sto.length≤sto'.length
theorem zm {n:Nat} {many:Int} {sto:List SO} (hn:n<sto.length) (hs:StO sto) (hm:0<many) (hb:many<1000000000000000000000000000000000) :
    ∃ (r:Int) (sto':List SO),dh [.obj n,.int many] sto=some (.int r,sto')∧0≤r∧r<many∧StO sto'∧sto'.length=sto.length:=pick hn hs hm (Z4 (by omega) hb)
def SmO (N:List Str) (L:Nat) (t:T) (st:List SO):Prop:=∃ s,t=smT s∧a0v N s∧StO st∧st.length=L
theorem sum {n:Nat} {N:List Str} {sto:List SO} (hn:n<sto.length) (hs:StO sto) (okN:Wh N) :
    Out (Av [.obj n,.lst (N.map T.str)] sto) (SmO N sto.length):=by
  obtain ⟨r1,s1,p1,a1,b1,o1,l1⟩:=zm (many:=5) hn hs (by decide) (by decide)
  obtain ⟨r2,s2,p2,a2,b2,o2,l2⟩:=zm (many:=9) (by omega:n<s1.length) o1 (by decide) (by decide)
  have num:∃ (k:Int) (s3:List SO),StO s3∧s3.length=sto.length∧((j7 (vg 2 (mOp Gm (gb dh (ao (bh 0) (ao (aq (.int 5)) fu))) (aq (.int 2))))
      (sIf (gn (mOp eqO (gb dh (ao (bh 0) (ao (aq (.int 9)) fu))) (aq (.int 8))))
      (vg 2 (mOp Gm (gb dh (ao (bh 0) (ao (mOp Gm (mOp Ja (aq (.int 2)) (mOp Vr (aq (.int 10)) (aq (.int 9)))) (aq (.int 1))) fu))) (mOp Gm (mOp Vr (aq (.int 10)) (aq (.int 9))) (aq (.int 1)))))
      zj)):S) ⟨[some (.obj n,false),some (.lst (N.map T.str),false),none,none,none,none],sto⟩=some (.next,⟨[some (.obj n,false),some (.lst (N.map T.str),false),some (.int k,false),none,none,none],s3⟩):=by
    by_cases h8:r2=8
    · obtain ⟨r3,s3,p3,a3,b3,o3,l3⟩:=zm (n:=n) (many:=1999999999) (by omega:n<s2.length) o2 (by decide) (by decide)
      refine ⟨r3 - 999999999,s3,o3,by omega,?_⟩
      have bb:Lg 2=true:=by decide
      subst h8
      simp! [p1,p2,jk,Vr,Ja,bb,p3]
    · have hb:(r2==8)=false:=beq_eq_false_iff_ne.mpr h8
      refine ⟨r1 - 2,s2,o2,by omega,?_⟩
      simp! [p1,p2,jk,hb]
  obtain ⟨k,s3,o3,l3,num⟩:=num
  have hN:(Ae N).length=N.length:=Ql
  have h2:=okN.1
  have nn:(Ae N).length<lim:=by show _<1000000; omega
  have so:=sorted_strs (l:=N) (by omega)
  unfold Av qt
  rw [show ([T.obj n,.lst (N.map T.str)].map (fun t=>some (t,false))++List.replicate (6 - [T.obj n,.lst (N.map T.str)].length) none:List Slot)=[some (.obj n,false),some (.lst (N.map T.str),false),none,none,none,none] from rfl,Uw num]
  simp! [so,nn]
  generalize hF:forL _ _ _ _=r
  obtain ⟨s',rfl,P⟩:=Ft hF (fun ts s=>∃ (l:List Str) (acc:List (Str × Int)) (o4 o5:Slot) (st:List SO),ts=l.map T.str∧(∀ x∈l,x∈N)∧s=⟨[some (.obj n,false),some (.lst (N.map T.str),false),some (.int k,false),some (.lst (acc.map pT),true),o4,o5],st⟩∧StO st∧st.length=sto.length∧acc.length+l.length≤N.length∧∀ p∈acc,p.1∈N∧-4<p.2∧p.2<4)
    ⟨Ae N,[],none,none,s3,rfl,fun x hx=>Q8 hx,rfl,o3,l3,by simp [hN],fun p hp=>by cases hp⟩ (by
      rintro t r s ⟨l,acc,o4,o5,st,e1,e2,rfl,e3,e4,e5,e6⟩
      cases l with
      | nil=>cases e1
      | cons x l =>
        cases e1
        have xN:=e2 x List.mem_cons_self
        obtain ⟨v,t1,q1,c1,d1,w1,m1⟩:=zm (n:=n) (many:=7) (by omega:n<st.length) e3 (by decide) (by decide)
        obtain ⟨i,t2,q2,c2,d2,w2,m2⟩:=zm (n:=n) (many:=7) (by omega:n<t1.length) w1 (by decide) (by decide)
        obtain ⟨ii,hi,ei⟩:∃ j:Nat,j<7∧i=(j:Int):=⟨i.toNat,by omega,by omega⟩
        obtain ⟨tm,ht,g1,g2⟩:=a2w hi c1 d1
        rw [← ei] at ht
        simp only [List.length_cons] at e5
        have hl:acc.length<lim:=by show _<1000000; omega
        by_cases h0:tm=0
        · refine ⟨_,⟨[some (.obj n,false),some (.lst (N.map T.str),false),some (.int k,false),some (.lst (acc.map pT),true),some (.str x,false),some (.int tm,false)],t2⟩,rfl,?_,l,acc,some (.str x,false),some (.int tm,false),t2,rfl,fun y hy=>e2 y (List.mem_cons_of_mem _ hy),rfl,w2,by omega,by omega,e6⟩
          subst h0
          simp! [q1,q2,ht,Kq]
        · have hb:(tm==0)=false:=beq_eq_false_iff_ne.mpr h0
          refine ⟨_,⟨[some (.obj n,false),some (.lst (N.map T.str),false),some (.int k,false),some (.lst ((acc++[(x,tm)]).map pT),true),some (.str x,false),some (.int tm,false)],t2⟩,rfl,?_,l,acc++[(x,tm)],some (.str x,false),some (.int tm,false),t2,rfl,fun y hy=>e2 y (List.mem_cons_of_mem _ hy),rfl,w2,by omega,by rw [List.length_append,List.length_singleton]; omega,?_⟩
          · simp! [q1,q2,ht,Kq,hb,hl,pT]
          · intro p hp
            rcases List.mem_append.mp hp with z | z -- here
            · exact e6 p z
            · rw [List.mem_singleton] at z; subst z; exact ⟨xN,g1,g2⟩)
  obtain ⟨l,acc,o4,o5,st,e1,e2,rfl,e3,e4,e5,e6⟩:=P
  cases l with
  | cons _ _=>cases e1
  | nil =>
    simp! [qu]
    exact .of ⟨(k,acc),rfl,⟨by simpa using e5,e6⟩,e3,e4⟩
end K
end
section
namespace K
open C PySem
abbrev Hd:=Str × Int
def hT (h:Hd):T:=.tup [.str h.1,.int h.2]
def a7d (H:List Hd):Prop:=1≤H.length∧H.length≤3∧∀ h∈H,okN h.1∧1≤h.2∧h.2≤4
inductive Rem where
  | most (s:Sm) | rest (s:Sm) (m:Int) | pl (h:Str) (p:Int) | all (l:List Rem) | any (l:List Rem) | no (r:Rem)
mutual
def yq:Rem→T
  | .most s=>.tup [.str "most",smT s]
  | .rest s m=>.tup [.str "rest",smT s,.int m]
  | .pl h p=>.tup [.str "at",.str h,.int p]
  | .all l=>.tup [.str "and",.tup (K8 l)]
  | .any l=>.tup [.str "or",.tup (K8 l)]
  | .no r=>.tup [.str "not",yq r]
def K8:List Rem→List T
  | []=>[]
  | r::l=>yq r::K8 l
end
theorem zq:∀ l:List Rem,K8 l=l.map yq
  | []=>rfl
  | r::l=>by rw [K8,zq l]; rfl
inductive OkR (N:List Str) (H:List Hd):Nat→Rem→Prop where
  | most {d:Nat} {s:Sm}:a0v N s→OkR N H d (.most s)
  | rest {d:Nat} {s:Sm} {m:Int}:a0v N s→2≤m→m≤12→OkR N H d (.rest s m)
  | pl {d:Nat} {h:Hd} {p:Int}:h∈H→0≤p→p<h.2→OkR N H d (.pl h.1 p)
  | all {d:Nat} {l:List Rem}:l.length≤5→(∀ r∈l,OkR N H d r)→OkR N H (d+1) (.all l)
  | any {d:Nat} {l:List Rem}:l.length≤5→(∀ r∈l,OkR N H d r)→OkR N H (d+1) (.any l)
  | no {d:Nat} {r:Rem}:OkR N H d r→OkR N H (d+1) (.no r)
theorem OkR.up {N:List Str} {H:List Hd} {d:Nat} {r:Rem} (h:OkR N H d r):OkR N H (d+1) r:=by
  induction h with
  | most h=>exact .most h
  | rest h a b=>exact .rest h a b
  | pl h a b=>exact .pl h a b
  | all h _ ih=>exact .all h ih
  | any h _ ih=>exact .any h ih
  | no _ ih=>exact .no ih
def RmO (N:List Str) (H:List Hd) (d L:Nat) (t:T) (st:List SO):Prop:=∃ r,t=yq r∧OkR N H d r∧StO st∧st.length=L
theorem Om {α:Type} (h:α→T) (l:List α) {i:Int} (h0:0≤i) (h1:i<l.length):∃ a∈l,cu (.lst (l.map h)) (.int i)=some (h a):=Qg h l h0 h1
section
variable {n:Nat} {N:List Str} {H:List Hd} {sto:List SO}
theorem simple (hn:n<sto.length) (hs:StO sto) (okn:Wh N) (okh:a7d H):Out (qe [.obj n,.lst (N.map T.str),.lst (H.map hT)] sto) (RmO N H 0 sto.length):=by
  obtain ⟨r1,s1,p1,a1,b1,o1,l1⟩:=zm (many:=4) hn hs (by decide) (by decide)
  unfold qe
  by_cases h0:r1=0
  · subst h0
    obtain ⟨hl1,hl2,hok⟩:=okh
    obtain ⟨r2,s2,p2,a2,b2,o2,l2⟩:=zm (n:=n) (many:=(H.length:Int)) (by omega:n<s1.length) o1 (by omega) (by omega)
    obtain ⟨h,hm,hi⟩:=Om hT H a2 b2
    obtain ⟨k1,k2,k3⟩:=hok h hm
    obtain ⟨r3,s3,p3,a3,b3,o3,l3⟩:=zm (n:=n) (many:=h.2) (by omega:n<s2.length) o2 (by omega) (by omega)
    simp! [p1,jk,p2,hi,hT,p3]
    exact .of ⟨.pl h.1 r3,rfl,.pl hm a3 b3,o3,by omega⟩
  · have hb:(r1==0)=false:=beq_eq_false_iff_ne.mpr h0
    obtain ⟨t,s2,p2,s,rfl,ok,o2,l2⟩:=sum (n:=n) (by omega:n<s1.length) o1 okn
    by_cases h1:r1=1
    · subst h1
      obtain ⟨r3,s3,p3,a3,b3,o3,l3⟩:=zm (n:=n) (many:=11) (by omega:n<s2.length) o2 (by omega) (by omega)
      simp! [p1,jk,p2,p3]
      exact .of ⟨.rest s (2+r3),rfl,.rest ok (by omega) (by omega),o3,by omega⟩
    · have hb1:(r1==1)=false:=beq_eq_false_iff_ne.mpr h1
      simp! [p1,jk,hb,hb1,p2]
      exact .of ⟨.most s,rfl,.most ok,o2,by omega⟩
theorem a75 {v:Int} (h0:0≤v) (h1:v<2):(v=0∧cu (.lst [.str "and",.str "or"]) (.int v)=some (.str "and"))∨(v=1∧cu (.lst [.str "and",.str "or"]) (.int v)=some (.str "or")):=by
  have:v=0∨v=1:=by omega
  rcases this with rfl | rfl
  · exact .inl ⟨rfl,rfl⟩
  · exact .inr ⟨rfl,rfl⟩
def either (v:Int) (l:List Rem):Rem:=if v=0 then .all l else .any l
def Vk (v:Int):Str:=if v=0 then "and" else "or"
theorem Ko {v:Int} (h0:0≤v) (h1:v<2):cu (.lst [.str "and",.str "or"]) (.int v)=some (.str (Vk v)):=by
  rcases a75 h0 h1 with ⟨rfl,h⟩ | ⟨rfl,h⟩ <;> exact h
theorem J2 {v:Int} {l:List Rem}:yq (either v l)=.tup [.str (Vk v),.tup (K8 l)]:=by
  unfold either Vk
  split <;> simp [yq]
theorem Dq {v:Int} {d:Nat} {l:List Rem} (h:l.length≤5) (h2:∀ r∈l,OkR N H d r):OkR N H (d+1) (either v l):=by
  unfold either
  split
  · exact .all h h2
  · exact .any h h2
theorem remark (hn:n<sto.length) (hs:StO sto) (okn:Wh N) (okh:a7d H):Out (zp [.obj n,.lst (N.map T.str),.lst (H.map hT)] sto) (RmO N H 3 sto.length):=by
  obtain ⟨w,s1,p1,a1,b1,o1,l1⟩:=zm (many:=11) hn hs (by decide) (by decide)
  unfold zp
  by_cases h2:w<2
  · simp! [p1,h2]
    exact .of ⟨.all [],by simp [yq,K8],.all (by simp) (fun r hr=>by cases hr),o1,by omega⟩
  obtain ⟨t1,s2,p2,x1,rfl,k1,o2,l2⟩:=simple (n:=n) (by omega:n<s1.length) o1 okn okh
  by_cases h5:w<5
  · simp! [p1,h2,p2,h5]
    exact .of ⟨x1,rfl,k1.up.up.up,o2,by omega⟩
  by_cases e5:w=5
  · subst e5
    simp! [p1,p2,jk]
    exact .of ⟨.no x1,by simp [yq],.no k1.up.up,o2,by omega⟩
  have n5:(w==5)=false:=beq_eq_false_iff_ne.mpr e5
  obtain ⟨t3,s3,p3,x2,rfl,k2,o3,l3⟩:=simple (n:=n) (by omega:n<s2.length) o2 okn okh
  have m2:0≤w%2∧w%2<2:=by omega
  have we:=Ko m2.1 m2.2
  by_cases h8:w<8
  · simp! [p1,h2,p2,h5,jk,n5,we,p3,h8]
    refine .of ⟨either (w%2) [x1,x2],by rw [J2]; simp [K8],(Dq (d:=0) (by simp) ?_).up.up,o3,by omega⟩
    intro r hr
    simp only [List.mem_cons,List.not_mem_nil,or_false] at hr
    rcases hr with rfl | rfl
    · exact k1
    · exact k2
  by_cases e8:w=8
  · subst e8
    obtain ⟨v,s4,p4,a4,b4,o4,l4⟩:=zm (n:=n) (many:=2) (by omega:n<s3.length) o3 (by omega) (by omega)
    have wv:=Ko a4 b4
    simp! [p1,p2,jk,Ko (v:=0) (by decide) (by decide),p3,p4,wv,vd]
    refine .of ⟨.no (either v [x1,x2]),by simp [yq,J2,K8],.no (Dq (d:=0) (by simp) ?_).up,o4,by omega⟩
    intro r hr
    simp only [List.mem_cons,List.not_mem_nil,or_false] at hr
    rcases hr with rfl | rfl
    · exact k1
    · exact k2
  have n8:(w==8)=false:=beq_eq_false_iff_ne.mpr e8
  by_cases e9:w=9
  · subst e9
    obtain ⟨v,s4,p4,a4,b4,o4,l4⟩:=zm (n:=n) (many:=2) (by omega:n<s3.length) o3 (by omega) (by omega)
    obtain ⟨t5,s5,p5,x3,rfl,k3,o5,l5⟩:=simple (n:=n) (by omega:n<s4.length) o4 okn okh
    have wv:=Ko a4 b4
    simp! [p1,p2,jk,Ko (v:=1) (by decide) (by decide),p3,p4,wv,p5]
    refine .of ⟨either v [.no (either 1 [x1,x2]),x3],by simp [yq,J2,K8],Dq (d:=2) (by simp) ?_,o5,by omega⟩
    intro r hr
    simp only [List.mem_cons,List.not_mem_nil,or_false] at hr
    rcases hr with rfl | rfl
    · refine .no (Dq (d:=0) (by simp) ?_)
      intro r hr
      simp only [List.mem_cons,List.not_mem_nil,or_false] at hr
      rcases hr with rfl | rfl
      · exact k1
      · exact k2
    · exact k3.up.up
  have n9:(w==9)=false:=beq_eq_false_iff_ne.mpr e9
  have e10:w=10:=by omega
  subst e10
  obtain ⟨m,s4,p4,a4,b4,o4,l4⟩:=zm (n:=n) (many:=3) (by omega:n<s3.length) o3 (by omega) (by omega)
  have ml:(1+m).natAbs<lim:=by show _<1000000; omega
  obtain ⟨us,s5,ec,l,e1,e2,o5,l5,k5⟩:=Lx (g:=hName 0) (nv:=1) (ci:=[0,1,2]) (it:=Cz (mOp Hh (aq (.int 1)) (gb dh (ao (bh 0) (ao (aq (.int 3)) fu))))) (e:=gb qe (ao (bh 1) (ao (bh 2) (ao (bh 3) fu))))
    (s:=⟨[some (.obj n,false),some (.lst (N.map T.str),false),some (.lst (H.map hT),false),some (.int 10,false),some (yq x1,false),some (.tup [.str (Vk 0),.tup [yq x1,yq x2]],false),none],s3⟩) rfl (rangeT (1+m).toNat) ⟨[some (.obj n,false),some (.lst (N.map T.str),false),some (.lst (H.map hT),false),some (.int 10,false),some (yq x1,false),some (.tup [.str (Vk 0),.tup [yq x1,yq x2]],false),none],s4⟩
    [some (.obj n,false),some (.lst (N.map T.str),false),some (.lst (H.map hT),false),some (.int 10,false),some (yq x1,false),some (.tup [.str (Vk 0),.tup [yq x1,yq x2]],false),none] [some (.obj n,false),some (.lst (N.map T.str),false),some (.lst (H.map hT),false)]
    (fun ts acc st=>∃ l:List Rem,acc=l.map yq∧ts.length+l.length≤3∧StO st∧st.length=sto.length∧∀ r∈l,OkR N H 0 r)
    (by simp! [p4,ml]) rfl rfl rfl (by unfold rangeT; rw [List.length_map,List.length_range]; show _≤1000000; omega) ⟨[],rfl,by unfold rangeT; rw [List.length_map,List.length_range]; simp only [List.length_nil]; omega,o4,(by show s4.length=sto.length; omega),fun r hr=>by cases hr⟩ (by
      rintro t q acc st ⟨l,e1,e2,e3,e4,e5⟩ pre hp
      obtain ⟨a,rfl⟩:∃ a,pre=[a]:=by
        match pre,hp with
        | [a],_=>exact ⟨a,rfl⟩
      simp only [List.length_cons] at e2
      obtain ⟨t5,s6,p6,x3,rfl,k3,o6,l6⟩:=simple (n:=n) (by omega:n<st.length) e3 okn okh
      refine ⟨[some (t,false)],yq x3,s6,rfl,rfl,?_,l++[x3],by rw [e1]; simp,by rw [List.length_append,List.length_singleton]; omega,o6,by omega,fun r hr=>?_⟩
      · simp! [p6]
      · rcases List.mem_append.mp hr with z | z
        · exact e5 r z
        · rw [List.mem_singleton] at z; subst z; exact k3)
  simp only [List.length_nil,Nat.zero_add] at e2
  subst e1
  obtain ⟨v,s7,p7,a7,b7,o7,l7⟩:=zm (n:=n) (many:=2) (by omega:n<s5.length) o5 (by omega) (by omega)
  have wv:=Ko a7 b7
  have l2l:l.length+2<lim:=by show _<1000000; omega
  simp! [p1,p2,jk,Ko (v:=0) (by decide) (by decide),p3,ec,qu,p7,wv,vd,l2l,Nat.add_comm]
  refine .of ⟨either v (x1::x2::l),by simp [J2,K8,zq],(Dq (d:=0) (by simp; omega) ?_).up.up,o7,by omega⟩
  intro r hr
  simp only [List.mem_cons] at hr
  rcases hr with rfl | rfl | hr
  · exact k1
  · exact k2
  · exact k5 r hr
end
end K
end
section
namespace C
open PySem
theorem a4h {i:Nat} {e:M T} {s s1:Sta} {t:T} (h:e s=some (t,s1)):vg i e s=some (.next,jf i t false s1):=by unfold vg; rw [h]
theorem abh {c:M Bool} {a:S} {s s1:Sta} (h:c s=some (false,s1)):sIf c a zj s=some (.next,s1):=by unfold sIf; rw [h]; rfl
theorem a96 {g:G} {it:M (List T)} {b:S} {s s1 s2:Sta} {ts:List T} (h:it s=some (ts,s1)) (hf:forL g b ts s1=some (.next,s2)):Hj g it b s=some (.next,s2):=by unfold Hj; rw [h]; exact hf
theorem p1 (pre:List Slot) (h:pre.length=1):∃ a,pre=[a]:=by
  match pre,h with
  | [a],_=>exact ⟨a,rfl⟩
theorem p2 (pre:List Slot) (h:pre.length=2):∃ a b,pre=[a,b]:=by
  match pre,h with
  | [a,b],_=>exact ⟨a,b,rfl⟩
end C
namespace K
open C PySem
structure Bx where
  nm:Str
  lo:Int
  hi:Int
  st:Int
def bxT (b:Bx):T:=.tup [.str b.nm,.str "",.int b.lo,.int b.hi,.int b.st]
def aag (b:Bx):Prop:=okN b.nm∧b.lo≤b.st∧b.st≤b.hi∧b.hi≤b.lo+2
def BxO (c:Int) (L:Nat) (t:T) (st:List SO):Prop:=∃ l:List Bx,t=.lst (l.map bxT)∧l.length≤2∧(∀ b∈l,aag b)∧l.map (·.nm)=(List.range l.length).map (fun (k:Nat)=>nameOf c (k:Int))∧StO st∧st.length=L
section
variable {n:Nat} {N:List Str} {H:List Hd} {sto:List SO}
theorem aah {c m:Int} (hn:n<sto.length) (hs:StO sto) (m0:0≤m) (m2:m<3):Out (Ak [.obj n,.int c,.int m] sto) (BxO c sto.length):=by
  have ml:m.natAbs<lim:=by show _<1000000; omega
  have c30:Vr (.int 10) (.int 30)=some (.int 1000000000000000000000000000000):=by simp [Vr]
  have bb:Lg 2=true:=by decide
  unfold Ak
  simp! [ml]
  generalize hF:forL _ _ _ _=q
  obtain ⟨s',rfl,P⟩:=Ft hF (fun ts s=>∃ (l:List Bx) (r:Nat) (o4 o5 o6:Slot) (st:List SO),ts=(List.range' l.length r).map (fun (k:Nat)=>T.int (k:Int))∧l.map (·.nm)=(List.range l.length).map (fun (k:Nat)=>nameOf c (k:Int))∧r+l.length≤2∧s=⟨[some (.obj n,false),some (.int c,false),some (.int m,false),some (.lst (l.map bxT),true),o4,o5,o6],st⟩∧StO st∧st.length=sto.length∧∀ b∈l,aag b)
    ⟨[],m.toNat,none,none,none,sto,by unfold rangeT; rw [List.range_eq_range']; rfl,rfl,by simp only [List.length_nil]; omega,rfl,hs,rfl,fun b hb=>by cases hb⟩ (by
      rintro t q s ⟨l,r,o4,o5,o6,st,e0,en,e1,rfl,e2,e3,e4⟩
      obtain ⟨r,rfl⟩:∃ j,r=j+1:=by
        cases r with
        | zero=>cases e0
        | succ j=>exact ⟨j,rfl⟩
      rw [List.range'_succ,List.map_cons] at e0
      injection e0 with e01 e02
      subst e01
      obtain ⟨k,hk⟩:∃ k:Int,(l.length:Int)=k:=⟨_,rfl⟩
      rw [hk]
      have ll:l.length<lim:=by show _<1000000; omega
      obtain ⟨r1,s1,q1,a1,b1,w1,l1⟩:=zm (n:=n) (many:=4) (by omega:n<st.length) e2 (by decide) (by decide)
      obtain ⟨r2,s2,q2,a2,b2,w2,l2⟩:=zm (n:=n) (many:=9) (by omega:n<s1.length) w1 (by decide) (by decide)
      obtain ⟨lo,s3,w3,l3,h3⟩:∃ (lo:Int) (s3:List SO),StO s3∧s3.length=sto.length∧(j7 (vg 5 (mOp Gm (gb dh (ao (bh 0) (ao (aq (.int 4)) fu))) (aq (.int 2))))
          (sIf (gn (mOp eqO (gb dh (ao (bh 0) (ao (aq (.int 9)) fu))) (aq (.int 8))))
          (vg 5 (mOp Gm (gb dh (ao (bh 0) (ao (mOp Gm (mOp Ja (aq (.int 2)) (mOp Vr (aq (.int 10)) (aq (.int 30)))) (aq (.int 9))) fu))) (mOp Vr (aq (.int 10)) (aq (.int 30)))))
          zj):S) ⟨[some (.obj n,false),some (.int c,false),some (.int m,false),some (.lst (l.map bxT),true),some (.int k,false),o5,o6],st⟩=some (.next,⟨[some (.obj n,false),some (.int c,false),some (.int m,false),some (.lst (l.map bxT),true),some (.int k,false),some (.int lo,false),o6],s3⟩):=by
        by_cases h8:r2=8
        · obtain ⟨r3,s3,q3,a3,b3,w3,l3⟩:=zm (n:=n) (many:=1999999999999999999999999999991) (by omega:n<s2.length) w2 (by decide) (by decide)
          subst h8
          exact ⟨r3 - 1000000000000000000000000000000,s3,w3,by omega,by simp! [q1,q2,jk,c30,Ja,bb,q3]⟩
        · have hb:(r2==8)=false:=beq_eq_false_iff_ne.mpr h8
          exact ⟨r1 - 2,s2,w2,by omega,by simp! [q1,q2,jk,hb]⟩
      obtain ⟨r4,s4,q4,a4,b4,w4,l4⟩:=zm (n:=n) (many:=3) (by omega:n<s3.length) w3 (by decide) (by decide)
      obtain ⟨q5,ox⟩:=name (c:=c) (k:=k) (sto:=s4)
      generalize hx:nameOf c k=x at *
      obtain ⟨r6,s6,q6,a6,b6,w6,l6⟩:=zm (n:=n) (many:=lo+r4 - lo+1) (by omega:n<s4.length) w4 (by omega) (by omega)
      refine ⟨_,⟨[some (.obj n,false),some (.int c,false),some (.int m,false),some (.lst ((l++[Bx.mk x lo (lo+r4) (lo+r6)]).map bxT),true),some (.int k,false),some (.int lo,false),some (.int (lo+r4),false)],s6⟩,rfl,?_,l++[⟨x,lo,lo+r4,lo+r6⟩],r,_,_,_,s6,by rw [List.length_append,List.length_singleton]; exact e02,by rw [List.map_append,en,List.length_append,List.length_singleton,List.range_succ,List.map_append,← hx,← hk]; rfl,by rw [List.length_append,List.length_singleton]; omega,rfl,w6,by omega,fun b hb=>?_⟩
      · show (j7 _ (j7 _ _):S) ⟨[some (.obj n,false),some (.int c,false),some (.int m,false),some (.lst (l.map bxT),true),some (.int k,false),o5,o6],st⟩=_
        rw [Uw h3]
        simp! [q4,q5,q6,ll,bxT]
      · rcases List.mem_append.mp hb with z | z
        · exact e4 b z
        · rw [List.mem_singleton] at z; subst z; exact ⟨ox,by show lo≤lo+r6; omega,by show lo+r6≤lo+r4; omega,by show lo+r4≤lo+2; omega⟩)
  obtain ⟨l,r,o4,o5,o6,st,e0,en,e1,rfl,e2,e3,e4⟩:=P
  exact .of ⟨l,rfl,by omega,e4,en,e2,e3⟩
structure Sp where
  hand:Str
  here:Int
  guard:Rem
  sets:List (Str × Sm)
  there:Int
def seT (p:Str × Sm):T:=.tup [.str p.1,smT p.2]
def spT (s:Sp):T:=.tup [.str s.hand,.int s.here,yq s.guard,.tup (s.sets.map seT),.int s.there]
structure OkP (N:List Str) (H:List Hd) (s:Sp):Prop where
  hd:okN s.hand
  mem:s.hand∈H.map (·.1)
  gd:OkR N H 3 s.guard
  len:s.sets.length≤2
  set:∀ p∈s.sets,p.1∈N∧a0v N p.2
def SpO (N:List Str) (H:List Hd) (L:Nat) (t:T) (st:List SO):Prop:=∃ s,t=spT s∧OkP N H s∧StO st∧st.length=L
theorem step (hn:n<sto.length) (hs:StO sto) (okn:Wh N) (okh:a7d H):Out (Af [.obj n,.lst (N.map T.str),.lst (H.map hT)] sto) (SpO N H sto.length):=by
  obtain ⟨hl1,hl2,hok⟩:=okh
  obtain ⟨r2,s2,q2,a2,b2,o2,l2⟩:=zm (n:=n) (many:=(H.length:Int)) hn hs (by omega) (by omega)
  obtain ⟨h,hm,hi⟩:=Om hT H a2 b2
  obtain ⟨k1,k2,k3⟩:=hok h hm
  obtain ⟨r3,s3,q3,a3,b3,o3,l3⟩:=zm (n:=n) (many:=h.2) (by omega:n<s2.length) o2 (by omega) (by omega)
  obtain ⟨r4,s4,q4,a4,b4,o4,l4⟩:=zm (n:=n) (many:=h.2) (by omega:n<s3.length) o3 (by omega) (by omega)
  obtain ⟨t5,s5,q5,g,rfl,kg,o5,l5⟩:=remark (n:=n) (by omega:n<s4.length) o4 okn ⟨hl1,hl2,hok⟩
  have hN:(Ae N).length=N.length:=Ql
  have h2:=okn.1
  have nn:(Ae N).length<lim:=by show _<1000000; omega
  have so:=sorted_strs (l:=N) (by omega)
  unfold Af
  simp! [q2,hi,hT,q3,q4,q5,so,nn]
  generalize hF:forL _ _ _ _=q
  obtain ⟨s',rfl,P⟩:=Ft hF (fun ts s=>∃ (m:List Str) (l:List (Str × Sm)) (o9 o10:Slot) (st:List SO),ts=m.map T.str∧(∀ x∈m,x∈N)∧m.length+l.length≤2∧s=⟨[some (.obj n,false),some (.lst (N.map T.str),false),some (.lst (H.map hT),false),some (.str h.1,false),some (.int h.2,false),some (.int r3,false),some (.int r4,false),some (yq g,false),some (.lst (l.map seT),true),o9,o10],st⟩∧StO st∧st.length=sto.length∧∀ p∈l,p.1∈N∧a0v N p.2)
    ⟨Ae N,[],none,none,s5,rfl,fun x hx=>Q8 hx,by simp only [List.length_nil]; omega,rfl,o5,by omega,fun p hp=>by cases hp⟩ (by
      rintro t q s ⟨m,l,o9,o10,st,e1,e2,e3,rfl,e4,e5,e6⟩
      cases m with
      | nil=>cases e1
      | cons x m =>
        cases e1
        have xN:=e2 x List.mem_cons_self
        simp only [List.length_cons] at e3
        have ll:l.length<lim:=by show _<1000000; omega
        obtain ⟨w,t1,q1,c1,d1,w1,m1⟩:=zm (n:=n) (many:=5) (by omega:n<st.length) e4 (by decide) (by decide)
        by_cases h0:w=0
        · subst h0
          obtain ⟨t2,s2,q2,y,rfl,ok,w2,m2⟩:=sum (n:=n) (by omega:n<t1.length) w1 okn
          refine ⟨_,⟨[some (.obj n,false),some (.lst (N.map T.str),false),some (.lst (H.map hT),false),some (.str h.1,false),some (.int h.2,false),some (.int r3,false),some (.int r4,false),some (yq g,false),some (.lst ((l++[(x,y)]).map seT),true),some (.str x,false),some (.int 0,false)],s2⟩,rfl,?_,m,l++[(x,y)],_,_,s2,rfl,fun z hz=>e2 z (List.mem_cons_of_mem _ hz),by rw [List.length_append,List.length_singleton]; omega,rfl,w2,by omega,fun p hp=>?_⟩
          · simp! [q1,jk,q2,ll,seT]
          · rcases List.mem_append.mp hp with z | z
            · exact e6 p z
            · rw [List.mem_singleton] at z; subst z; exact ⟨xN,ok⟩
        · have b0:(w==0)=false:=beq_eq_false_iff_ne.mpr h0
          by_cases h1:w=1
          · subst h1
            obtain ⟨v,s2,q2,a2,b2,w2,m2⟩:=zm (n:=n) (many:=3) (by omega:n<t1.length) w1 (by decide) (by decide)
            refine ⟨_,⟨[some (.obj n,false),some (.lst (N.map T.str),false),some (.lst (H.map hT),false),some (.str h.1,false),some (.int h.2,false),some (.int r3,false),some (.int r4,false),some (yq g,false),some (.lst ((l++[(x,(v - 1,[(x,1)]))]).map seT),true),some (.str x,false),some (.int 1,false)],s2⟩,rfl,?_,m,l++[(x,(v - 1,[(x,1)]))],_,_,s2,rfl,fun z hz=>e2 z (List.mem_cons_of_mem _ hz),by rw [List.length_append,List.length_singleton]; omega,rfl,w2,by omega,fun p hp=>?_⟩
            · simp! [q1,jk,q2,ll,seT,smT,pT]
            · rcases List.mem_append.mp hp with z | z
              · exact e6 p z
              · rw [List.mem_singleton] at z; subst z
                refine ⟨xN,List.length_pos_of_mem xN,fun p hp=>?_⟩
                simp only [List.mem_singleton] at hp
                subst hp
                exact ⟨xN,by show (-4:Int)<1; decide,by show (1:Int)<4; decide⟩
          · have b1:(w==1)=false:=beq_eq_false_iff_ne.mpr h1
            refine ⟨_,⟨[some (.obj n,false),some (.lst (N.map T.str),false),some (.lst (H.map hT),false),some (.str h.1,false),some (.int h.2,false),some (.int r3,false),some (.int r4,false),some (yq g,false),some (.lst (l.map seT),true),some (.str x,false),some (.int w,false)],t1⟩,rfl,?_,m,l,_,_,t1,rfl,fun z hz=>e2 z (List.mem_cons_of_mem _ hz),by omega,rfl,w1,by omega,e6⟩
            simp! [q1,jk,b0,b1])
  obtain ⟨m,l,o9,o10,st,e1,e2,e3,rfl,e4,e5,e6⟩:=P
  simp! [qu]
  exact .of ⟨⟨h.1,r3,g,l,r4⟩,rfl,⟨k1,List.mem_map.mpr ⟨h,hm,rfl⟩,kg,by show l.length≤2; omega,e6⟩,e4,e5⟩
def prT (bs:List Bx) (H:List Hd) (ss:List Sp):T:=.tup [.lst (bs.map bxT),.lst (H.map hT),.lst (ss.map spT),.tup []]
structure Fd (bs:List Bx) (H:List Hd) (ss:List Sp):Prop where
  ndB:(bs.map (·.nm)).Nodup
  ndH:(H.map (·.1)).Nodup
  ns:Wh (bs.map (·.nm))
  bx:∀ b∈bs,aag b
  hs:a7d H
  ss:∀ s∈ss,OkP (bs.map (·.nm)) H s
def PrO (k:Nat) (t:T) (st:List SO):Prop:=∃ bs H ss,t=prT bs H ss∧Fd bs H ss∧ss.length≤k∧StO st
theorem StO.add {sto:List SO} (h:StO sto) {so:SO} (hs:a9w so):StO (sto++[so]):=fun x hx=>by
  rcases List.mem_append.mp hx with z | z
  · exact h x z
  · rw [List.mem_singleton] at z; subst z; exact hs
theorem a4t {m:Int} (h0:0<m) (h1:m<4):∃ p:Int,cu (.lst [.int 4,.int 4,.int 2]) (.int (m - 1))=some (.int p)∧1≤p∧p≤4:=by
  have:m=1∨m=2∨m=3:=by omega
  rcases this with rfl | rfl | rfl
  · exact ⟨4,rfl,by decide,by decide⟩
  · exact ⟨4,rfl,by decide,by decide⟩
  · exact ⟨2,rfl,by decide,by decide⟩
theorem program {cs:List Int} {k:Nat} (hc:cs.length≤63):Out (wu [scr cs,.int (k:Int)] []) (PrO 63):=by
  have c0e:=Zb (cs:=cs) (k:=0) (i:=0) (sto:=[]) rfl
  have c1e:=Zb (cs:=cs) (k:=1) (i:=1) (sto:=[]) rfl
  have c2e:=Zb (cs:=cs) (k:=2) (i:=2) (sto:=[]) rfl
  generalize cell cs 0=c0 at *
  generalize cell cs 1=c at *
  generalize cell cs 2=c2 at *
  obtain ⟨w,ew⟩:∃ w:Int,c0 / 5%2=w:=⟨_,rfl⟩
  have s0:StO [.lst [.int c2,.int w]]:=fun x hx=>by rw [List.mem_singleton] at hx; subst hx; exact .inl ⟨_,_,rfl⟩
  obtain ⟨r5,s5,q5,a5,b5,o5,l5⟩:=zm (n:=0) (many:=3) (by simp) s0 (by decide) (by decide)
  have l5':s5.length=1:=l5
  have hm:(1+r5).natAbs<lim:=by show _<1000000; omega
  unfold wu qt
  rw [show ([scr cs,T.int (k:Int)].map (fun t=>some (t,false))++List.replicate (11 - [scr cs,T.int (k:Int)].length) none:List Slot)=[some (scr cs,false),some (.int (k:Int),false),none,none,none,none,none,none,none,none,none] from rfl]
  rw [gq (s':=⟨[some (scr cs,false),some (.int (k:Int),false),some (.int w,false),none,none,none,none,none,none,none,none],[]⟩) (by simp! [c0e,ew])]
  rw [gq (s':=⟨[some (scr cs,false),some (.int (k:Int),false),some (.int w,false),some (.int c,false),none,none,none,none,none,none,none],[]⟩) (by simp! [c1e])]
  rw [gq (s':=⟨[some (scr cs,false),some (.int (k:Int),false),some (.int w,false),some (.int c,false),some (.obj 0,false),none,none,none,none,none,none],[.lst [.int c2,.int w]]⟩) (by simp! [c2e,Ec])]
  rw [gq (s':=⟨[some (scr cs,false),some (.int (k:Int),false),some (.int w,false),some (.int c,false),some (.obj 0,false),some (.int (1+r5),false),none,none,none,none,none],s5⟩) (by simp! [q5])]
  rw [gq (s':=⟨[some (scr cs,false),some (.int (k:Int),false),some (.int w,false),some (.int c,false),some (.obj 0,false),some (.int (1+r5),false),some (.lst [],true),none,none,none,none],s5⟩) rfl]
  obtain ⟨H,o7,s7,okH,ndH,o7s,l7,e7⟩:∃ (H:List Hd) (o7:Slot) (s7:List SO),a7d H∧(H.map (·.1)).Nodup∧StO s7∧s7.length=1∧Hj (hName 7) (Cz (bh 5))
      (mz 6 (jo (fun l=>some (.tup l)) (ao (gb wj (ao (bh 3) (ao (mOp Hh (aq (.int 5)) (bh 7)) fu))) (ao (mOp Hh (aq (.int 1)) (gb dh (ao (bh 4) (ao (mOp cu (jo (fun l=>some (.lst l)) (ao (aq (.int 4)) (ao (aq (.int 4)) (ao (aq (.int 2)) fu)))) (mOp Gm (bh 5) (aq (.int 1)))) fu)))) fu))))
      ⟨[some (scr cs,false),some (.int (k:Int),false),some (.int w,false),some (.int c,false),some (.obj 0,false),some (.int (1+r5),false),some (.lst [],true),none,none,none,none],s5⟩=some (.next,⟨[some (scr cs,false),some (.int (k:Int),false),some (.int w,false),some (.int c,false),some (.obj 0,false),some (.int (1+r5),false),some (.lst (H.map hT),true),o7,none,none,none],s7⟩):=by
    obtain ⟨mx,em,m1,m4⟩:=a4t (m:=1+r5) (by omega) (by omega)
    have it:Cz (bh 5) ⟨[some (scr cs,false),some (.int (k:Int),false),some (.int w,false),some (.int c,false),some (.obj 0,false),some (.int (1+r5),false),some (.lst [],true),none,none,none,none],s5⟩=some (rangeT (1+r5).toNat,⟨[some (scr cs,false),some (.int (k:Int),false),some (.int w,false),some (.int c,false),some (.obj 0,false),some (.int (1+r5),false),some (.lst [],true),none,none,none,none],s5⟩):=by simp! [hm]
    unfold Hj
    rw [it]
    dsimp only
    generalize hF:forL _ _ _ _=q
    obtain ⟨s',rfl,P⟩:=Ft hF (fun ts s=>∃ (H:List Hd) (r:Nat) (o7:Slot) (st:List SO),ts=(List.range' H.length r).map (fun (k:Nat)=>T.int (k:Int))∧H.map (·.1)=(List.range H.length).map (fun (k:Nat)=>nameOf c (((5:Nat):Int)+(k:Int)))∧r+H.length=(1+r5).toNat∧s=⟨[some (scr cs,false),some (.int (k:Int),false),some (.int w,false),some (.int c,false),some (.obj 0,false),some (.int (1+r5),false),some (.lst (H.map hT),true),o7,none,none,none],st⟩∧StO st∧st.length=1∧∀ h∈H,okN h.1∧1≤h.2∧h.2≤4)
      ⟨[],(1+r5).toNat,none,s5,by unfold rangeT; rw [List.range_eq_range']; rfl,rfl,rfl,rfl,o5,l5',fun b hb=>by cases hb⟩ (by
        rintro t q s ⟨H,r,o7,st,e0,en,e1,rfl,e2,e3,e4⟩
        obtain ⟨r,rfl⟩:∃ j,r=j+1:=by
          cases r with
          | zero=>cases e0
          | succ j=>exact ⟨j,rfl⟩
        rw [List.range'_succ,List.map_cons] at e0
        injection e0 with e01 e02
        subst e01
        obtain ⟨kk,hk⟩:∃ k:Int,(H.length:Int)=k:=⟨_,rfl⟩
        rw [hk]
        have ll:H.length<lim:=by show _<1000000; omega
        obtain ⟨qx,ox⟩:=name (c:=c) (k:=5+kk) (sto:=st)
        generalize hx:nameOf c (5+kk)=x at *
        obtain ⟨rr,s1,q1,a1,b1,w1,l1⟩:=zm (n:=0) (many:=mx) (by omega:0<st.length) e2 (by omega) (by omega)
        refine ⟨_,⟨[some (scr cs,false),some (.int (k:Int),false),some (.int w,false),some (.int c,false),some (.obj 0,false),some (.int (1+r5),false),some (.lst ((H++[(x,1+rr)]).map hT),true),some (.int kk,false),none,none,none],s1⟩,rfl,?_,H++[(x,1+rr)],r,_,s1,by rw [List.length_append,List.length_singleton]; exact e02,by rw [List.map_append,en,List.length_append,List.length_singleton,List.range_succ,List.map_append,← hx,← hk]; rfl,by rw [List.length_append,List.length_singleton]; omega,rfl,w1,by omega,fun h hh=>?_⟩
        · simp! [qx,em,q1,ll,hT]
        · rcases List.mem_append.mp hh with z | z
          · exact e4 h z
          · rw [List.mem_singleton] at z; subst z; exact ⟨ox,by show 1≤1+rr; omega,by show 1+rr≤4; omega⟩)
    obtain ⟨H,r,o7,st,e0,en,e1,rfl,e2,e3,e4⟩:=P
    have r0:r=0:=by
      cases r with
      | zero=>rfl
      | succ j=>rw [List.range'_succ] at e0; cases e0
    exact ⟨H,o7,st,⟨by omega,by omega,e4⟩,by rw [en]; exact V3 c 5 _ (by omega),e2,e3,rfl⟩
  rw [gq e7]
  obtain ⟨r8,s8,q8,a8,b8,w8,l8⟩:=zm (n:=0) (many:=3) (by omega:0<s7.length) o7s (by decide) (by decide)
  obtain ⟨t9,s9,q9,bs,rfl,bl,bok,bnm,w9,l9⟩:=aah (n:=0) (c:=c) (m:=r8) (by omega:0<s8.length) w8 a8 b8
  have ndB:(bs.map (·.nm)).Nodup:=by
    rw [bnm]
    have:=V3 c 0 bs.length (by omega)
    simpa using this
  rw [gq (s':=⟨[some (scr cs,false),some (.int (k:Int),false),some (.int w,false),some (.int c,false),some (.obj 0,false),some (.int (1+r5),false),some (.lst (H.map hT),true),o7,some (.lst (bs.map bxT),false),none,none],s9⟩) (by simp! [q8,q9])]
  clear bnm
  have bll:bs.length<lim:=by show _<1000000; omega
  have cb:=qw bxT (fun b=>T.str b.nm) bs (g:=hName 0) (nv:=1) (ci:=[]) (c:=uz) (it:=Aa (bh 8)) (e:=mOp cu (bh 0) (aq (.int 0))) (s:=⟨[some (scr cs,false),some (.int (k:Int),false),some (.int w,false),some (.int c,false),some (.obj 0,false),some (.int (1+r5),false),some (.lst (H.map hT),true),o7,some (.lst (bs.map bxT),false),none,none],s9⟩) (s1:=⟨[some (scr cs,false),some (.int (k:Int),false),some (.int w,false),some (.int c,false),some (.obj 0,false),some (.int (1+r5),false),some (.lst (H.map hT),true),o7,some (.lst (bs.map bxT),false),none,none],s9⟩) [some (scr cs,false),some (.int (k:Int),false),some (.int w,false),some (.int c,false),some (.obj 0,false),some (.int (1+r5),false),some (.lst (H.map hT),true),o7,some (.lst (bs.map bxT),false),none,none] []
    (by simp! [bll]) rfl rfl rfl (Nat.le_of_lt bll) (by
      intro b hb pre hp
      obtain ⟨a,rfl⟩:=C.p1 pre hp
      exact ⟨[some (bxT b,false)],rfl,rfl,rfl,by simp! [bxT,m6]⟩)
  have en:bs.map (fun b=>T.str b.nm)=(bs.map (·.nm)).map T.str:=by rw [List.map_map]; rfl
  rw [en] at cb
  have okn:Wh (bs.map (·.nm)):=⟨by simpa using bl,fun x hx=>by obtain ⟨b,hb,rfl⟩:=List.mem_map.mp hx; exact (bok b hb).1⟩
  rw [gq (s':=⟨[some (scr cs,false),some (.int (k:Int),false),some (.int w,false),some (.int c,false),some (.obj 0,false),some (.int (1+r5),false),some (.lst (H.map hT),true),o7,some (.lst (bs.map bxT),false),some (.lst ((bs.map (·.nm)).map T.str),false),none],s9⟩) (a4h cb)]
  obtain ⟨m,hmm,cx⟩:∃ m:List Int,m.length≤63∧Wn (some 3) (some (3+(k:Int))) (scr cs)=some (.lst (m.map T.int)):=by
    refine ⟨(cs.drop (sIx cs.length 0 (some 3))).take (sIx cs.length cs.length (some (3+(k:Int))) - sIx cs.length 0 (some 3)),?_,?_⟩
    · rw [List.length_take,List.length_drop]; omega
    · simp only [Wn,a4i,List.length_map,← List.map_drop,← List.map_take]
  have mll:m.length<lim:=by show _<1000000; omega
  generalize hN:bs.map (·.nm)=N at *
  obtain ⟨us,s10,ec,ss,e1,e2,w10,k10⟩:=Lx (g:=hName 0) (nv:=1) (ci:=[9,6,2]) (it:=Aa (zc (bh 0) (Ax (aq (.int 3))) (Ax (mOp Hh (aq (.int 3)) (bh 1))))) (e:=gb Af (ao (Ec (ao (bh 0) (ao (bh 3) fu))) (ao (bh 1) (ao (bh 2) fu))))
    (s:=⟨[some (scr cs,false),some (.int (k:Int),false),some (.int w,false),some (.int c,false),some (.obj 0,false),some (.int (1+r5),false),some (.lst (H.map hT),true),o7,some (.lst (bs.map bxT),false),some (.lst (N.map T.str),false),none],s9⟩) rfl (m.map T.int) ⟨[some (scr cs,false),some (.int (k:Int),false),some (.int w,false),some (.int c,false),some (.obj 0,false),some (.int (1+r5),false),some (.lst (H.map hT),true),o7,some (.lst (bs.map bxT),false),some (.lst (N.map T.str),false),none],s9⟩
    [some (scr cs,false),some (.int (k:Int),false),some (.int w,false),some (.int c,false),some (.obj 0,false),some (.int (1+r5),false),some (.lst (H.map hT),false),o7,some (.lst (bs.map bxT),false),some (.lst (N.map T.str),false),none] [some (.lst (N.map T.str),false),some (.lst (H.map hT),false),some (.int w,false)]
    (fun ts acc st=>∃ l:List Sp,acc=l.map spT∧ts.length+l.length≤63∧(∀ t∈ts,∃ i:Int,t=.int i)∧StO st∧∀ s∈l,OkP N H s)
    (by simp! [zc,Ax,cx,mll]) rfl rfl rfl (by rw [List.length_map]; exact Nat.le_of_lt mll) ⟨[],rfl,by rw [List.length_map]; exact hmm,fun t ht=>by obtain ⟨i,_,rfl⟩:=List.mem_map.mp ht; exact ⟨i,rfl⟩,w9,fun s hs=>by cases hs⟩ (by
      rintro t q acc st ⟨l,e1,e2,e0,e3,e4⟩ pre hp
      obtain ⟨a,rfl⟩:=C.p1 pre hp
      obtain ⟨i,rfl⟩:=e0 t List.mem_cons_self
      simp only [List.length_cons] at e2
      have hs':StO (st++[.lst [.int i,.int w]]):=e3.add (.inl ⟨_,_,rfl⟩)
      obtain ⟨t5,s6,p6,x,rfl,kx,o6,l6⟩:=step (n:=st.length) (by rw [List.length_append]; simp:st.length<(st++[SO.lst [.int i,.int w]]).length) hs' okn okH
      refine ⟨[some (.int i,false)],spT x,s6,rfl,rfl,?_,l++[x],by rw [e1]; simp,by rw [List.length_append,List.length_singleton]; omega,fun t ht=>e0 t (List.mem_cons_of_mem _ ht),o6,fun r hr=>?_⟩
      · simp! [Ec,p6]
      · rcases List.mem_append.mp hr with z | z
        · exact e4 r z
        · rw [List.mem_singleton] at z; subst z; exact kx)
  simp only [List.length_nil,Nat.zero_add] at e2
  subst e1
  rw [gq (a4h ec)]
  simp! []
  subst hN
  exact .of ⟨bs,H,ss,rfl,⟨ndB,ndH,okn,bok,okH,k10.2⟩,e2,k10.1⟩
end
end K
end
section
namespace C
open PySem
theorem a0q {q k:Key} {t:T}:∀ kvs:List (Key × T),Cm q (La k t kvs)=if q=k then some t else Cm q kvs:=by
  have hmap:∀ kvs:List (Key × T),Cm q (kvs.map fun p=>if p.1=k then (p.1,t) else p)=if q=k then (if kvs.any fun p=>decide (p.1=k) then some t else none) else Cm q kvs:=by
    intro kvs
    induction kvs with
    | nil=>simp [Cm]
    | cons p r ih =>
      obtain ⟨a,x⟩:=p
      rw [List.map_cons]
      by_cases ha:a=k
      · subst ha
        by_cases hq:q=a
        · subst hq; simp [Cm]
        · have:¬ a=q:=fun e=>hq e.symm
          simp only [if_true,Cm,if_neg this,ih,if_neg hq]
      · by_cases hq:q=k
        · subst hq
          simp only [if_neg ha,Cm,ih,if_true,List.any_cons,decide_eq_false ha,Bool.false_or]
        · simp only [if_neg ha,Cm,ih,if_neg hq]
  have happ:∀ kvs:List (Key × T),(kvs.any fun p=>decide (p.1=k))=false→Cm q (kvs++[(k,t)])=if q=k then some t else Cm q kvs:=by
    intro kvs
    induction kvs with
    | nil =>
      intro _
      by_cases hq:q=k
      · subst hq; simp [Cm]
      · have:¬ k=q:=fun e=>hq e.symm
        simp [Cm,this,hq]
    | cons p r ih =>
      obtain ⟨a,x⟩:=p
      intro h
      simp only [List.any_cons,Bool.or_eq_false_iff,decide_eq_false_iff_not] at h
      rw [List.cons_append,Cm,Cm,ih (by simpa using h.2)]
      by_cases hq:q=k
      · subst hq; simp [h.1]
      · simp [hq]
  intro kvs
  unfold La
  by_cases h:(kvs.any fun p=>decide (p.1=k))=true
  · rw [if_pos h,hmap,h]; simp
  · rw [if_neg h]; exact happ kvs (eq_false_of_ne_true h)
end C
namespace K
open C PySem
theorem eqC {a b:Str} {c:Bool} (h:(PyData.canLay0 (.str a)&&PyData.canLay0 (.str b)&&((a==b)==c))=true):eqO (.str a) (.str b)=some (.bl c):=by
  simp only [Bool.and_eq_true,beq_iff_eq] at h
  rw [X4 h.1.1 h.1.2,h.2]
theorem neC {a b:Str} {c:Bool} (h:(PyData.canLay0 (.str a)&&PyData.canLay0 (.str b)&&((a==b) == !c))=true):neO (.str a) (.str b)=some (.bl c):=by
  simp only [Bool.and_eq_true,beq_iff_eq] at h
  rw [a65 h.1.1 h.1.2,h.2,Bool.not_not]
theorem inC {w a b:Str} {c:Bool} (h:(PyData.canLay0 (.str w)&&PyData.canLay0 (.str a)&&PyData.canLay0 (.str b)&&((a==w||b==w)==c))=true):inT (.str w) (.tup [.str a,.str b])=some (.bl c):=by
  simp only [Bool.and_eq_true,beq_iff_eq] at h
  obtain ⟨⟨⟨h1,h2⟩,h3⟩,h4⟩:=h -- here
  simp [inT,inL,eqD,dat,h1,h2,h3,PyData.depth,PyData.eqv,← h4]
theorem jw:eqO (.str "most") (.str "most")=some (.bl true):=eqC (by decide +kernel)
theorem jz:eqO (.str "most") (.str "rest")=some (.bl false):=eqC (by decide +kernel)
theorem uf:eqO (.str "most") (.str "at")=some (.bl false):=eqC (by decide +kernel)
theorem nj:eqO (.str "most") (.str "not")=some (.bl false):=eqC (by decide +kernel)
theorem qb:eqO (.str "most") (.str "and")=some (.bl false):=eqC (by decide +kernel)
theorem jy:eqO (.str "rest") (.str "most")=some (.bl false):=eqC (by decide +kernel)
theorem jx:eqO (.str "rest") (.str "rest")=some (.bl true):=eqC (by decide +kernel)
theorem ug:eqO (.str "rest") (.str "at")=some (.bl false):=eqC (by decide +kernel)
theorem ou:eqO (.str "rest") (.str "not")=some (.bl false):=eqC (by decide +kernel)
theorem qd:eqO (.str "rest") (.str "and")=some (.bl false):=eqC (by decide +kernel)
theorem uc:eqO (.str "at") (.str "most")=some (.bl false):=eqC (by decide +kernel)
theorem um:eqO (.str "at") (.str "rest")=some (.bl false):=eqC (by decide +kernel)
theorem zu:eqO (.str "at") (.str "at")=some (.bl true):=eqC (by decide +kernel)
theorem yj:eqO (.str "at") (.str "not")=some (.bl false):=eqC (by decide +kernel)
theorem xu:eqO (.str "at") (.str "and")=some (.bl false):=eqC (by decide +kernel)
theorem oh:eqO (.str "not") (.str "most")=some (.bl false):=eqC (by decide +kernel)
theorem pq:eqO (.str "not") (.str "rest")=some (.bl false):=eqC (by decide +kernel)
theorem yh:eqO (.str "not") (.str "at")=some (.bl false):=eqC (by decide +kernel)
theorem u9:eqO (.str "not") (.str "not")=some (.bl true):=eqC (by decide +kernel)
theorem ux:eqO (.str "not") (.str "and")=some (.bl false):=eqC (by decide +kernel)
theorem nu:eqO (.str "and") (.str "most")=some (.bl false):=eqC (by decide +kernel)
theorem nq:eqO (.str "and") (.str "rest")=some (.bl false):=eqC (by decide +kernel)
theorem yd:eqO (.str "and") (.str "at")=some (.bl false):=eqC (by decide +kernel)
theorem uo:eqO (.str "and") (.str "not")=some (.bl false):=eqC (by decide +kernel)
theorem uh:eqO (.str "and") (.str "and")=some (.bl true):=eqC (by decide +kernel)
theorem ur:eqO (.str "or") (.str "most")=some (.bl false):=eqC (by decide +kernel)
theorem uw:eqO (.str "or") (.str "rest")=some (.bl false):=eqC (by decide +kernel)
theorem zx:eqO (.str "or") (.str "at")=some (.bl false):=eqC (by decide +kernel)
theorem yc:eqO (.str "or") (.str "not")=some (.bl false):=eqC (by decide +kernel)
theorem yg:eqO (.str "or") (.str "and")=some (.bl false):=eqC (by decide +kernel)
theorem Ck:inT (.str "most") (.tup [.str "and",.str "or"])=some (.bl false):=inC (by decide +kernel)
theorem Cr:inT (.str "most") (.tup [.str "most",.str "rest"])=some (.bl true):=inC (by decide +kernel)
theorem Cp:neO (.str "most") (.str "at")=some (.bl true):=neC (by decide +kernel)
theorem Cv:inT (.str "rest") (.tup [.str "and",.str "or"])=some (.bl false):=inC (by decide +kernel)
theorem Cq:inT (.str "rest") (.tup [.str "most",.str "rest"])=some (.bl true):=inC (by decide +kernel)
theorem Cw:neO (.str "rest") (.str "at")=some (.bl true):=neC (by decide +kernel)
theorem Wo:inT (.str "at") (.tup [.str "and",.str "or"])=some (.bl false):=inC (by decide +kernel)
theorem Wr:inT (.str "at") (.tup [.str "most",.str "rest"])=some (.bl false):=inC (by decide +kernel)
theorem Wu:neO (.str "at") (.str "at")=some (.bl false):=neC (by decide +kernel)
theorem Ij:inT (.str "not") (.tup [.str "and",.str "or"])=some (.bl false):=inC (by decide +kernel)
theorem Ip:inT (.str "not") (.tup [.str "most",.str "rest"])=some (.bl false):=inC (by decide +kernel)
theorem Ih:neO (.str "not") (.str "at")=some (.bl true):=neC (by decide +kernel)
theorem Ig:inT (.str "and") (.tup [.str "and",.str "or"])=some (.bl true):=inC (by decide +kernel)
theorem Ii:inT (.str "and") (.tup [.str "most",.str "rest"])=some (.bl false):=inC (by decide +kernel)
theorem Im:neO (.str "and") (.str "at")=some (.bl true):=neC (by decide +kernel)
theorem Wm:inT (.str "or") (.tup [.str "and",.str "or"])=some (.bl true):=inC (by decide +kernel)
theorem Wt:inT (.str "or") (.tup [.str "most",.str "rest"])=some (.bl false):=inC (by decide +kernel)
theorem Wk:neO (.str "or") (.str "at")=some (.bl true):=neC (by decide +kernel)
def bk (B:List (Key × T)) (x:Str):Int:=match Cm (.inr x) B with
  | some (.int v)=>v
  | _=>0
structure Bk (N:List Str) (B:List (Key × T)):Prop where
  has:∀ x∈N,∃ v:Int,Cm (.inr x) B=some (.int v)
  nums:∀ p∈B,∃ v:Int,p.2=.int v
  nd:(B.map fun p=>p.1).Nodup
theorem Bk.at {N:List Str} {B:List (Key × T)} (h:Bk N B) {x:Str} (hx:x∈N):Cm (.inr x) B=some (.int (bk B x)):=by
  obtain ⟨v,e⟩:=h.has x hx
  rw [e]; unfold bk; rw [e]
theorem Bo {B:List (Key × T)} {x:Str} {v:T} (h:Cm (.inr x) B=some v):cu (.dic B) (.str x)=some v:=by simp [cu,keyOf,h]
def val (B:List (Key × T)) (s:Sm):Int:=s.1+(s.2.map fun p=>p.2 * bk B p.1).sum
section
variable {N:List Str} {H:List Hd} {B G:List (Key × T)} {sto:List SO}
theorem b64 {i:Int} (h0:-4<i) (h1:i<4):Lg i=true:=by simp only [Lg,decide_eq_true_eq]; omega
theorem ints_map {α:Type} (f:α→Int):∀ l:List α,Zg (l.map fun a=>T.int (f a))=some (l.map f)
  | []=>rfl
  | a::l=>by simp [Zg,ints_map f l]
theorem a4k {s:Sm} (hN:Wh N) (hs:a0v N s):s.2.length<lim:=by
  have:=hs.1; have:=hN.1; show _<1000000; omega
theorem value {s:Sm} (hN:Wh N) (hs:a0v N s) (hB:Bk N B):Bf [smT s,.dic B] sto=some (.int (val B s),sto):=by
  have hl:=a4k hN hs
  unfold Bf smT
  simp! [m6]
  generalize hF:uy _ _ _ _ _ _ _=r
  obtain rfl:=Tn hF pT (fun p=>.int (p.2 * bk B p.1)) s.2 ⟨[some (smT s,false),some (.dic B,false)],sto⟩ [some (smT s,false),some (.dic B,false)] [some (.dic B,false)]
    (by unfold smT; simp! [vd,hl]) rfl rfl rfl (Nat.le_of_lt hl) (by
      intro p hp pre hpre
      obtain ⟨a,b,rfl⟩:∃ a b,pre=[a,b]:=by
        match pre,hpre with
        | [a,b],_=>exact ⟨a,b,rfl⟩
      obtain ⟨h1,h2,h3⟩:=hs.2 p hp
      refine ⟨[some (.str p.1,false),some (.int p.2,false)],rfl,by unfold pT; rw [Jx]; rfl,rfl,?_⟩
      simp! [cu,keyOf,hB.at h1,Ja,b64 h2 h3])
  simp! [a7w,ints_map,val]
theorem Jz {s:Sm} (hN:Wh N) (hs:a0v N s) (hB:Bk N B):qj [smT s,.dic B] sto=some (.int (val B s),sto):=by
  have hl:=a4k hN hs
  unfold qj smT
  simp! [m6]
  generalize hF:uy _ _ _ _ _ _ _=r
  obtain rfl:=Tn hF pT (fun p=>.int (p.2 * bk B p.1)) s.2 ⟨[some (smT s,false),some (.dic B,false)],sto⟩ [some (smT s,false),some (.dic B,false)] [some (.dic B,false)]
    (by unfold smT; simp! [vd,hl]) rfl rfl rfl (Nat.le_of_lt hl) (by
      intro p hp pre hpre
      obtain ⟨a,b,rfl⟩:∃ a b,pre=[a,b]:=by
        match pre,hpre with
        | [a,b],_=>exact ⟨a,b,rfl⟩
      obtain ⟨h1,h2,h3⟩:=hs.2 p hp
      refine ⟨[some (.str p.1,false),some (.int p.2,false)],rfl,by unfold pT; rw [Jx]; rfl,rfl,?_⟩
      simp! [cu,keyOf,hB.at h1,Ja,b64 h2 h3])
  simp! [a7w,ints_map,val]
mutual
def tv (B G:List (Key × T)):Rem→Bool
  | .most s=>decide (val B s≤0)
  | .rest s m=>val B s%m==0
  | .pl h p=>bk G h==p
  | .all l=>a1b B G l
  | .any l=>a0g B G l
  | .no r=>!tv B G r
def a1b (B G:List (Key × T)):List Rem→Bool
  | []=>true
  | r::l=>tv B G r&&a1b B G l
def a0g (B G:List (Key × T)):List Rem→Bool
  | []=>false
  | r::l=>tv B G r||a0g B G l
end
theorem O4:∀ l:List Rem,a1b B G l=!(l.any fun r=>tv B G r==false)
  | []=>rfl
  | r::l=>by rw [a1b,O4 l,List.any_cons]; cases tv B G r <;> simp
theorem N7:∀ l:List Rem,a0g B G l=l.any fun r=>tv B G r==true
  | []=>rfl
  | r::l=>by rw [a0g,N7 l,List.any_cons]; cases tv B G r <;> simp
theorem a3u {a b:Bool}:eqO (.bl a) (.bl b)=some (.bl (a==b)):=by simp [eqO,eqT,eqD,dat,PyData.depth,PyData.eqv]
theorem U3 {k:Nat} {w:Bool} {ms:T}:∀ (l:List Rem) (o:Slot),(∀ r∈l,tu k [yq r,.dic B,.dic G] sto=some (.bl (tv B G r),sto)) →
    ∃ o',forL (hName 4) (sIf (gn (mOp eqO (gb (tu k) (ao (bh 4) (ao (bh 2) (ao (bh 3) fu)))) (bh 0))) (v9 (aq (.bl true))) zj) (l.map yq) ⟨[some (.bl w,false),some (ms,false),some (.dic B,false),some (.dic G,false),o],sto⟩
      = some (if (l.any fun r=>tv B G r==w) then .ret (.bl true) else .next,⟨[some (.bl w,false),some (ms,false),some (.dic B,false),some (.dic G,false),o'],sto⟩)
  | [],o,_=>⟨o,by simp [forL]⟩
  | r::l,o,h=>by
    have h1:=h r List.mem_cons_self
    obtain ⟨o',e⟩:=U3 (w:=w) (ms:=ms) l (some (yq r,false)) fun q hq=>h q (List.mem_cons_of_mem _ hq)
    cases hw:(tv B G r==w) with
    | true =>
      refine ⟨some (yq r,false),?_⟩
      rw [List.map_cons,forL]
      simp! [h1,a3u,hw]
    | false =>
      refine ⟨o',?_⟩
      rw [List.map_cons,forL]
      simp! [h1,a3u,hw]
      simpa using e
theorem a4d {k:Nat} {w:Bool} {l:List Rem} (hl:l.length≤5) (h:∀ r∈l,tu k [yq r,.dic B,.dic G] sto=some (.bl (tv B G r),sto)) :
    Ca (k+1) [.bl w,.tup (l.map yq),.dic B,.dic G] sto=some (.bl (l.any fun r=>tv B G r==w),sto):=by
  have lm:l.length<lim:=by show _<1000000; omega
  obtain ⟨o',e⟩:=U3 (w:=w) (ms:=.tup (l.map yq)) l none h
  unfold Ca
  cases hw:l.any fun r=>tv B G r==w
  all_goals
    rw [hw] at e
    simp only [if_true,if_false,Bool.false_eq_true] at e
    simp [qt,j7,Hj,Aa,bh,lm,e,v9,aq]
theorem holds (hN:Wh N) (hB:Bk N B) (hG:Bk (H.map (·.1)) G) {d:Nat} {r:Rem} (h:OkR N H d r):∀ k,2 * d<k→tu k [yq r,.dic B,.dic G] sto=some (.bl (tv B G r),sto):=by
  induction h with
  | most h =>
    intro k hk
    obtain ⟨k,rfl⟩:∃ j,k=j+1:=⟨k - 1,by omega⟩
    unfold tu yq tv
    simp! [m6,vd,jw,jz,uf,nj,qb,jy,jx,ug,ou,qd,uc,um,zu,yj,xu,oh,pq,yh,u9,ux,nu,nq,yd,uo,uh,ur,uw,zx,yc,yg,Ck,Cr,Cp,Cv,Cq,Cw,Wo,Wr,Wu,Ij,Ip,Ih,Ig,Ii,Im,Wm,Wt,Wk,value hN h hB]
  | rest h a b =>
    rename_i m
    intro k hk
    obtain ⟨k,rfl⟩:∃ j,k=j+1:=⟨k - 1,by omega⟩
    have hm:0<m:=by omega
    unfold tu yq tv
    simp! [m6,vd,Fb,jw,jz,uf,nj,qb,jy,jx,ug,ou,qd,uc,um,zu,yj,xu,oh,pq,yh,u9,ux,nu,nq,yd,uo,uh,ur,uw,zx,yc,yg,Ck,Cr,Cp,Cv,Cq,Cw,Wo,Wr,Wu,Ij,Ip,Ih,Ig,Ii,Im,Wm,Wt,Wk,value hN h hB,hm,jk]
  | pl h _ _ =>
    intro k hk
    obtain ⟨k,rfl⟩:∃ j,k=j+1:=⟨k - 1,by omega⟩
    have hi:=hG.at (List.mem_map.mpr ⟨_,h,rfl⟩)
    unfold tu yq tv
    simp! [m6,vd,Fb,jw,jz,uf,nj,qb,jy,jx,ug,ou,qd,uc,um,zu,yj,xu,oh,pq,yh,u9,ux,nu,nq,yd,uo,uh,ur,uw,zx,yc,yg,Ck,Cr,Cp,Cv,Cq,Cw,Wo,Wr,Wu,Ij,Ip,Ih,Ig,Ii,Im,Wm,Wt,Wk,jk,Bo hi]
  | all hl _ ih =>
    intro k hk
    obtain ⟨k,rfl⟩:∃ j,k=j+2:=⟨k - 2,by omega⟩
    have e:=a4d (w:=false) hl fun r hr=>ih r hr k (by omega)
    unfold tu yq tv
    simp! [m6,vd,jw,jz,uf,nj,qb,jy,jx,ug,ou,qd,uc,um,zu,yj,xu,oh,pq,yh,u9,ux,nu,nq,yd,uo,uh,ur,uw,zx,yc,yg,Ck,Cr,Cp,Cv,Cq,Cw,Wo,Wr,Wu,Ij,Ip,Ih,Ig,Ii,Im,Wm,Wt,Wk,zq,e,O4]
  | any hl _ ih =>
    intro k hk
    obtain ⟨k,rfl⟩:∃ j,k=j+2:=⟨k - 2,by omega⟩
    have e:=a4d (w:=true) hl fun r hr=>ih r hr k (by omega)
    unfold tu yq tv
    simp! [m6,vd,jw,jz,uf,nj,qb,jy,jx,ug,ou,qd,uc,um,zu,yj,xu,oh,pq,yh,u9,ux,nu,nq,yd,uo,uh,ur,uw,zx,yc,yg,Ck,Cr,Cp,Cv,Cq,Cw,Wo,Wr,Wu,Ij,Ip,Ih,Ig,Ii,Im,Wm,Wt,Wk,zq,e,N7]
  | no _ ih =>
    intro k hk
    obtain ⟨k,rfl⟩:∃ j,k=j+1:=⟨k - 1,by omega⟩
    unfold tu yq tv
    simp! [m6,vd,jw,jz,uf,nj,qb,jy,jx,ug,ou,qd,uc,um,zu,yj,xu,oh,pq,yh,u9,ux,nu,nq,yd,uo,uh,ur,uw,zx,yc,yg,Ck,Cr,Cp,Cv,Cq,Cw,Wo,Wr,Wu,Ij,Ip,Ih,Ig,Ii,Im,Wm,Wt,Wk,ih k (by omega)]
theorem a3f {w:Bool} {α:Type} (f:α→Bool):∀ l:List α,inL (.bl w) (l.map fun a=>T.bl (f a))=some (l.any fun a=>f a==w)
  | []=>rfl
  | a::l=>by simp [inL,eqD,dat,PyData.depth,PyData.eqv,a3f f l]
theorem a3h {w:Bool} {α:Type} (f:α→Bool) (l:List α):inT (.bl w) (.lst (l.map fun a=>T.bl (f a)))=some (.bl (l.any fun a=>f a==w)):=by
  simp [inT,dat,a3f]
theorem a3i {k:Nat} {w:Str} {l:List Rem} (hl:l.length≤5) (h:∀ r∈l,j9 k [yq r,.dic B,.dic G] sto=some (.bl (tv B G r),sto)) :
    uy 1 [1,2] (hName 0) (Aa (mOp cu (bh 0) (aq (.int 1)))) uz (gb (j9 k) (ao (bh 0) (ao (bh 1) (ao (bh 2) fu)))) ⟨[some (.tup [.str w,.tup (l.map yq)],false),some (.dic B,false),some (.dic G,false),none],sto⟩
      = some (.lst (l.map fun r=>.bl (tv B G r)),⟨[some (.tup [.str w,.tup (l.map yq)],false),some (.dic B,false),some (.dic G,false),none],sto⟩):=by
  have lm:l.length<lim:=by show _<1000000; omega
  refine qw yq (fun r=>.bl (tv B G r)) l (s1:=⟨[some (.tup [.str w,.tup (l.map yq)],false),some (.dic B,false),some (.dic G,false),none],sto⟩) _ [some (.dic B,false),some (.dic G,false)] (by simp! [vd,lm]) rfl rfl rfl (Nat.le_of_lt lm) ?_
  intro r hr pre hpre
  obtain ⟨a,rfl⟩:∃ a,pre=[a]:=by
    match pre,hpre with
    | [a],_=>exact ⟨a,rfl⟩
  refine ⟨[some (yq r,false)],rfl,rfl,rfl,?_⟩
  simp! [h r hr]
theorem Ou (hN:Wh N) (hB:Bk N B) (hG:Bk (H.map (·.1)) G) {d:Nat} {r:Rem} (h:OkR N H d r):∀ k,d<k→j9 k [yq r,.dic B,.dic G] sto=some (.bl (tv B G r),sto):=by
  induction h with
  | most h =>
    intro k hk
    obtain ⟨k,rfl⟩:∃ j,k=j+1:=⟨k - 1,by omega⟩
    unfold j9 yq tv
    simp! [m6,vd,jw,jz,uf,nj,qb,jy,jx,ug,ou,qd,uc,um,zu,yj,xu,oh,pq,yh,u9,ux,nu,nq,yd,uo,uh,ur,uw,zx,yc,yg,Ck,Cr,Cp,Cv,Cq,Cw,Wo,Wr,Wu,Ij,Ip,Ih,Ig,Ii,Im,Wm,Wt,Wk,Jz hN h hB]
  | rest h a b =>
    rename_i m
    intro k hk
    obtain ⟨k,rfl⟩:∃ j,k=j+1:=⟨k - 1,by omega⟩
    have hm:0<m:=by omega
    unfold j9 yq tv
    simp! [m6,vd,Fb,jw,jz,uf,nj,qb,jy,jx,ug,ou,qd,uc,um,zu,yj,xu,oh,pq,yh,u9,ux,nu,nq,yd,uo,uh,ur,uw,zx,yc,yg,Ck,Cr,Cp,Cv,Cq,Cw,Wo,Wr,Wu,Ij,Ip,Ih,Ig,Ii,Im,Wm,Wt,Wk,Jz hN h hB,hm,jk]
  | pl h _ _ =>
    intro k hk
    obtain ⟨k,rfl⟩:∃ j,k=j+1:=⟨k - 1,by omega⟩
    have hi:=hG.at (List.mem_map.mpr ⟨_,h,rfl⟩)
    unfold j9 yq tv
    simp! [m6,vd,Fb,jw,jz,uf,nj,qb,jy,jx,ug,ou,qd,uc,um,zu,yj,xu,oh,pq,yh,u9,ux,nu,nq,yd,uo,uh,ur,uw,zx,yc,yg,Ck,Cr,Cp,Cv,Cq,Cw,Wo,Wr,Wu,Ij,Ip,Ih,Ig,Ii,Im,Wm,Wt,Wk,jk,Bo hi]
  | all hl _ ih =>
    intro k hk
    obtain ⟨k,rfl⟩:∃ j,k=j+1:=⟨k - 1,by omega⟩
    have e:=a3i (w := "and") hl fun r hr=>ih r hr k (by omega)
    unfold j9 yq tv
    simp! [m6,jw,jz,uf,nj,qb,jy,jx,ug,ou,qd,uc,um,zu,yj,xu,oh,pq,yh,u9,ux,nu,nq,yd,uo,uh,ur,uw,zx,yc,yg,Ck,Cr,Cp,Cv,Cq,Cw,Wo,Wr,Wu,Ij,Ip,Ih,Ig,Ii,Im,Wm,Wt,Wk,zq,e,O4,Cj,a3h]
  | any hl _ ih =>
    intro k hk
    obtain ⟨k,rfl⟩:∃ j,k=j+1:=⟨k - 1,by omega⟩
    have e:=a3i (w := "or") hl fun r hr=>ih r hr k (by omega)
    unfold j9 yq tv
    simp! [m6,jw,jz,uf,nj,qb,jy,jx,ug,ou,qd,uc,um,zu,yj,xu,oh,pq,yh,u9,ux,nu,nq,yd,uo,uh,ur,uw,zx,yc,yg,Ck,Cr,Cp,Cv,Cq,Cw,Wo,Wr,Wu,Ij,Ip,Ih,Ig,Ii,Im,Wm,Wt,Wk,zq,e,N7,a3h]
  | no _ ih =>
    intro k hk
    obtain ⟨k,rfl⟩:∃ j,k=j+1:=⟨k - 1,by omega⟩
    unfold j9 yq tv
    simp! [m6,vd,jw,jz,uf,nj,qb,jy,jx,ug,ou,qd,uc,um,zu,yj,xu,oh,pq,yh,u9,ux,nu,nq,yd,uo,uh,ur,uw,zx,yc,yg,Ck,Cr,Cp,Cv,Cq,Cw,Wo,Wr,Wu,Ij,Ip,Ih,Ig,Ii,Im,Wm,Wt,Wk,ih k (by omega)]
theorem Ux {o:Sp} (ho:OkP N H o):o.sets.length<lim:=by have:=ho.len; show _<1000000; omega
end
end K
end
section
namespace C
open PySem
theorem a0w {k:Key} {t:T} {D:List (Key × T)} (h:k∉D.map (·.1)):La k t D=D++[(k,t)]:=by
  unfold La
  rw [if_neg]
  intro z
  obtain ⟨p,hp,e⟩:=List.any_eq_true.mp z
  exact h (List.mem_map.mpr ⟨p,hp,by simpa using e⟩)
theorem Z5 {l:List (Key × T)} (h:(l.map (·.1)).Nodup):l.foldl (fun d p=>La p.1 p.2 d) []=l:=by
  have go:∀ (l D:List (Key × T)),((D++l).map (·.1)).Nodup→l.foldl (fun d p=>La p.1 p.2 d) D=D++l:=by
    intro l
    induction l with
    | nil=>intro D _; simp
    | cons p l ih =>
      intro D h
      have hp:p.1∉D.map (·.1):=by
        rw [List.map_append,List.map_cons] at h
        intro z
        exact (List.nodup_append.mp h).2.2 p.1 z p.1 List.mem_cons_self rfl
      rw [List.foldl_cons,a0w hp,ih _ (by simpa using h)]
      simp
  simpa using go l [] (by simpa using h)
end C
namespace K
open C PySem
def dn (N:List Str) (f:Str→Int):List (Key × T):=N.map fun x=>(.inr x,.int (f x))
theorem Gf {f:Str→Int} {x:Str}:∀ {N:List Str},x∈N→Cm (.inr x) (dn N f)=some (.int (f x))
  | [],h=>by cases h
  | y::N,h=>by
    unfold dn
    rw [List.map_cons,Cm]
    by_cases e:y=x
    · subst e; simp
    · rw [if_neg (by simpa using e)]
      exact Gf ((List.mem_cons.mp h).resolve_left fun z=>e z.symm)
theorem Zn (N:List Str) (f:Str→Int):(dn N f).map (fun p=>p.1)=N.map Sum.inr:=by
  unfold dn; rw [List.map_map]; rfl
theorem a3n {N:List Str} (h:N.Nodup):(N.map (Sum.inr:Str→Key)).Nodup:=List.Pairwise.map _ (fun a b hab e=>hab (Sum.inr.inj e)) h
theorem Vb {N:List Str} {f:Str→Int} (h:N.Nodup):Bk N (dn N f) :=
  ⟨fun x hx=>⟨_,Gf hx⟩,fun p hp=>by obtain ⟨x,_,rfl⟩:=List.mem_map.mp hp; exact ⟨_,rfl⟩,by rw [Zn]; exact a3n h⟩
theorem aax {N:List Str} {f:Str→Int} {x:Str} (h:x∈N):bk (dn N f) x=f x:=by unfold bk; rw [Gf h]
theorem Tw {N:List Str} {f:Str→Int} (h:N.Nodup) (hl:N.length<lim) {ks:List T} (hk:ks=N.map T.str) {vs:List T} (hv:vs=N.map fun x=>T.int (f x)):G3 (.lst ks) (.tup vs)=some (.dic (dn N f)):=by
  subst hk hv
  have z:∀ N:List Str,a69 (N.map T.str) (N.map fun x=>T.int (f x))=N.map fun x=>.tup [.str x,.int (f x)]:=by
    intro N
    induction N with
    | nil=>rfl
    | cons x N ih=>unfold a69 at ih ⊢; rw [List.map_cons,List.map_cons,List.zip_cons_cons,List.map_cons,ih]; rfl
  have p:∀ N:List Str,vf (N.map fun x=>T.tup [.str x,.int (f x)])=some (dn N f):=by
    intro N
    induction N with
    | nil=>rfl
    | cons x N ih=>rw [List.map_cons,vf,ih]; rfl
  have l1:(N.map T.str).length<lim:=by rw [List.length_map]; exact hl
  have l2:(N.map fun x=>T.int (f x)).length<lim:=by rw [List.length_map]; exact hl
  unfold G3
  simp only [N8]
  rw [if_pos ⟨l1,l2⟩,z,p,Option.map_some,Z5 (by rw [Zn]; exact a3n h)]
def stT (bs:List Bx) (H:List Hd) (g f:Str→Int):T:=.tup [.tup (H.map fun h=>.int (g h.1)),.tup (bs.map fun b=>.int (f b.nm))]
section
variable {bs:List Bx} {H:List Hd} {ss:List Sp} {sto:List SO} {g f:Str→Int} {s:Sp}
abbrev nB (bs:List Bx):List Str:=bs.map (·.nm)
abbrev nH (H:List Hd):List Str:=H.map (·.1)
theorem Fd.lB (ok:Fd bs H ss):bs.length<lim:=by have:=ok.ns.1; rw [List.length_map] at this; show _<1000000; omega
theorem Fd.lH (ok:Fd bs H ss):H.length<lim:=by have:=ok.hs.2.1; show _<1000000; omega
theorem a67 (ok:Fd bs H ss):Dp [prT bs H ss,stT bs H g f] sto=some (.dic (dn (nB bs) f),sto):=by
  have i0:cu (prT bs H ss) (.int 0)=some (.lst (bs.map bxT)):=m6
  have j1:cu (stT bs H g f) (.int 1)=some (.tup (bs.map fun b=>.int (f b.nm))):=vd
  have lb:=ok.lB
  have c:=qw bxT (fun b=>T.str b.nm) bs (g:=hName 0) (nv:=1) (ci:=[]) (c:=uz) (it:=Aa (mOp cu (bh 0) (aq (.int 0)))) (e:=mOp cu (bh 0) (aq (.int 0))) (s:=⟨[some (prT bs H ss,false),some (stT bs H g f,false)],sto⟩) (s1:=⟨[some (prT bs H ss,false),some (stT bs H g f,false)],sto⟩) [some (prT bs H ss,false),some (stT bs H g f,false)] []
    (by simp! [i0,lb]) rfl rfl rfl (Nat.le_of_lt lb) (by
      intro b hb pre hp
      obtain ⟨a,rfl⟩:=C.p1 pre hp
      exact ⟨[some (bxT b,false)],rfl,rfl,rfl,by simp! [bxT,m6]⟩)
  have z:=Tw (f:=f) ok.ndB (by rw [List.length_map]; exact lb) (ks:=bs.map fun b=>T.str b.nm) (by rw [List.map_map]; rfl) (vs:=bs.map fun b=>.int (f b.nm)) (by rw [List.map_map]; rfl)
  unfold Dp
  simp! [c,j1,z]
theorem Zv (ok:Fd bs H ss):Aj [prT bs H ss,stT bs H g f] sto=some (.dic (dn (nH H) g),sto):=by
  have i1:cu (prT bs H ss) (.int 1)=some (.lst (H.map hT)):=vd
  have j0:cu (stT bs H g f) (.int 0)=some (.tup (H.map fun h=>.int (g h.1))):=m6
  have lb:=ok.lH
  have c:=qw hT (fun b=>T.str b.1) H (g:=hName 0) (nv:=1) (ci:=[]) (c:=uz) (it:=Aa (mOp cu (bh 0) (aq (.int 1)))) (e:=mOp cu (bh 0) (aq (.int 0))) (s:=⟨[some (prT bs H ss,false),some (stT bs H g f,false)],sto⟩) (s1:=⟨[some (prT bs H ss,false),some (stT bs H g f,false)],sto⟩) [some (prT bs H ss,false),some (stT bs H g f,false)] []
    (by simp! [i1,lb]) rfl rfl rfl (Nat.le_of_lt lb) (by
      intro b hb pre hp
      obtain ⟨a,rfl⟩:=C.p1 pre hp
      exact ⟨[some (hT b,false)],rfl,rfl,rfl,by simp! [hT,m6]⟩)
  have z:=Tw (f:=g) ok.ndH (by rw [List.length_map]; exact lb) (ks:=H.map fun b=>T.str b.1) (by rw [List.map_map]; rfl) (vs:=H.map fun h=>.int (g h.1)) (by rw [List.map_map]; rfl)
  unfold Aj
  simp! [c,j0,z]
def lkL (l:List (Str × Sm)) (x:Str):Option Sm:=l.foldl (fun acc p=>if p.1=x then some p.2 else acc) none
def a4l (l:List (Str × Sm)):List (Key × T):=l.foldl (fun d p=>La (.inr p.1) (smT p.2) d) []
theorem a0m (x:Str) (l:List (Str × Sm)):Cm (.inr x) (a4l l)=(lkL l x).map smT:=by
  have go:∀ (l:List (Str × Sm)) (D:List (Key × T)) (o:Option Sm),Cm (.inr x) D=o.map smT→Cm (.inr x) (l.foldl (fun d p=>La (.inr p.1) (smT p.2) d) D)=(l.foldl (fun acc p=>if p.1=x then some p.2 else acc) o).map smT:=by
    intro l
    induction l with
    | nil=>intro D o h; exact h
    | cons p l ih =>
      intro D o h
      rw [List.foldl_cons,List.foldl_cons] -- here
      refine ih _ _ ?_
      rw [a0q]
      by_cases e:p.1=x
      · rw [if_pos (by rw [e]),if_pos e]; rfl
      · rw [if_neg (by simpa using fun z=>e z.symm),if_neg e]; exact h
  exact go l [] none rfl
theorem a4m {x:Str} {l:List (Str × Sm)} {y:Sm} (h:lkL l x=some y):∃ p∈l,p.1=x∧p.2=y:=by
  have go:∀ (l:List (Str × Sm)) (o:Option Sm),l.foldl (fun acc p=>if p.1=x then some p.2 else acc) o=some y→o=some y∨∃ p∈l,p.1=x∧p.2=y:=by
    intro l
    induction l with
    | nil=>intro o h; exact .inl h
    | cons p l ih =>
      intro o h
      rw [List.foldl_cons] at h
      rcases ih _ h with z | ⟨q,hq,z⟩
      · by_cases e:p.1=x
        · rw [if_pos e] at z; exact .inr ⟨p,List.mem_cons_self,e,Option.some.inj z⟩
        · rw [if_neg e] at z; exact .inl z
      · exact .inr ⟨q,List.mem_cons_of_mem _ hq,z⟩
  rcases go l none h with z | z
  · cases z
  · exact z
theorem Za {l:List (Str × Sm)} (hl:l.length<lim):G6 [.tup (l.map seT)]=some (.dic (a4l l)):=by
  have p:∀ l:List (Str × Sm),vf (l.map seT)=some (l.map fun p=>((.inr p.1:Key),smT p.2)):=by
    intro l
    induction l with
    | nil=>rfl
    | cons x l ih=>rw [List.map_cons,seT,vf,ih]; rfl
  have l1:(l.map seT).length<lim:=by rw [List.length_map]; exact hl
  simp only [G6,if_pos l1,p,Option.map_some,List.foldl_map,a4l]
def vl (f:Str→Int) (y:Sm):Int:=y.1+(y.2.map fun p=>p.2 * f p.1).sum
theorem a3e {N:List Str} {y:Sm} (h:∀ p∈y.2,p.1∈N):val (dn N f) y=vl f y:=by
  unfold val vl
  congr 2
  apply List.map_congr_left
  intro p hp
  rw [aax (h p hp)]
def nv (f:Str→Int) (s:Sp) (x:Str):Int:=match lkL s.sets x with | some y=>vl f y | none=>f x
def R8 (f:Str→Int) (s:Sp) (b:Bx):Bool:=match lkL s.sets b.nm with | some y=>decide (b.lo≤vl f y)&&decide (vl f y≤b.hi) | none=>true
def ng (g:Str→Int) (s:Sp) (x:Str):Int:=if x=s.hand then s.there else g x
theorem a0e {a b c d e:T} {i j k l m:Nat} {s:Sta}:Ej [i,j,k,l,m] (.tup [a,b,c,d,e]) s=some (jf m e false (jf l d false (jf k c false (jf j b false (jf i a false s))))):=by simp [Ej]
theorem Jr (ok:Fd bs H ss) (hs:OkP (nB bs) H s):∀ (rest:List Bx) (acc:List Int) (o5 o6 o7 o8 o9 o10:Slot),(∀ b∈rest,b∈bs)→acc.length+rest.length≤2→∃ p5 p6 p7 p8 p9 p10:Slot,∃ vs:List Int,(rest.all (R8 f s)=true→vs=acc++rest.map fun b=>nv f s b.nm) ∧
    forL (Ej [5,6,7,8,9]) (j7 (vg 10 (mIf (gn (mOp inT (bh 5) (bh 3))) (gb Bf (ao (mOp cu (bh 3) (bh 5)) (ao (bh 1) fu))) (mOp cu (bh 1) (bh 5))))
      (j7 (sIf (Lq (gn (mOp inT (bh 5) (bh 3))) (mOr (gn (mOp ltT (bh 10) (bh 7))) (gn (mOp gtT (bh 10) (bh 8)))))
      (v9 (aq .non))
      zj)
      (mz 4 (bh 10)))) (rest.map bxT) ⟨[some (prT bs H ss,false),some (.dic (dn (nB bs) f),false),some (spT s,false),some (.dic (a4l s.sets),false),some (.lst (acc.map T.int),true),o5,o6,o7,o8,o9,o10],sto⟩
      = some (if rest.all (R8 f s)=true then .next else .ret .non,⟨[some (prT bs H ss,false),some (.dic (dn (nB bs) f),false),some (spT s,false),some (.dic (a4l s.sets),false),some (.lst (vs.map T.int),true),p5,p6,p7,p8,p9,p10],sto⟩)
  | [],acc,o5,o6,o7,o8,o9,o10,_,_=>⟨o5,o6,o7,o8,o9,o10,acc,fun _=>by simp,by simp [forL]⟩
  | b::rest,acc,o5,o6,o7,o8,o9,o10,hb,hl=>by
    have bm:=hb b List.mem_cons_self
    have bn:b.nm∈nB bs:=List.mem_map.mpr ⟨b,bm,rfl⟩
    simp only [List.length_cons] at hl
    have al:acc.length<lim:=by show _<1000000; omega
    have g1:=Gf (f:=f) bn
    have sg:=a0m b.nm s.sets
    have i1:=Bo g1
    cases hk:lkL s.sets b.nm with
    | none =>
      rw [hk] at sg
      have it:inT (.str b.nm) (.dic (a4l s.sets))=some (.bl false):=by simp [inT,keyOf,sg]
      have fb:R8 f s b=true:=by unfold R8; rw [hk]
      have en:nv f s b.nm=f b.nm:=by unfold nv; rw [hk]
      obtain ⟨p5,p6,p7,p8,p9,p10,vs,hv,e⟩:=Jr ok hs rest (acc++[f b.nm]) (some (.str b.nm,false)) (some (.str "",false)) (some (.int b.lo,false)) (some (.int b.hi,false)) (some (.int b.st,false)) (some (.int (f b.nm),false)) (fun c hc=>hb c (List.mem_cons_of_mem _ hc)) (by rw [List.length_append,List.length_singleton]; omega)
      refine ⟨p5,p6,p7,p8,p9,p10,vs,fun h=>?_,?_⟩
      · rw [List.all_cons,fb,Bool.true_and] at h
        rw [hv h,List.map_cons,en]; simp
      · rw [List.map_cons,forL]
        dsimp only
        rw [show Ej [5,6,7,8,9] (bxT b) _=_ from a0e]
        rw [List.all_cons,fb,Bool.true_and,← e]
        simp! [it,i1,al]
    | some y =>
      rw [hk] at sg
      obtain ⟨p,hp,e1,e2⟩:=a4m hk
      have oky:=(hs.set p hp).2
      rw [e2] at oky
      have it:inT (.str b.nm) (.dic (a4l s.sets))=some (.bl true):=by simp [inT,keyOf,sg]
      have i3:cu (.dic (a4l s.sets)) (.str b.nm)=some (smT y):=by simp [cu,keyOf,sg]
      have va:=value (sto:=sto) ok.ns oky (Vb (f:=f) ok.ndB)
      rw [a3e fun p hp=>(oky.2 p hp).1] at va
      have en:nv f s b.nm=vl f y:=by unfold nv; rw [hk]
      by_cases hf:R8 f s b=true
      · have hf':=hf
        unfold R8 at hf'
        rw [hk] at hf'
        simp only [Bool.and_eq_true,decide_eq_true_eq] at hf'
        have c1:decide (vl f y<b.lo)=false:=decide_eq_false (by omega)
        have c2:decide (b.hi<vl f y)=false:=decide_eq_false (by omega)
        have d1:¬ (vl f y<b.lo):=by omega
        have d2:¬ (b.hi<vl f y):=by omega
        obtain ⟨p5,p6,p7,p8,p9,p10,vs,hv,e⟩:=Jr ok hs rest (acc++[vl f y]) (some (.str b.nm,false)) (some (.str "",false)) (some (.int b.lo,false)) (some (.int b.hi,false)) (some (.int b.st,false)) (some (.int (vl f y),false)) (fun c hc=>hb c (List.mem_cons_of_mem _ hc)) (by rw [List.length_append,List.length_singleton]; omega)
        refine ⟨p5,p6,p7,p8,p9,p10,vs,fun h=>?_,?_⟩
        · rw [List.all_cons,hf,Bool.true_and] at h
          rw [hv h,List.map_cons,en]; simp
        · rw [List.map_cons,forL]
          dsimp only
          rw [show Ej [5,6,7,8,9] (bxT b) _=_ from a0e]
          rw [List.all_cons,hf,Bool.true_and,← e]
          simp! [it,i3,va,gtT,d1,d2,al]
      · have hf2:R8 f s b=false:=eq_false_of_ne_true hf
        have hf':=hf2
        unfold R8 at hf'
        rw [hk] at hf'
        have out:vl f y<b.lo∨b.hi<vl f y:=by
          by_cases h1:b.lo≤vl f y
          · right
            simp only [decide_eq_true h1,Bool.true_and,decide_eq_false_iff_not] at hf'
            omega
          · left; omega
        refine ⟨some (.str b.nm,false),some (.str "",false),some (.int b.lo,false),some (.int b.hi,false),some (.int b.st,false),some (.int (vl f y),false),acc,fun h=>?_,?_⟩
        · rw [List.all_cons,hf2] at h; cases h
        · rw [List.map_cons,forL]
          dsimp only
          rw [show Ej [5,6,7,8,9] (bxT b) _=_ from a0e]
          rw [List.all_cons,hf2,Bool.false_and]
          by_cases d1:vl f y<b.lo
          · simp! [it,i3,va,gtT,d1]
          · have d2:b.hi<vl f y:=out.resolve_left d1
            simp! [it,i3,va,gtT,d1,d2]
theorem N6 (ok:Fd bs H ss) (hs:OkP (nB bs) H s):qy [prT bs H ss,.dic (dn (nB bs) f),spT s] sto=some (if bs.all (R8 f s)=true then .tup (bs.map fun b=>.int (nv f s b.nm)) else .non,sto):=by
  have i0:cu (prT bs H ss) (.int 0)=some (.lst (bs.map bxT)):=m6
  have i3:cu (spT s) (.int 3)=some (.tup (s.sets.map seT)):=a3x
  have lb:=ok.lB
  have l2:=ok.ns.1
  rw [List.length_map] at l2
  have ds:=Za (Ux hs)
  obtain ⟨p5,p6,p7,p8,p9,p10,vs,hv,e⟩:=Jr (sto:=sto) (f:=f) ok hs bs [] none none none none none none (fun b hb=>hb) (by simpa using l2)
  simp only [List.map_nil,List.nil_append] at e hv
  unfold qy
  by_cases h:bs.all (R8 f s)=true
  · rw [if_pos h] at e ⊢
    have hv':=hv h
    subst hv'
    simp! [i3,ds,i0,lb,e,qu]
  · rw [if_neg h] at e ⊢
    simp! [i3,ds,i0,lb,e]
theorem Nu (hok:∀ h∈H,okN h.1) (hl:H.length<lim) (hs:okN s.hand):qp [.dic (dn (nH H) g),spT s] sto=some (.tup (H.map fun h=>.int (ng g s h.1)),sto):=by
  have i0:cu (spT s) (.int 0)=some (.str s.hand):=m6
  have i4:cu (spT s) (.int 4)=some (.int s.there):=Fw (k:=4) rfl
  have it:Oi (bh 0) ⟨[some (.dic (dn (nH H) g),false),some (spT s,false)],sto⟩=some (H.map fun h=>.tup [.str h.1,.int (g h.1)],⟨[some (.dic (dn (nH H) g),false),some (spT s,false)],sto⟩):=by
    have e:bh 0 ⟨[some (.dic (dn (nH H) g),false),some (spT s,false)],sto⟩=some (.dic (dn (nH H) g),⟨[some (.dic (dn (nH H) g),false),some (spT s,false)],sto⟩):=rfl
    unfold Oi a8w
    rw [e]
    dsimp only
    rw [if_pos (by unfold dn; rw [List.length_map,List.length_map]; exact hl)]
    unfold Ib dn
    rw [List.map_map,List.map_map]; rfl
  have c:=qw (fun h:Hd=>T.tup [.str h.1,.int (g h.1)]) (fun h=>T.int (ng g s h.1)) H (g:=Ej [0,1]) (nv:=2) (ci:=[1]) (c:=uz) (it:=Oi (bh 0)) (e:=mIf (gn (mOp eqO (bh 0) (mOp cu (bh 2) (aq (.int 0))))) (mOp cu (bh 2) (aq (.int 4))) (bh 1)) (s:=⟨[some (.dic (dn (nH H) g),false),some (spT s,false)],sto⟩) (s1:=⟨[some (.dic (dn (nH H) g),false),some (spT s,false)],sto⟩) [some (.dic (dn (nH H) g),false),some (spT s,false)] [some (spT s,false)]
    it rfl rfl rfl (Nat.le_of_lt hl) (by
      intro h hh pre hp
      obtain ⟨a,b,rfl⟩:=C.p2 pre hp
      have eq:=X4 (hok h hh).1 hs.1
      refine ⟨[some (.str h.1,false),some (.int (g h.1),false)],rfl,by rw [Jx]; rfl,rfl,?_⟩
      by_cases e:h.1=s.hand
      · have eb:(h.1==s.hand)=true:=by simpa using e
        rw [eb] at eq
        have en:ng g s h.1=s.there:=if_pos e
        rw [en]
        simp! [i0,eq,i4]
      · have eb:(h.1==s.hand)=false:=beq_eq_false_iff_ne.mpr e
        rw [eb] at eq
        have en:ng g s h.1=g h.1:=if_neg e
        rw [en]
        simp! [i0,eq])
  unfold qp
  simp! [c,qu]
end
end K
end
section
namespace K
open C PySem
def en (bs:List Bx) (H:List Hd) (g f:Str→Int) (s:Sp):Bool:=(g s.hand==s.here)&&tv (dn (nB bs) f) (dn (nH H) g) s.guard&&bs.all (R8 f s)
def eT (p:Sp × Nat):T:=.tup [.int (p.2:Int),spT p.1]
def mvT (bs:List Bx) (H:List Hd) (g f:Str→Int) (p:Sp × Nat):T:=.tup [.int (p.2:Int),stT bs H (ng g p.1) (nv f p.1)]
theorem Fq {α β:Type} (f:α→β):∀ (l:List α) (n:Nat),(l.map f).zipIdx n=(l.zipIdx n).map fun p=>(f p.1,p.2)
  | [],n=>rfl
  | a::l,n=>by rw [List.map_cons,List.zipIdx_cons,List.zipIdx_cons,List.map_cons,Fq f l]
theorem a2h (ss:List Sp):Lb (ss.map spT)=ss.zipIdx.map eT:=by
  unfold Lb
  rw [Fq,List.map_map]; rfl
theorem Gk {α:Type} {p:α × Nat}:∀ {l:List α} {n:Nat},p∈l.zipIdx n→n≤p.2∧l[p.2 - n]? = some p.1
  | [],n,h=>by cases h
  | a::l,n,h=>by
    rw [List.zipIdx_cons] at h
    rcases List.mem_cons.mp h with rfl | h -- here
    · exact ⟨Nat.le_refl _,by simp⟩
    · obtain ⟨h1,h2⟩:=Gk h
      refine ⟨by omega,?_⟩
      rw [show p.2 - n=(p.2 - (n+1))+1 by omega]
      simpa using h2
section
variable {bs:List Bx} {H:List Hd} {ss:List Sp} {sto:List SO} {g f:Str→Int} {s:Sp}
theorem acu (ok:Fd bs H ss):∀ h∈H,okN h.1:=fun h hh=>(ok.hs.2.2 h hh).1
theorem moves (ok:Fd bs H ss) (hl:ss.length≤63):Dm [prT bs H ss,stT bs H g f] sto=some (.lst ((ss.zipIdx.filter fun p=>en bs H g f p.1).map (mvT bs H g f)),sto):=by
  have eb:=a67 (sto:=sto) (g:=g) (f:=f) ok
  have ep:=Zv (sto:=sto) (g:=g) (f:=f) ok
  have i2:cu (prT bs H ss) (.int 2)=some (.lst (ss.map spT)):=Fb
  have sl:ss.length<lim:=by show _<1000000; omega
  unfold Dm qt
  rw [show ([prT bs H ss,stT bs H g f].map (fun t=>some (t,false))++List.replicate (8 - [prT bs H ss,stT bs H g f].length) none:List Slot)=[some (prT bs H ss,false),some (stT bs H g f,false),none,none,none,none,none,none] from rfl]
  rw [gq (s':=⟨[some (prT bs H ss,false),some (stT bs H g f,false),some (.dic (dn (nB bs) f),false),none,none,none,none,none],sto⟩) (by simp! [eb])]
  rw [gq (s':=⟨[some (prT bs H ss,false),some (stT bs H g f,false),some (.dic (dn (nB bs) f),false),some (.dic (dn (nH H) g),false),none,none,none,none],sto⟩) (by simp! [ep])]
  rw [gq (s':=⟨[some (prT bs H ss,false),some (stT bs H g f,false),some (.dic (dn (nB bs) f),false),some (.dic (dn (nH H) g),false),some (.lst [],true),none,none,none],sto⟩) rfl]
  have it:Gv (mOp cu (bh 0) (aq (.int 2))) ⟨[some (prT bs H ss,false),some (stT bs H g f,false),some (.dic (dn (nB bs) f),false),some (.dic (dn (nH H) g),false),some (.lst [],true),none,none,none],sto⟩=some (ss.zipIdx.map eT,⟨[some (prT bs H ss,false),some (stT bs H g f,false),some (.dic (dn (nB bs) f),false),some (.dic (dn (nH H) g),false),some (.lst [],true),none,none,none],sto⟩):=by
    rw [← a2h]
    simp! [Gv,i2,sl]
  obtain ⟨o5,o6,o7,eF⟩:∃ o5 o6 o7:Slot,Hj (Ej [5,6]) (Gv (mOp cu (bh 0) (aq (.int 2))))
      (sIf (Lq (gn (mOp eqO (mOp cu (bh 3) (mOp cu (bh 6) (aq (.int 0)))) (mOp cu (bh 6) (aq (.int 1))))) (gn (gb (tu 40) (ao (mOp cu (bh 6) (aq (.int 2))) (ao (bh 2) (ao (bh 3) fu))))))
      (j7 (vg 7 (gb qy (ao (bh 0) (ao (bh 2) (ao (bh 6) fu)))))
      (sIf (gn (mOp Bj (bh 7) (aq .non)))
      (mz 4 (jo (fun l=>some (.tup l)) (ao (bh 5) (ao (jo (fun l=>some (.tup l)) (ao (gb qp (ao (bh 3) (ao (bh 6) fu))) (ao (bh 7) fu))) fu))))
      zj))
      zj) ⟨[some (prT bs H ss,false),some (stT bs H g f,false),some (.dic (dn (nB bs) f),false),some (.dic (dn (nH H) g),false),some (.lst [],true),none,none,none],sto⟩
      = some (.next,⟨[some (prT bs H ss,false),some (stT bs H g f,false),some (.dic (dn (nB bs) f),false),some (.dic (dn (nH H) g),false),some (.lst ((ss.zipIdx.filter fun p=>en bs H g f p.1).map (mvT bs H g f)),true),o5,o6,o7],sto⟩):=by
    unfold Hj
    rw [it]
    dsimp only
    generalize hF:forL _ _ _ _=qq
    obtain ⟨s',rfl,P⟩:=Ft hF (fun ts st=>∃ (m:List (Sp × Nat)) (acc:List T) (o5 o6 o7:Slot),ts=m.map eT∧(∀ p∈m,p.1∈ss)∧acc.length+m.length≤63∧st=⟨[some (prT bs H ss,false),some (stT bs H g f,false),some (.dic (dn (nB bs) f),false),some (.dic (dn (nH H) g),false),some (.lst acc,true),o5,o6,o7],sto⟩∧acc++(m.filter fun p=>en bs H g f p.1).map (mvT bs H g f)=(ss.zipIdx.filter fun p=>en bs H g f p.1).map (mvT bs H g f))
      ⟨ss.zipIdx,[],none,none,none,rfl,fun p hp=>List.mem_of_getElem? (Gk hp).2,by simpa using hl,rfl,rfl⟩ (by
        rintro t r st ⟨m,acc,o5,o6,o7,e1,e2,e3,rfl,e4⟩
        cases m with
        | nil=>cases e1
        | cons p m =>
          cases e1
          have ps:=e2 p List.mem_cons_self
          have oks:=ok.ss p.1 ps
          simp only [List.length_cons] at e3
          have al:acc.length<lim:=by show _<1000000; omega
          have j0:cu (spT p.1) (.int 0)=some (.str p.1.hand):=m6
          have j1:cu (spT p.1) (.int 1)=some (.int p.1.here):=vd
          have j2:cu (spT p.1) (.int 2)=some (yq p.1.guard):=Fb
          have ig:=Bo (Gf (f:=g) (oks.mem))
          have hh:=holds (sto:=sto) ok.ns (Vb (f:=f) ok.ndB) (Vb (f:=g) ok.ndH) oks.gd 40 (by decide)
          have vb:=N6 (sto:=sto) (f:=f) ok oks
          have pb:=Nu (sto:=sto) (g:=g) (acu ok) ok.lH oks.hd
          rw [List.filter_cons] at e4
          by_cases h1:g p.1.hand=p.1.here
          · have b1:(g p.1.hand==p.1.here)=true:=by simpa using h1
            cases h2:tv (dn (nB bs) f) (dn (nH H) g) p.1.guard with
            | false =>
              rw [h2] at hh
              have ef:en bs H g f p.1=false:=by unfold en; rw [b1,h2]; rfl
              rw [if_neg (by rw [ef]; exact Bool.false_ne_true)] at e4
              exact ⟨_,⟨[some (prT bs H ss,false),some (stT bs H g f,false),some (.dic (dn (nB bs) f),false),some (.dic (dn (nH H) g),false),some (.lst acc,true),some (.int (p.2:Int),false),some (spT p.1,false),o7],sto⟩,by unfold eT; exact Jx,by simp! [j0,ig,j1,jk,b1,j2,hh],m,acc,_,_,_,rfl,fun v hv=>e2 v (List.mem_cons_of_mem _ hv),by omega,rfl,e4⟩
            | true =>
              rw [h2] at hh
              by_cases h3:bs.all (R8 f p.1)=true
              · have ef:en bs H g f p.1=true:=by unfold en; rw [b1,h2,h3]; rfl
                rw [if_pos ef] at e4
                rw [if_pos h3] at vb
                have nn:Bj (.tup (bs.map fun b=>.int (nv f p.1 b.nm))) .non=some (.bl true):=rfl
                refine ⟨_,⟨[some (prT bs H ss,false),some (stT bs H g f,false),some (.dic (dn (nB bs) f),false),some (.dic (dn (nH H) g),false),some (.lst (acc++[mvT bs H g f p]),true),some (.int (p.2:Int),false),some (spT p.1,false),some (.tup (bs.map fun b=>.int (nv f p.1 b.nm)),false)],sto⟩,by unfold eT; exact Jx,?_,m,acc++[mvT bs H g f p],_,_,_,rfl,fun v hv=>e2 v (List.mem_cons_of_mem _ hv),by rw [List.length_append,List.length_singleton]; omega,rfl,?_⟩
                · simp! [j0,ig,j1,jk,b1,j2,hh,vb,nn,pb,al,mvT,stT]
                · rw [← e4,List.map_cons,List.append_assoc]; rfl
              · have ef:en bs H g f p.1=false:=by unfold en; rw [b1,h2,eq_false_of_ne_true h3]; rfl
                rw [if_neg (by rw [ef]; exact Bool.false_ne_true)] at e4
                rw [if_neg h3] at vb
                have nn:Bj .non .non=some (.bl false):=rfl
                exact ⟨_,⟨[some (prT bs H ss,false),some (stT bs H g f,false),some (.dic (dn (nB bs) f),false),some (.dic (dn (nH H) g),false),some (.lst acc,true),some (.int (p.2:Int),false),some (spT p.1,false),some (.non,false)],sto⟩,by unfold eT; exact Jx,by simp! [j0,ig,j1,jk,b1,j2,hh,vb,nn],m,acc,_,_,_,rfl,fun v hv=>e2 v (List.mem_cons_of_mem _ hv),by omega,rfl,e4⟩
          · have b1:(g p.1.hand==p.1.here)=false:=beq_eq_false_iff_ne.mpr h1
            have ef:en bs H g f p.1=false:=by unfold en; rw [b1]; rfl
            rw [if_neg (by rw [ef]; exact Bool.false_ne_true)] at e4
            exact ⟨_,⟨[some (prT bs H ss,false),some (stT bs H g f,false),some (.dic (dn (nB bs) f),false),some (.dic (dn (nH H) g),false),some (.lst acc,true),some (.int (p.2:Int),false),some (spT p.1,false),o7],sto⟩,by unfold eT; exact Jx,by simp! [j0,ig,j1,jk,b1],m,acc,_,_,_,rfl,fun v hv=>e2 v (List.mem_cons_of_mem _ hv),by omega,rfl,e4⟩)
    obtain ⟨m,acc,o5,o6,o7,e1,e2,e3,rfl,e4⟩:=P
    cases m with
    | cons _ _=>cases e1
    | nil =>
      simp only [List.filter_nil,List.map_nil,List.append_nil] at e4
      subst e4
      exact ⟨o5,o6,o7,rfl⟩
  rw [gq eF]
  simp! []
def cn (bs:List Bx) (H:List Hd) (ss:List Sp) (g f:Str→Int):List Nat:=(ss.zipIdx.filter fun p=>en bs H g f p.1).map (·.2)
theorem a8s {s:Sp} (h:en bs H g f s=true):bs.all (R8 f s)=true:=by
  unfold en at h
  simp only [Bool.and_eq_true] at h -- here
  exact h.2
end
end K
end
section
namespace C
open PySem
mutual
theorem Oj:∀ (t:T) {d:PyData},dat t=some d→noObj t=true
  | .non,_,_=>rfl
  | .bl _,_,_=>rfl
  | .int _,_,_=>rfl
  | .str _,_,_=>rfl
  | .tup xs,d,h=>by
    rw [dat] at h
    rw [noObj]
    cases e:Fz xs with
    | none=>rw [e] at h; cases h
    | some ds=>exact Hf xs e
  | .lst xs,d,h=>by
    rw [dat] at h
    rw [noObj]
    cases e:Fz xs with
    | none=>rw [e] at h; cases h
    | some ds=>exact Hf xs e
  | .dic _,d,h=>by rw [dat] at h; cases h
  | .obj _,d,h=>by rw [dat] at h; cases h
theorem Hf:∀ (xs:List T) {ds:List PyData},Fz xs=some ds→Hw xs=true
  | [],_,_=>rfl
  | x::r,ds,h=>by
    rw [Fz] at h
    rw [Hw]
    cases e:dat x with
    | none=>rw [e] at h; cases h
    | some a =>
      rw [e] at h
      dsimp only at h
      cases e2:Fz r with
      | none=>rw [e2] at h; cases h
      | some b=>rw [Oj x e,Hf r e2]; rfl
end
theorem J4 {n:Nat} {t:T} (h:Pl n t):noObj t=true:=by
  obtain ⟨d,e,_⟩:=h
  exact Oj t e
end C
namespace K
open C PySem
theorem Xl {n m:Nat} {t:T} (h:Pl n t) (hm:n≤m):Pl m t:=by
  obtain ⟨d,e1,e2⟩:=h
  exact ⟨d,e1,Nat.le_trans e2 hm⟩
section
variable {N:List Str} {H:List Hd} {sto:List SO} {s o:Sp}
theorem a0f (hN:Wh N) {x:Sm} (h:a0v N x):Pl 3 (smT x):=v8 (n:=2) fun t ht=>by
  simp only [List.mem_cons,List.not_mem_nil,or_false] at ht
  rcases ht with rfl | rfl
  · exact Ay 2 _
  · exact v8 (n:=1) fun t ht=>by
      obtain ⟨p,hp,rfl⟩:=List.mem_map.mp ht
      exact v8 (n:=0) fun t ht=>by
        simp only [List.mem_cons,List.not_mem_nil,or_false] at ht
        rcases ht with rfl | rfl
        · exact Bc 0 (hN.2 _ (h.2 p hp).1).1
        · exact Ay 0 _
theorem ac3:okS "most" ∧ okS "rest" ∧ okS "at" ∧ okS "and" ∧ okS "or" ∧ okS "not" ∧ okS "" := by unfold okS; decide +kernel
theorem a4e (hN:Wh N) (hH:a7d H) {d:Nat} {r:Rem} (h:OkR N H d r):Pl (2 * d+4) (yq r):=by
  obtain ⟨w1,w2,w3,w4,w5,w6,_⟩:=ac3
  induction h with
  | most h =>
    unfold yq
    exact v8 fun t ht=>by
      simp only [List.mem_cons,List.not_mem_nil,or_false] at ht
      rcases ht with rfl | rfl
      · exact Bc _ w1
      · exact Xl (a0f hN h) (by omega)
  | rest h _ _ =>
    unfold yq
    exact v8 fun t ht=>by
      simp only [List.mem_cons,List.not_mem_nil,or_false] at ht
      rcases ht with rfl | rfl | rfl
      · exact Bc _ w2
      · exact Xl (a0f hN h) (by omega)
      · exact Ay _ _
  | pl h _ _ =>
    unfold yq
    exact v8 fun t ht=>by
      simp only [List.mem_cons,List.not_mem_nil,or_false] at ht
      rcases ht with rfl | rfl | rfl
      · exact Bc _ w3
      · exact Bc _ (hH.2.2 _ h).1.1
      · exact Ay _ _
  | all _ _ ih =>
    unfold yq
    rw [zq]
    exact v8 fun t ht=>by
      simp only [List.mem_cons,List.not_mem_nil,or_false] at ht
      rcases ht with rfl | rfl
      · exact Bc _ w4
      · exact v8 fun t ht=>by
          obtain ⟨r,hr,rfl⟩:=List.mem_map.mp ht
          exact ih r hr
  | any _ _ ih =>
    unfold yq
    rw [zq]
    exact v8 fun t ht=>by
      simp only [List.mem_cons,List.not_mem_nil,or_false] at ht
      rcases ht with rfl | rfl
      · exact Bc _ w5
      · exact v8 fun t ht=>by
          obtain ⟨r,hr,rfl⟩:=List.mem_map.mp ht
          exact ih r hr
  | no _ ih =>
    unfold yq
    exact v8 fun t ht=>by
      simp only [List.mem_cons,List.not_mem_nil,or_false] at ht
      rcases ht with rfl | rfl
      · exact Bc _ w6
      · exact Xl ih (by omega)
theorem abv {bs:List Bx} {ss:List Sp} (ok:Fd bs H ss):Pl 14 (prT bs H ss):=by
  obtain ⟨w1,w2,w3,w4,w5,w6,w7⟩:=ac3
  refine v8 (n:=13) fun t ht=>?_
  simp only [List.mem_cons,List.not_mem_nil,or_false] at ht
  rcases ht with rfl | rfl | rfl | rfl
  · exact Ma (n:=12) fun t ht=>by
      obtain ⟨b,hb,rfl⟩:=List.mem_map.mp ht
      exact v8 (n:=11) fun t ht=>by
        simp only [List.mem_cons,List.not_mem_nil,or_false] at ht
        rcases ht with rfl | rfl | rfl | rfl | rfl
        · exact Bc _ (ok.bx b hb).1.1
        · exact Bc _ w7
        · exact Ay _ _
        · exact Ay _ _
        · exact Ay _ _
  · exact Ma (n:=12) fun t ht=>by
      obtain ⟨h,hh,rfl⟩:=List.mem_map.mp ht
      exact v8 (n:=11) fun t ht=>by
        simp only [List.mem_cons,List.not_mem_nil,or_false] at ht
        rcases ht with rfl | rfl
        · exact Bc _ (ok.hs.2.2 h hh).1.1
        · exact Ay _ _
  · exact Ma (n:=12) fun t ht=>by
      obtain ⟨s,hs,rfl⟩:=List.mem_map.mp ht
      have o:=ok.ss s hs
      exact v8 (n:=11) fun t ht=>by
        simp only [List.mem_cons,List.not_mem_nil,or_false] at ht
        rcases ht with rfl | rfl | rfl | rfl | rfl
        · exact Bc _ o.hd.1
        · exact Ay _ _
        · exact Xl (a4e ok.ns ok.hs o.gd) (by decide)
        · exact v8 (n:=10) fun t ht=>by
            obtain ⟨p,hp,rfl⟩:=List.mem_map.mp ht
            exact v8 (n:=9) fun t ht=>by
              simp only [List.mem_cons,List.not_mem_nil,or_false] at ht
              rcases ht with rfl | rfl
              · exact Bc _ (ok.ns.2 _ (o.set p hp).1).1
              · exact Xl (a0f ok.ns (o.set p hp).2) (by decide)
        · exact Ay _ _
  · exact v8 (n:=12) fun t ht=>by cases ht
end
section
variable {bs:List Bx} {H:List Hd} {ss:List Sp} {sto:List SO} {g f φ:Str→Int} {s:Sp}
theorem a8t:Pl 2 (stT bs H g f):=v8 (n:=1) fun t ht=>by
  simp only [List.mem_cons,List.not_mem_nil,or_false] at ht
  rcases ht with rfl | rfl
  · exact v8 (n:=0) fun t ht=>by obtain ⟨h,_,rfl⟩:=List.mem_map.mp ht; exact Ay 0 _
  · exact v8 (n:=0) fun t ht=>by obtain ⟨h,_,rfl⟩:=List.mem_map.mp ht; exact Ay 0 _
theorem a7c (f:Str→Int):∀ N:List Str,noObj (.dic (dn N f))=true
  | []=>rfl
  | x::N=>by
    have:=a7c f N
    unfold dn at this ⊢
    rw [noObj] at this ⊢
    rw [List.map_cons,O8,this]; rfl
theorem a3k {N:List Str} {x:Str} {v:Int} (h:x∈N):La (.inr x) (.int v) (dn N φ)=dn N fun y=>if y=x then v else φ y:=by
  unfold La
  have hh:((dn N φ).any fun p=>decide (p.1=Sum.inr x))=true:=List.any_eq_true.mpr ⟨(.inr x,.int (φ x)),List.mem_map.mpr ⟨x,h,rfl⟩,by simp⟩
  rw [if_pos hh]
  unfold dn
  rw [List.map_map]
  apply List.map_congr_left
  intro y _
  simp only [Function.comp]
  by_cases e:y=x
  · rw [if_pos (by rw [e]),if_pos e]
  · rw [if_neg (by simpa using e),if_neg e]
def upd (f:Str→Int) (φ:Str→Int) (p:Str × Sm):Str→Int:=fun y=>if y=p.1 then vl f p.2 else φ y
theorem a80:s.sets.foldl (upd f) f=nv f s:=by
  funext y
  have go:∀ (l:List (Str × Sm)) (φ:Str→Int) (o:Option Sm),(φ y=match o with | some z=>vl f z | none=>f y)→l.foldl (upd f) φ y=match l.foldl (fun acc p=>if p.1=y then some p.2 else acc) o with | some z=>vl f z | none=>f y:=by
    intro l
    induction l with
    | nil=>intro φ o h; exact h
    | cons p l ih =>
      intro φ o h
      rw [List.foldl_cons,List.foldl_cons] -- here
      refine ih _ _ ?_
      unfold upd
      by_cases e:p.1=y
      · rw [if_pos e.symm,if_pos e]
      · rw [if_neg (fun z=>e z.symm),if_neg e]; exact h
  exact go s.sets f none rfl
def inB (φ:Str→Int) (b:Bx):Bool:=decide (b.lo≤φ b.nm)&&decide (φ b.nm≤b.hi)
theorem a3l (h:bs.all (inB f)=true):bs.all (inB (nv f s))=bs.all (R8 f s):=by
  have go:∀ l:List Bx,l.all (inB f)=true→l.all (inB (nv f s))=l.all (R8 f s):=by
    intro l
    induction l with
    | nil=>intro _; rfl
    | cons b l ih =>
      intro h
      rw [List.all_cons,Bool.and_eq_true] at h -- here
      rw [List.all_cons,List.all_cons,ih h.2]
      congr 1
      unfold R8
      unfold inB nv
      cases hk:lkL s.sets b.nm with
      | none=>dsimp only; exact h.1
      | some y=>rfl
  exact go bs h
theorem a5a (ok:Fd bs H ss) {x:Sta} (h:bh 0 x=some (prT bs H ss,x)):uy 1 [] (hName 0) (Aa (mOp cu (bh 0) (aq (.int 1)))) uz (mOp cu (bh 0) (aq (.int 0))) x=some (.lst (H.map fun b=>T.str b.1),x):=by
  have i1:cu (prT bs H ss) (.int 1)=some (.lst (H.map hT)):=vd
  have lb:=ok.lH
  exact qw hT (fun b=>T.str b.1) H (g:=hName 0) (nv:=1) (ci:=[]) (c:=uz) (it:=Aa (mOp cu (bh 0) (aq (.int 1)))) (e:=mOp cu (bh 0) (aq (.int 0))) (s:=x) (s1:=x) x.env []
    (by simp [Aa,mOp,h,aq,i1,lb]) rfl rfl rfl (Nat.le_of_lt lb) (by
      intro b hb pre hp
      obtain ⟨a,rfl⟩:=C.p1 pre hp
      exact ⟨[some (hT b,false)],rfl,rfl,rfl,by simp! [hT,m6]⟩)
theorem a6n (ok:Fd bs H ss) {x:Sta} (h:bh 0 x=some (prT bs H ss,x)):uy 1 [] (hName 0) (Aa (mOp cu (bh 0) (aq (.int 0)))) uz (mOp cu (bh 0) (aq (.int 0))) x=some (.lst (bs.map fun b=>T.str b.nm),x):=by
  have i0:cu (prT bs H ss) (.int 0)=some (.lst (bs.map bxT)):=m6
  have lb:=ok.lB
  exact qw bxT (fun b=>T.str b.nm) bs (g:=hName 0) (nv:=1) (ci:=[]) (c:=uz) (it:=Aa (mOp cu (bh 0) (aq (.int 0)))) (e:=mOp cu (bh 0) (aq (.int 0))) (s:=x) (s1:=x) x.env []
    (by simp [Aa,mOp,h,aq,i0,lb]) rfl rfl rfl (Nat.le_of_lt lb) (by
      intro b hb pre hp
      obtain ⟨a,rfl⟩:=C.p1 pre hp
      exact ⟨[some (bxT b,false)],rfl,rfl,rfl,by simp! [bxT,m6]⟩)
theorem Uo {e0 e1 e2 e3 e4 e5 e6 e7 e8 e9:Slot}:∀ (rest:List Bx) (o11 o12:Slot),(∀ b∈rest,b.nm∈nB bs)→∃ p11:Slot,
    forL (hName 11) (sIf (mOr (gn (mOp ltT (rm 10 (mOp cu (bh 11) (aq (.int 0)))) (mOp cu (bh 11) (aq (.int 2))))) (gn (mOp gtT (rm 10 (mOp cu (bh 11) (aq (.int 0)))) (mOp cu (bh 11) (aq (.int 3))))))
      (v9 (aq .non))
      zj) (rest.map bxT) ⟨[e0,e1,e2,e3,e4,e5,e6,e7,e8,e9,some (.dic (dn (nB bs) φ),true),o11,o12],sto⟩
      = some (if rest.all (inB φ)=true then .next else .ret .non,⟨[e0,e1,e2,e3,e4,e5,e6,e7,e8,e9,some (.dic (dn (nB bs) φ),true),p11,o12],sto⟩)
  | [],o11,o12,_=>⟨o11,by simp [forL]⟩
  | b::rest,o11,o12,hb=>by
    have g1:=Gf (f:=φ) (hb b List.mem_cons_self)
    have j0:cu (bxT b) (.int 0)=some (.str b.nm):=m6
    have j2:cu (bxT b) (.int 2)=some (.int b.lo):=Fb
    have j3:cu (bxT b) (.int 3)=some (.int b.hi):=a3x
    obtain ⟨p11,e⟩:=Uo rest (some (bxT b,false)) o12 fun c hc=>hb c (List.mem_cons_of_mem _ hc)
    cases hf:inB φ b with
    | true =>
      have hf':=hf
      unfold inB at hf'
      simp only [Bool.and_eq_true,decide_eq_true_eq] at hf'
      have d1:¬ (φ b.nm<b.lo):=by omega
      have d2:¬ (b.hi<φ b.nm):=by omega
      refine ⟨p11,?_⟩
      rw [List.map_cons,forL]
      rw [List.all_cons,hf,Bool.true_and,← e]
      simp! [rm,G8,j0,keyOf,g1,j2,j3,gtT,d1,d2]
    | false =>
      have out:φ b.nm<b.lo∨b.hi<φ b.nm:=by
        unfold inB at hf
        simp only [Bool.and_eq_false_iff,decide_eq_false_iff_not] at hf
        omega
      refine ⟨some (bxT b,false),?_⟩
      rw [List.map_cons,forL]
      rw [List.all_cons,hf,Bool.false_and]
      by_cases d1:φ b.nm<b.lo
      · simp! [rm,G8,j0,keyOf,g1,j2,j3,gtT,d1]
      · have d2:b.hi<φ b.nm:=out.resolve_left d1
        simp! [rm,G8,j0,keyOf,g1,j2,j3,gtT,d1,d2]
end
end K
end
section
namespace K
open C PySem
section
variable {bs:List Bx} {H:List Hd} {ss:List Sp} {sto:List SO} {g f φ:Str→Int} {s:Sp}
abbrev e5 (bs:List Bx) (H:List Hd) (ss:List Sp) (g f:Str→Int) (i:Nat) (a:Sp) (r:List Slot):List Slot:=some (prT bs H ss,false)::some (stT bs H g f,false)::some (.int (i:Int),false)::some (.str a.hand,false)::some (.int a.here,false)::some (yq a.guard,false)::some (.tup (a.sets.map seT),false)::some (.int a.there,false)::r
theorem Uy (ok:Fd bs H ss) {i:Nat} (hi:i<ss.length) (hR:bs.all (inB f)=true):vm [prT bs H ss,stT bs H g f,.int (i:Int)] sto=some (if en bs H g f ss[i]=true then stT bs H (ng g ss[i]) (nv f ss[i]) else .non,sto):=by
  have oks:=ok.ss _ (List.getElem_mem hi)
  have i2:cu (prT bs H ss) (.int 2)=some (.lst (ss.map spT)):=Fb
  have i0:cu (prT bs H ss) (.int 0)=some (.lst (bs.map bxT)):=m6
  have i1:cu (prT bs H ss) (.int 1)=some (.lst (H.map hT)):=vd
  have a1:=a1d spT ss hi
  have lb:=ok.lB
  have lh:=ok.lH
  have q1:cu (stT bs H g f) (.int 1)=some (.tup (bs.map fun b=>.int (f b.nm))):=vd
  have q0:cu (stT bs H g f) (.int 0)=some (.tup (H.map fun h=>.int (g h.1))):=m6
  have zB:=Tw (f:=f) ok.ndB (by rw [List.length_map]; exact lb) (ks:=bs.map fun b=>T.str b.nm) (by rw [List.map_map]; rfl) (vs:=bs.map fun b=>.int (f b.nm)) (by rw [List.map_map]; rfl)
  have zH:=Tw (f:=g) ok.ndH (by rw [List.length_map]; exact lh) (ks:=H.map fun b=>T.str b.1) (by rw [List.map_map]; rfl) (vs:=H.map fun h=>.int (g h.1)) (by rw [List.map_map]; rfl)
  generalize ss[i]=a at *
  have hh:=Ou (sto:=[]) ok.ns (Vb (f:=f) ok.ndB) (Vb (f:=g) ok.ndH) oks.gd 40 (by decide)
  have ig:=Gf (f:=g) oks.mem
  have n1:=J4 (abv ok)
  have n2:=J4 (a8t (bs:=bs) (H:=H) (g:=g) (f:=f))
  have n3:=J4 (a4e ok.ns ok.hs oks.gd)
  have n4:noObj (.tup (a.sets.map seT))=true:=J4 (n:=5) (v8 (n:=4) fun t ht=>by
    obtain ⟨p,hp,rfl⟩:=List.mem_map.mp ht
    exact v8 (n:=3) fun t ht=>by
      simp only [List.mem_cons,List.not_mem_nil,or_false] at ht
      rcases ht with rfl | rfl
      · exact Bc _ (ok.ns.2 _ (oks.set p hp).1).1
      · exact a0f ok.ns (oks.set p hp).2)
  have n5:=a7c g (nH H)
  have n6:=a7c f (nB bs)
  have el:O1 [8] (e5 bs H ss g f i a [some (.dic (dn (nH H) g),true),some (.dic (dn (nB bs) f),false),none,none,none])=e5 bs H ss g f i a [some (.dic (dn (nH H) g),false),some (.dic (dn (nB bs) f),false),none,none,none]:=by
    simp only [O1,lend,List.mapIdx_cons,List.mapIdx_nil,List.map_cons,List.map_nil]
    have ni:∀ z:Int,noObj (.int z)=true:=fun _=>rfl
    have nz:∀ z:Str,noObj (.str z)=true:=fun _=>rfl
    simp [n1,n2,n3,n4,n5,n6,ni,nz]
  unfold vm qt
  rw [show ([prT bs H ss,stT bs H g f,.int (i:Int)].map (fun t=>some (t,false))++List.replicate (13 - [prT bs H ss,stT bs H g f,.int (i:Int)].length) none:List Slot)=[some (prT bs H ss,false),some (stT bs H g f,false),some (.int (i:Int),false),none,none,none,none,none,none,none,none,none,none] from rfl]
  rw [gq (s':=⟨e5 bs H ss g f i a [none,none,none,none,none],sto⟩) (by simp! [e5,i2,a1,spT,a0e])]
  have c1:=a5a ok (x:=⟨e5 bs H ss g f i a [none,none,none,none,none],sto⟩) rfl
  rw [gq (s':=⟨e5 bs H ss g f i a [some (.dic (dn (nH H) g),true),none,none,none,none],sto⟩) (by simp! [e5,c1,q0,zH])]
  have c2:=a6n ok (x:=⟨e5 bs H ss g f i a [some (.dic (dn (nH H) g),true),none,none,none,none],sto⟩) rfl
  rw [gq (s':=⟨e5 bs H ss g f i a [some (.dic (dn (nH H) g),true),some (.dic (dn (nB bs) f),false),none,none,none],sto⟩) (by simp! [e5,c2,q1,zB])]
  have ec:Ob [8] (mOr (gn (mOp neO (rm 8 (bh 3)) (bh 4))) (Ws (gn (gb (j9 40) (ao (bh 5) (ao (bh 9) (ao (bh 8) fu))))))) ⟨e5 bs H ss g f i a [some (.dic (dn (nH H) g),true),some (.dic (dn (nB bs) f),false),none,none,none],sto⟩=some (!(g a.hand==a.here) || !(tv (dn (nB bs) f) (dn (nH H) g) a.guard),⟨e5 bs H ss g f i a [some (.dic (dn (nH H) g),true),some (.dic (dn (nB bs) f),false),none,none,none],sto⟩):=by
    unfold Ob
    dsimp only
    rw [el]
    cases h1:(g a.hand==a.here) with
    | false=>simp! [e5,rm,G8,keyOf,ig,Kq,h1]
    | true =>
      cases h2:tv (dn (nB bs) f) (dn (nH H) g) a.guard with
      | false=>rw [h2] at hh; simp! [e5,rm,G8,keyOf,ig,Kq,h1,hh]
      | true=>rw [h2] at hh; simp! [e5,rm,G8,keyOf,ig,Kq,h1,hh]
  have ee:en bs H g f a=((g a.hand==a.here)&&tv (dn (nB bs) f) (dn (nH H) g) a.guard&&bs.all (inB (nv f a))):=by rw [a3l hR]; rfl
  rw [ee]
  cases h12:((g a.hand==a.here)&&tv (dn (nB bs) f) (dn (nH H) g) a.guard) with
  | false =>
    have e12:(!(g a.hand==a.here) || !(tv (dn (nB bs) f) (dn (nH H) g) a.guard))=true:=by rw [← Bool.not_and,h12]; rfl
    rw [e12] at ec
    rw [Bool.false_and,if_neg Bool.false_ne_true]
    unfold j7 sIf
    rw [ec]
    rfl
  | true =>
    have e12:(!(g a.hand==a.here) || !(tv (dn (nB bs) f) (dn (nH H) g) a.guard))=false:=by rw [← Bool.not_and,h12]; rfl
    rw [e12] at ec
    rw [Bool.true_and]
    rw [gq (abh ec)]
    rw [gq (s':=⟨e5 bs H ss g f i a [some (.dic (dn (nH H) g),true),some (.dic (dn (nB bs) f),false),some (.dic (dn (nB bs) f),true),none,none],sto⟩) (by simp! [e5,G6])]
    obtain ⟨o11,o12,eF⟩:∃ o11 o12:Slot,Hj (Ej [11,12]) (Aa (bh 6)) (Du 10 (bh 11) (gb qj (ao (bh 12) (ao (bh 9) fu)))) ⟨e5 bs H ss g f i a [some (.dic (dn (nH H) g),true),some (.dic (dn (nB bs) f),false),some (.dic (dn (nB bs) f),true),none,none],sto⟩=some (.next,⟨e5 bs H ss g f i a [some (.dic (dn (nH H) g),true),some (.dic (dn (nB bs) f),false),some (.dic (dn (nB bs) (nv f a)),true),o11,o12],sto⟩):=by
      have it:Aa (bh 6) ⟨e5 bs H ss g f i a [some (.dic (dn (nH H) g),true),some (.dic (dn (nB bs) f),false),some (.dic (dn (nB bs) f),true),none,none],sto⟩=some (a.sets.map seT,⟨e5 bs H ss g f i a [some (.dic (dn (nH H) g),true),some (.dic (dn (nB bs) f),false),some (.dic (dn (nB bs) f),true),none,none],sto⟩):=by
        have:=Ux oks
        simp! [e5,this]
      unfold Hj
      rw [it]
      dsimp only
      generalize hF:forL _ _ _ _=qq
      obtain ⟨s',rfl,Q⟩:=Ft hF (fun ts st=>∃ (m:List (Str × Sm)) (φ:Str→Int) (o11 o12:Slot),ts=m.map seT∧(∀ p∈m,p∈a.sets)∧m.foldl (upd f) φ=nv f a∧st=⟨e5 bs H ss g f i a [some (.dic (dn (nH H) g),true),some (.dic (dn (nB bs) f),false),some (.dic (dn (nB bs) φ),true),o11,o12],sto⟩)
        ⟨a.sets,f,none,none,rfl,fun p hp=>hp,a80,rfl⟩ (by
          rintro t r st ⟨m,φ,o11,o12,e1,e2,e3,rfl⟩
          cases m with
          | nil=>cases e1
          | cons p m =>
            cases e1
            have okp:=oks.set p (e2 p List.mem_cons_self)
            have va:=Jz (sto:=sto) ok.ns okp.2 (Vb (f:=f) ok.ndB)
            rw [a3e fun p hp=>(okp.2.2 p hp).1] at va
            have dl:(dn (nB bs) φ).length<lim:=by unfold dn; rw [List.length_map,List.length_map]; exact lb
            have dp:La (.inr p.1) (.int (vl f p.2)) (dn (nB bs) φ)=dn (nB bs) (upd f φ p):=a3k okp.1
            refine ⟨_,⟨e5 bs H ss g f i a [some (.dic (dn (nH H) g),true),some (.dic (dn (nB bs) f),false),some (.dic (dn (nB bs) (upd f φ p)),true),some (.str p.1,false),some (smT p.2,false)],sto⟩,by rw [show seT p=.tup [.str p.1,smT p.2] from rfl,Jx],?_,m,_,_,_,rfl,fun q hq=>e2 q (List.mem_cons_of_mem _ hq),e3,rfl⟩
            simp! [e5,Du,G8,va,keyOf,dl,dp])
      obtain ⟨m,φ,o11,o12,e1,e2,e3,rfl⟩:=Q
      cases m with
      | cons _ _=>cases e1
      | nil =>
        rw [List.foldl_nil] at e3
        subst e3
        exact ⟨o11,o12,rfl⟩
    rw [gq eF]
    obtain ⟨p11,eR⟩:=Uo (bs:=bs) (φ:=nv f a) (sto:=sto) (e0:=some (prT bs H ss,false)) (e1:=some (stT bs H g f,false)) (e2:=some (.int (i:Int),false)) (e3:=some (.str a.hand,false)) (e4:=some (.int a.here,false)) (e5:=some (yq a.guard,false)) (e6:=some (.tup (a.sets.map seT),false)) (e7:=some (.int a.there,false)) (e8:=some (.dic (dn (nH H) g),true)) (e9:=some (.dic (dn (nB bs) f),false)) bs o11 o12 fun b hb=>List.mem_map.mpr ⟨b,hb,rfl⟩
    have it:Aa (mOp cu (bh 0) (aq (.int 0))) ⟨e5 bs H ss g f i a [some (.dic (dn (nH H) g),true),some (.dic (dn (nB bs) f),false),some (.dic (dn (nB bs) (nv f a)),true),o11,o12],sto⟩=some (bs.map bxT,⟨e5 bs H ss g f i a [some (.dic (dn (nH H) g),true),some (.dic (dn (nB bs) f),false),some (.dic (dn (nB bs) (nv f a)),true),o11,o12],sto⟩):=by simp! [e5,i0,lb]
    cases h3:bs.all (inB (nv f a)) with
    | false =>
      rw [h3,if_neg Bool.false_ne_true] at eR
      rw [if_neg Bool.false_ne_true]
      unfold j7 Hj
      rw [it]
      dsimp only
      rw [eR]
    | true =>
      rw [h3,if_pos rfl] at eR
      rw [if_pos rfl]
      rw [gq (a96 it eR)]
      have hl:(dn (nH H) g).length<lim:=by unfold dn; rw [List.length_map,List.length_map]; exact lh
      have dp:La (.inr a.hand) (.int a.there) (dn (nH H) g)=dn (nH H) (ng g a):=a3k oks.mem
      rw [gq (s':=⟨e5 bs H ss g f i a [some (.dic (dn (nH H) (ng g a)),true),some (.dic (dn (nB bs) f),false),some (.dic (dn (nB bs) (nv f a)),true),p11,o12],sto⟩) (by simp! [e5,Du,G8,keyOf,hl,dp])]
      have d1:=qw hT (fun h=>T.int (ng g a h.1)) H (g:=hName 0) (nv:=1) (ci:=[8]) (c:=uz) (it:=Aa (mOp cu (bh 0) (aq (.int 1)))) (e:=mOp cu (bh 1) (mOp cu (bh 0) (aq (.int 0)))) (s:=⟨e5 bs H ss g f i a [some (.dic (dn (nH H) (ng g a)),true),some (.dic (dn (nB bs) f),false),some (.dic (dn (nB bs) (nv f a)),true),p11,o12],sto⟩) (s1:=⟨e5 bs H ss g f i a [some (.dic (dn (nH H) (ng g a)),true),some (.dic (dn (nB bs) f),false),some (.dic (dn (nB bs) (nv f a)),true),p11,o12],sto⟩) (⟨e5 bs H ss g f i a [some (.dic (dn (nH H) (ng g a)),false),some (.dic (dn (nB bs) f),false),some (.dic (dn (nB bs) (nv f a)),true),p11,o12],sto⟩:Sta).env [some (.dic (dn (nH H) (ng g a)),false)]
        (by simp! [e5,i1,lh]) rfl rfl rfl (Nat.le_of_lt lh) (by
          intro b hb pre hp
          obtain ⟨x,rfl⟩:=C.p1 pre hp
          have j0:cu (hT b) (.int 0)=some (.str b.1):=m6
          have ib:=Bo (Gf (f:=ng g a) (List.mem_map.mpr ⟨b,hb,rfl⟩:b.1∈nH H))
          exact ⟨[some (hT b,false)],rfl,rfl,rfl,by simp! [e5,j0,ib]⟩)
      have d2:=qw bxT (fun b=>T.int (nv f a b.nm)) bs (g:=hName 0) (nv:=1) (ci:=[10]) (c:=uz) (it:=Aa (mOp cu (bh 0) (aq (.int 0)))) (e:=mOp cu (bh 1) (mOp cu (bh 0) (aq (.int 0)))) (s:=⟨e5 bs H ss g f i a [some (.dic (dn (nH H) (ng g a)),false),some (.dic (dn (nB bs) f),false),some (.dic (dn (nB bs) (nv f a)),true),p11,o12],sto⟩) (s1:=⟨e5 bs H ss g f i a [some (.dic (dn (nH H) (ng g a)),false),some (.dic (dn (nB bs) f),false),some (.dic (dn (nB bs) (nv f a)),true),p11,o12],sto⟩) (⟨e5 bs H ss g f i a [some (.dic (dn (nH H) (ng g a)),false),some (.dic (dn (nB bs) f),false),some (.dic (dn (nB bs) (nv f a)),false),p11,o12],sto⟩:Sta).env [some (.dic (dn (nB bs) (nv f a)),false)]
        (by simp! [e5,i0,lb]) rfl rfl rfl (Nat.le_of_lt lb) (by
          intro b hb pre hp
          obtain ⟨x,rfl⟩:=C.p1 pre hp
          have j0:cu (bxT b) (.int 0)=some (.str b.nm):=m6
          have ib:=Bo (Gf (f:=nv f a) (List.mem_map.mpr ⟨b,hb,rfl⟩:b.nm∈nB bs))
          exact ⟨[some (bxT b,false)],rfl,rfl,rfl,by simp! [e5,j0,ib]⟩)
      simp! [e5,d1,d2,qu]
      rfl
end
end K
end
section
namespace C
open PySem
end C
namespace K
open C PySem
section
variable {bs:List Bx} {H:List Hd} {ss:List Sp} {sto:List SO} {g f φ:Str→Int} {s:Sp}
theorem Wy {α:Type} (nm:α→Str) (v:α→Int):∀ l:List α,(l.map nm).Nodup→∃ f:Str→Int,∀ a∈l,f (nm a)=v a
  | [],_=>⟨fun _=>0,fun a h=>by cases h⟩
  | a::l,h=>by
    rw [List.map_cons,List.nodup_cons] at h
    obtain ⟨f,hf⟩:=Wy nm v l h.2
    refine ⟨fun x=>if x=nm a then v a else f x,fun c hc=>?_⟩
    rcases List.mem_cons.mp hc with rfl | hc -- here
    · simp
    · have:nm c≠nm a:=fun e=>h.1 (e ▸ List.mem_map.mpr ⟨c,hc,rfl⟩)
      simp only [if_neg this]; exact hf c hc
theorem first (ok:Fd bs H ss):∃ f,jj [prT bs H ss] sto=some (stT bs H (fun _=>0) f,sto)∧∀ b∈bs,f b.nm=b.st:=by
  obtain ⟨f,hf⟩:=Wy (fun b:Bx=>b.nm) (fun b=>b.st) bs ok.ndB
  refine ⟨f,?_,hf⟩
  have i0:cu (prT bs H ss) (.int 0)=some (.lst (bs.map bxT)):=m6
  have i1:cu (prT bs H ss) (.int 1)=some (.lst (H.map hT)):=vd
  have lb:=ok.lB
  have lh:=ok.lH
  have c1:=qw hT (fun _=>T.int 0) H (g:=hName 0) (nv:=1) (ci:=[]) (c:=uz) (it:=Aa (mOp cu (bh 0) (aq (.int 1)))) (e:=aq (.int 0)) (s:=⟨[some (prT bs H ss,false)],sto⟩) (s1:=⟨[some (prT bs H ss,false)],sto⟩) [some (prT bs H ss,false)] []
    (by simp! [i1,lh]) rfl rfl rfl (Nat.le_of_lt lh) (by
      intro b hb pre hp
      obtain ⟨a,rfl⟩:=C.p1 pre hp
      exact ⟨[some (hT b,false)],rfl,rfl,rfl,rfl⟩)
  have c2:=qw bxT (fun b=>T.int b.st) bs (g:=hName 0) (nv:=1) (ci:=[]) (c:=uz) (it:=Aa (mOp cu (bh 0) (aq (.int 0)))) (e:=mOp cu (bh 0) (aq (.int 4))) (s:=⟨[some (prT bs H ss,false)],sto⟩) (s1:=⟨[some (prT bs H ss,false)],sto⟩) [some (prT bs H ss,false)] []
    (by simp! [i0,lb]) rfl rfl rfl (Nat.le_of_lt lb) (by
      intro b hb pre hp
      obtain ⟨a,rfl⟩:=C.p1 pre hp
      have i4:cu (bxT b) (.int 4)=some (.int b.st):=Fw (k:=4) rfl
      exact ⟨[some (bxT b,false)],rfl,rfl,rfl,by simp! [i4]⟩)
  have e:bs.map (fun b=>T.int b.st)=bs.map fun b=>T.int (f b.nm):=List.map_congr_left fun b hb=>by rw [hf b hb]
  rw [e] at c2
  unfold jj
  simp! [c1,c2,qu,stT]
theorem acy {H:List Hd} (h3:H.length≤3):Vq (.lst [.int 0]) (.int (H.length:Int))=some (.lst (H.map fun _=>T.int 0)):=by
  have hc:0≤(H.length:Int)∧(H.length:Int)<1000000∧[T.int 0].length * (H.length:Int).toNat<lim:=by
    rw [Int.toNat_natCast]
    refine ⟨by omega,by omega,?_⟩
    show 1 * H.length<1000000
    omega
  simp only [Vq]
  rw [if_pos hc,Int.toNat_natCast]
  have:∀ l:List Hd,(List.replicate l.length [T.int 0]).flatten=l.map fun _=>T.int 0:=by
    intro l
    induction l with
    | nil=>rfl
    | cons a l ih=>rw [List.length_cons,List.replicate_succ,List.flatten_cons,ih]; rfl
  rw [this]
theorem Nv (F:T→T→Option T) (m:F (.lst [.int 0]) (.int (H.length:Int))=some (.lst (H.map fun _=>T.int 0))) (ok:Fd bs H ss) (hf:∀ b∈bs,f b.nm=b.st):(qt 1
  (v9 (jo (fun l=>some (.tup l)) (ao (jo qu (ao (mOp F (jo (fun l=>some (.lst l)) (ao (aq (.int 0)) fu)) (jo Nb (ao (mOp cu (bh 0) (aq (.int 1))) fu))) fu)) (ao (jo qu (ao (uy 1 [] (hName 0) (Aa (mOp cu (bh 0) (aq (.int 0)))) uz (mOp cu (bh 0) (aq (.int 4)))) fu)) fu)))):Fn) [prT bs H ss] sto=some (stT bs H (fun _=>0) f,sto):=by
  have i0:cu (prT bs H ss) (.int 0)=some (.lst (bs.map bxT)):=m6
  have i1:cu (prT bs H ss) (.int 1)=some (.lst (H.map hT)):=vd
  have lb:=ok.lB
  have lh:=ok.lH
  have c2:=qw bxT (fun b=>T.int b.st) bs (g:=hName 0) (nv:=1) (ci:=[]) (c:=uz) (it:=Aa (mOp cu (bh 0) (aq (.int 0)))) (e:=mOp cu (bh 0) (aq (.int 4))) (s:=⟨[some (prT bs H ss,false)],sto⟩) (s1:=⟨[some (prT bs H ss,false)],sto⟩) [some (prT bs H ss,false)] []
    (by simp! [i0,lb]) rfl rfl rfl (Nat.le_of_lt lb) (by
      intro b hb pre hp
      obtain ⟨a,rfl⟩:=C.p1 pre hp
      have i4:cu (bxT b) (.int 4)=some (.int b.st):=Fw (k:=4) rfl
      exact ⟨[some (bxT b,false)],rfl,rfl,rfl,by simp! [i4]⟩)
  have e:bs.map (fun b=>T.int b.st)=bs.map fun b=>T.int (f b.nm):=List.map_congr_left fun b hb=>by rw [hf b hb]
  rw [e] at c2
  simp! [i1,m,c2,qu,stT]
theorem Yr (ok:Fd bs H ss) (hf:∀ b∈bs,f b.nm=b.st):yt [prT bs H ss] sto=some (stT bs H (fun _=>0) f,sto):=Nv Vq (acy ok.hs.2.1) ok hf
theorem a5e (ok:Fd bs H ss) (hl:ss.length≤63) (hR:bs.all (inB f)=true):Bh [prT bs H ss,stT bs H g f] sto=some (.lst ((cn bs H ss g f).map fun (k:Nat)=>T.int (k:Int)),sto):=by
  have i2:cu (prT bs H ss) (.int 2)=some (.lst (ss.map spT)):=Fb
  have sl:ss.length<lim:=by show _<1000000; omega
  have rz:rangeT ss.length=ss.zipIdx.map fun p=>T.int (p.2:Int):=by
    have e:(ss.zipIdx.map fun p=>T.int (p.2:Int))=(ss.zipIdx.map Prod.snd).map fun (k:Nat)=>T.int (k:Int):=by rw [List.map_map]; rfl
    rw [e,List.zipIdx_map_snd]
    unfold rangeT
    rw [List.range_eq_range']
  unfold Bh cn
  simp only [qt,v9]
  generalize hF:uy _ _ _ _ _ _ _=r
  obtain rfl:=Y5 hF (fun p:Sp × Nat=>T.int (p.2:Int)) (fun p=>T.int (p.2:Int)) (fun p=>en bs H g f p.1) ss.zipIdx ⟨[some (prT bs H ss,false),some (stT bs H g f,false)],sto⟩ [some (prT bs H ss,false),some (stT bs H g f,false)] [some (prT bs H ss,false),some (stT bs H g f,false)]
    (by rw [← rz]; simp! [i2,sl]) rfl rfl rfl (by rw [List.length_zipIdx]; exact Nat.le_of_lt sl) (by
      intro p hp pre hpre
      obtain ⟨a,rfl⟩:=C.p1 pre hpre
      have h2:=(Gk hp).2
      rw [Nat.sub_zero] at h2
      obtain ⟨h3,h4⟩:=List.getElem?_eq_some_iff.mp h2
      have ln:=Uy (sto:=sto) (g:=g) ok h3 hR
      rw [h4] at ln
      refine ⟨[some (.int (p.2:Int),false)],rfl,rfl,?_,fun _=>rfl⟩
      cases he:en bs H g f p.1 with
      | true =>
        rw [he,if_pos rfl] at ln
        have nn:Bj (stT bs H (ng g p.1) (nv f p.1)) .non=some (.bl true):=rfl
        simp! [ln,nn]
      | false =>
        rw [he,if_neg Bool.false_ne_true] at ln
        have nn:Bj .non .non=some (.bl false):=rfl
        simp! [ln,nn])
  simp [List.map_map]
theorem aa6 (h:bs.all (inB f)=true) (he:en bs H g f s=true):bs.all (inB (nv f s))=true:=by
  rw [a3l h]; exact a8s he
theorem a9z (C0:List Nat):Pl 1 (.lst (C0.map fun (k:Nat)=>T.int (k:Int))):=Ma (n:=0) fun t ht=>by
  obtain ⟨k,_,rfl⟩:=List.mem_map.mp ht
  exact Ay 0 _
end
end K
end
section
namespace K
open C PySem
abbrev St2:=(Str→Int) × (Str→Int)
section
variable {bs:List Bx} {H:List Hd} {ss:List Sp} {sto:List SO}
abbrev tS (bs:List Bx) (H:List Hd) (x:St2):T:=stT bs H x.1 x.2
def mv (bs:List Bx) (H:List Hd) (ss:List Sp) (x:St2):List (Sp × Nat):=ss.zipIdx.filter fun p=>en bs H x.1 x.2 p.1
def to (x:St2) (p:Sp × Nat):St2:=(ng x.1 p.1,nv x.2 p.1)
def nxt (bs:List Bx) (H:List Hd) (ss:List Sp) (x:St2) (n:Int):Option St2:=((mv bs H ss x).find? fun p=>(p.2:Int)==n).map (to x)
def path (bs:List Bx) (H:List Hd) (ss:List Sp):List Int→St2→Option (St2 × List St2)
  | [],x=>some (x,[])
  | n::r,x=>match nxt bs H ss x n with
    | none=>none
    | some y=>match path bs H ss r y with
      | some (z,l)=>some (z,y::l)
      | none=>none
theorem Q9 (n:Int):∀ (ns:List Int) (x:St2),path bs H ss (ns++[n]) x=match path bs H ss ns x with
    | some (z,l)=>(match nxt bs H ss z n with | some y=>some (y,l++[y]) | none=>none)
    | none=>none
  | [],x=>by
    simp only [List.nil_append,path]
    cases nxt bs H ss x n <;> rfl
  | m::r,x=>by
    simp only [List.cons_append,path]
    cases h:nxt bs H ss x m with
    | none=>rfl
    | some y =>
      simp only []
      rw [Q9 n r y]
      cases path bs H ss r y with
      | none=>rfl
      | some p =>
        obtain ⟨z,l⟩:=p
        simp only []
        cases nxt bs H ss z n <;> rfl
theorem a8c (x:St2):(mv bs H ss x).length≤ss.length:=by
  have:=List.length_filter_le (fun p:Sp × Nat=>en bs H x.1 x.2 p.1) ss.zipIdx
  rw [List.length_zipIdx] at this
  exact this
theorem a9o {x:St2} {p:Sp × Nat} (h:p∈mv bs H ss x):∃ hk:p.2<ss.length,ss[p.2]=p.1∧en bs H x.1 x.2 p.1=true:=by
  obtain ⟨h1,h2⟩:=List.mem_filter.mp h
  have h3:=(Gk h1).2
  rw [Nat.sub_zero] at h3
  obtain ⟨h4,h5⟩:=List.getElem?_eq_some_iff.mp h3
  exact ⟨h4,h5,h2⟩
theorem a0b {x y:St2} {n:Int} (h:nxt bs H ss x n=some y):∃ p∈mv bs H ss x,(p.2:Int)=n∧y=to x p:=by
  unfold nxt at h
  cases e:(mv bs H ss x).find? fun p=>(p.2:Int)==n with
  | none=>rw [e] at h; cases h
  | some p =>
    rw [e] at h
    cases h
    exact ⟨p,List.mem_of_find?_eq_some e,by simpa using List.find?_some e,rfl⟩
def mvD (bs:List Bx) (H:List Hd) (ss:List Sp) (x:St2):List (Key × T):=(mv bs H ss x).map fun p=>(.inl (p.2:Int),tS bs H (to x p))
theorem Xv (x:St2) (n:Int):Cm (.inl n) (mvD bs H ss x)=(nxt bs H ss x n).map (tS bs H):=by
  unfold mvD nxt
  induction mv bs H ss x with
  | nil=>rfl
  | cons p l ih =>
    rw [List.map_cons,Cm,List.find?_cons]
    by_cases e:(p.2:Int)=n
    · rw [if_pos (congrArg Sum.inl e),show ((p.2:Int)==n)=true by simpa using e]; rfl
    · rw [if_neg (fun z=>e (Sum.inl.inj z)),show ((p.2:Int)==n)=false by simpa using e]; exact ih
theorem V1 (x:St2):∀ l:List (Sp × Nat),vf (l.map (mvT bs H x.1 x.2))=some (l.map fun p=>(.inl (p.2:Int),tS bs H (to x p)))
  | []=>rfl
  | p::l=>by rw [List.map_cons,List.map_cons]; exact Wg rfl (V1 x l)
theorem Ms {α:Type} (l:List α) (p:α × Nat→Bool):((l.zipIdx.filter p).map fun q=>q.2).Nodup:=by
  have h:(l.zipIdx.map fun q=>q.2).Nodup:=by
    rw [show (l.zipIdx.map fun q=>q.2)=List.range' 0 l.length from List.zipIdx_map_snd ..]
    exact List.nodup_range'
  exact h.sublist ((List.filter_sublist ..).map _)
theorem a5i (hl:ss.length≤63) (x:St2):G6 [.lst ((mv bs H ss x).map (mvT bs H x.1 x.2))]=some (.dic (mvD bs H ss x)):=by
  have len:((mv bs H ss x).map (mvT bs H x.1 x.2)).length<lim:=by
    rw [List.length_map]
    have:=a8c (bs:=bs) (H:=H) (ss:=ss) x
    show _<1000000
    omega
  simp only [G6]
  rw [if_pos len,V1]
  have nd:((mvD bs H ss x).map (·.1)).Nodup:=by
    unfold mvD
    rw [List.map_map]
    have e:((fun (q:Key × T)=>q.1) ∘ fun (p:Sp × Nat)=>((.inl (p.2:Int):Key),tS bs H (to x p)))=(fun (k:Nat)=>(Sum.inl (k:Int):Key)) ∘ fun (p:Sp × Nat)=>p.2:=rfl
    rw [e,← List.map_map]
    exact List.Pairwise.map _ (fun a b hab z=>hab (Int.ofNat.inj (Sum.inl.inj z))) (Ms ss _)
  rw [Option.map_some]
  exact congrArg (fun l=>some (T.dic l)) (Z5 nd)
theorem a9m (ok:Fd bs H ss) (hl:ss.length≤63) (x:St2):Dm [prT bs H ss,tS bs H x] sto=some (.lst ((mv bs H ss x).map (mvT bs H x.1 x.2)),sto):=moves (g:=x.1) (f:=x.2) ok hl
theorem a2u (x:St2) (n:Int):Cj (.int n) (.dic (mvD bs H ss x))=some (.bl (nxt bs H ss x n).isNone):=by
  simp only [Cj,inT,keyOf,Option.map_some,Xv]
  cases nxt bs H ss x n <;> rfl
theorem a4q {x y:St2} {n:Int} (h:nxt bs H ss x n=some y):cu (.dic (mvD bs H ss x)) (.int n)=some (tS bs H y):=by
  simp only [cu,keyOf,Option.bind_some,Xv,h,Option.map_some]
def wB:SX:=Sv (lx (vg 5 (jo G6 (ao (gb Dm (ao (bh 0) (ao (Bg 2 (mUn S9 (aq (.int 1)))) fu))) fu))))
  (Sv (xIf (gn (mOp Cj (bh 4) (bh 5)))
  (Km (bh 3))
  (lx zj))
  (lx (mz 2 (mOp cu (bh 5) (bh 4)))))
theorem Rr {α:Type} (l:List α) (a:α):(ixI (l++[a]).length (-1)).bind ((l++[a])[·]?)=some a:=by
  have h1:¬ (0:Int)≤-1:=by decide
  have h2:-((l++[a]).length:Int)≤-1:=by rw [List.length_append,List.length_singleton]; omega
  unfold ixI
  rw [if_neg h1,if_pos h2,Option.bind_some]
  have e:(-1+((l++[a]).length:Int)).toNat=l.length:=by rw [List.length_append,List.length_singleton]; omega
  rw [e]
  simp
theorem a6z (ok:Fd bs H ss) (hl:ss.length≤63) {acc:List St2} {x:St2} {p n:Int} {nm:T} {o5:Slot} (ha:acc.length<100) :
    wB ⟨[some (prT bs H ss,false),some (nm,false),some (.lst ((acc++[x]).map (tS bs H)),true),some (.int p,false),some (.int n,false),o5],sto⟩=(match nxt bs H ss x n with
      | some y=>some (.inl .next,⟨[some (prT bs H ss,false),some (nm,false),some (.lst ((acc++[x]++[y]).map (tS bs H)),true),some (.int p,false),some (.int n,false),some (.dic (mvD bs H ss x),false)],sto⟩)
      | none=>some (.inr (.int p),⟨[some (prT bs H ss,false),some (nm,false),some (.lst ((acc++[x]).map (tS bs H)),true),some (.int p,false),some (.int n,false),some (.dic (mvD bs H ss x),false)],sto⟩)):=by
  have em:=a9m (sto:=sto) ok hl x
  have ed:=a5i (bs:=bs) (H:=H) hl x
  have en:=a2u (bs:=bs) (H:=H) (ss:=ss) x n
  have li:(ixI ((acc++[x]).map (tS bs H)).length (-1)).bind (((acc++[x]).map (tS bs H))[·]?)=some (tS bs H x):=by
    rw [List.map_append]; exact Rr _ _
  have al:((acc++[x]).map (tS bs H)).length<lim:=by rw [List.length_map,List.length_append]; show _+1<1000000; omega
  generalize hA:(acc++[x]).map (tS bs H)=A at *
  have s1:vg 5 (jo G6 (ao (gb Dm (ao (bh 0) (ao (Bg 2 (mUn S9 (aq (.int 1)))) fu))) fu)) ⟨[some (prT bs H ss,false),some (nm,false),some (.lst A,true),some (.int p,false),some (.int n,false),o5],sto⟩=some (.next,⟨[some (prT bs H ss,false),some (nm,false),some (.lst A,true),some (.int p,false),some (.int n,false),some (.dic (mvD bs H ss x),false)],sto⟩):=by
    simp! [Bg,Hg,S9,li,em,ed]
  unfold wB
  simp only [Sv,lx,s1]
  cases hx:nxt bs H ss x n with
  | none =>
    rw [hx] at en
    simp! [xIf,Km,en]
  | some y =>
    rw [hx] at en
    have it:=a4q hx
    have e2:(acc++[x]++[y]).map (tS bs H)=A++[tS bs H y]:=by rw [List.map_append,hA]; rfl
    dsimp only
    rw [e2]
    simp! [xIf,Km,lx,en,it,al]
def eN (q:Int × Nat):T:=.tup [.int (q.2:Int),.int q.1]
theorem a1n (ns:List Int):Lb (ns.map T.int)=ns.zipIdx.map eN:=by
  unfold Lb
  rw [Fq,List.map_map]
  rfl
theorem Yo (ok:Fd bs H ss) (hl:ss.length≤63) {nm:T}:∀ (ns:List Int) (k:Nat) (acc:List St2) (x:St2) (o3 o4 o5:Slot) (z:St2) (l:List St2),acc.length+ns.length<100→path bs H ss ns x=some (z,l) →
    ∃ p3 p4 p5:Slot,El (Ej [3,4]) wB ((ns.zipIdx k).map eN) ⟨[some (prT bs H ss,false),some (nm,false),some (.lst ((acc++[x]).map (tS bs H)),true),o3,o4,o5],sto⟩=some (.inl .next,⟨[some (prT bs H ss,false),some (nm,false),some (.lst ((acc++[x]++l).map (tS bs H)),true),p3,p4,p5],sto⟩)
  | [],k,acc,x,o3,o4,o5,z,l,hn,hp=>by
    cases hp
    exact ⟨o3,o4,o5,by simp [El]⟩
  | n::ns,k,acc,x,o3,o4,o5,z,l,hn,hp=>by
    rw [path] at hp
    rw [List.length_cons] at hn
    have w:=a6z (sto:=sto) (nm:=nm) (o5:=o5) (acc:=acc) (x:=x) (p:=(k:Int)) (n:=n) ok hl (by omega)
    cases hx:nxt bs H ss x n with
    | none=>rw [hx] at hp; cases hp
    | some y =>
      rw [hx] at hp w
      dsimp only at hp w
      cases hq:path bs H ss ns y with
      | none=>rw [hq] at hp; cases hp
      | some q =>
        obtain ⟨z',l'⟩:=q
        rw [hq] at hp
        cases hp
        obtain ⟨p3,p4,p5,e⟩:=Yo ok hl (nm:=nm) ns (k+1) (acc++[x]) y (some (.int (k:Int),false)) (some (.int n,false)) (some (.dic (mvD bs H ss x),false)) z l' (by rw [List.length_append,List.length_singleton]; omega) hq
        refine ⟨p3,p4,p5,?_⟩
        rw [List.zipIdx_cons,List.map_cons,El]
        have g:Ej [3,4] (eN (n,k)) ⟨[some (prT bs H ss,false),some (nm,false),some (.lst ((acc++[x]).map (tS bs H)),true),o3,o4,o5],sto⟩=some ⟨[some (prT bs H ss,false),some (nm,false),some (.lst ((acc++[x]).map (tS bs H)),true),some (.int (k:Int),false),some (.int n,false),o5],sto⟩:=Jx
        dsimp only
        rw [g]
        dsimp only
        rw [w]
        dsimp only
        rw [e,List.append_assoc (acc++[x]) [y] l']
        rfl
theorem a3s (ok:Fd bs H ss) (hl:ss.length≤63) {nm:T} {n:Int} {r:List Int}:∀ (ns:List Int) (k:Nat) (acc:List St2) (x:St2) (o3 o4 o5:Slot) (z:St2) (l:List St2),acc.length+ns.length<99→path bs H ss ns x=some (z,l)→nxt bs H ss z n=none →
    ∃ st',El (Ej [3,4]) wB (((ns++n::r).zipIdx k).map eN) ⟨[some (prT bs H ss,false),some (nm,false),some (.lst ((acc++[x]).map (tS bs H)),true),o3,o4,o5],sto⟩=some (.inr (.int ((k+ns.length:Nat):Int)),st')∧st'.sto=sto
  | [],k,acc,x,o3,o4,o5,z,l,hn,hp,hx=>by
    cases hp
    have w:=a6z (sto:=sto) (nm:=nm) (o5:=o5) (acc:=acc) (x:=x) (p:=(k:Int)) (n:=n) ok hl (by omega)
    rw [hx] at w
    dsimp only at w
    refine ⟨⟨[some (prT bs H ss,false),some (nm,false),some (.lst ((acc++[x]).map (tS bs H)),true),some (.int (k:Int),false),some (.int n,false),some (.dic (mvD bs H ss x),false)],sto⟩,?_,rfl⟩
    rw [List.nil_append,List.zipIdx_cons,List.map_cons,El]
    have g:Ej [3,4] (eN (n,k)) ⟨[some (prT bs H ss,false),some (nm,false),some (.lst ((acc++[x]).map (tS bs H)),true),o3,o4,o5],sto⟩=some ⟨[some (prT bs H ss,false),some (nm,false),some (.lst ((acc++[x]).map (tS bs H)),true),some (.int (k:Int),false),some (.int n,false),o5],sto⟩:=Jx
    dsimp only
    rw [g]
    dsimp only
    rw [w]
    rfl
  | m::ns,k,acc,x,o3,o4,o5,z,l,hn,hp,hz=>by
    rw [path] at hp
    rw [List.length_cons] at hn
    have w:=a6z (sto:=sto) (nm:=nm) (o5:=o5) (acc:=acc) (x:=x) (p:=(k:Int)) (n:=m) ok hl (by omega)
    cases hx:nxt bs H ss x m with
    | none=>rw [hx] at hp; cases hp
    | some y =>
      rw [hx] at hp w
      dsimp only at hp w
      cases hq:path bs H ss ns y with
      | none=>rw [hq] at hp; cases hp
      | some q =>
        obtain ⟨z',l'⟩:=q
        rw [hq] at hp
        cases hp
        obtain ⟨st',e,es⟩:=a3s ok hl (nm:=nm) (r:=r) ns (k+1) (acc++[x]) y (some (.int (k:Int),false)) (some (.int m,false)) (some (.dic (mvD bs H ss x),false)) z l' (by rw [List.length_append,List.length_singleton]; omega) hq hz
        refine ⟨st',?_,es⟩
        rw [List.cons_append,List.zipIdx_cons,List.map_cons,El]
        have g:Ej [3,4] (eN (m,k)) ⟨[some (prT bs H ss,false),some (nm,false),some (.lst ((acc++[x]).map (tS bs H)),true),o3,o4,o5],sto⟩=some ⟨[some (prT bs H ss,false),some (nm,false),some (.lst ((acc++[x]).map (tS bs H)),true),some (.int (k:Int),false),some (.int m,false),o5],sto⟩:=Jx
        dsimp only
        rw [g]
        dsimp only
        rw [w]
        dsimp only
        rw [e,List.length_cons,show k+1+ns.length=k+(ns.length+1) by omega]
theorem Pa (ok:Fd bs H ss) {ns:List Int} (hn:ns.length<100) {f0:Str→Int} (e0:jj [prT bs H ss] sto=some (stT bs H (fun _=>0) f0,sto)) (R:SX) :
    (Sv (lx (sNew 2 (jo (fun l=>some (.lst l)) (ao (gb jj (ao (bh 0) fu)) fu)))) (Sv (a7k (Ej [3,4]) (Gv (bh 1)) wB) R)) ⟨[some (prT bs H ss,false),some (.lst (ns.map T.int),false),none,none,none,none],sto⟩ =
    (match El (Ej [3,4]) wB ((ns.zipIdx 0).map eN) ⟨[some (prT bs H ss,false),some (.lst (ns.map T.int),false),some (.lst (([]++[((fun _=>0:Str→Int),f0)]).map (tS bs H)),true),none,none,none],sto⟩ with
      | some (.inl .next,s1)=>R s1
      | r=>r):=by
  have s1:sNew 2 (jo (fun l=>some (.lst l)) (ao (gb jj (ao (bh 0) fu)) fu)) ⟨[some (prT bs H ss,false),some (.lst (ns.map T.int),false),none,none,none,none],sto⟩=some (.next,⟨[some (prT bs H ss,false),some (.lst (ns.map T.int),false),some (.lst (([]++[((fun _=>0:Str→Int),f0)]).map (tS bs H)),true),none,none,none],sto⟩):=by
    simp! [e0]
  have nl:ns.length<lim:=by show _<1000000; omega
  have it:Gv (bh 1) ⟨[some (prT bs H ss,false),some (.lst (ns.map T.int),false),some (.lst (([]++[((fun _=>0:Str→Int),f0)]).map (tS bs H)),true),none,none,none],sto⟩=some ((ns.zipIdx 0).map eN,⟨[some (prT bs H ss,false),some (.lst (ns.map T.int),false),some (.lst (([]++[((fun _=>0:Str→Int),f0)]).map (tS bs H)),true),none,none,none],sto⟩):=by
    rw [← a1n]
    simp! [Gv,nl]
  simp only [Sv,lx,s1]
  unfold a7k
  rw [it]
  try rfl
theorem wov:yw=Lw 6 (Sv (lx (sNew 2 (jo (fun l=>some (.lst l)) (ao (gb jj (ao (bh 0) fu)) fu)))) (Sv (a7k (Ej [3,4]) (Gv (bh 1)) wB) (lx (v9 (bh 2))))):=rfl
theorem Mi (ok:Fd bs H ss) (hl:ss.length≤63) {ns:List Int} (hn:ns.length<99) {f0:Str→Int} (e0:jj [prT bs H ss] sto=some (stT bs H (fun _=>0) f0,sto)) {z:St2} {l:List St2} (hp:path bs H ss ns (fun _=>0,f0)=some (z,l)) :
    yw [prT bs H ss,.lst (ns.map T.int)] sto=some (.inl (.lst (((fun _=>0,f0)::l).map (tS bs H))),sto):=by
  obtain ⟨p3,p4,p5,e⟩:=Yo (sto:=sto) (nm:=.lst (ns.map T.int)) ok hl ns 0 [] (fun _=>0,f0) none none none z l (by simp; omega) hp
  have q:=Pa ok (ns:=ns) (by omega) e0 (lx (v9 (bh 2)))
  rw [e] at q
  rw [wov]
  unfold Lw
  rw [show ([prT bs H ss,.lst (ns.map T.int)].map (fun t=>some (t,false))++List.replicate (6 - [prT bs H ss,T.lst (ns.map T.int)].length) none:List Slot)=[some (prT bs H ss,false),some (.lst (ns.map T.int),false),none,none,none,none] from rfl]
  rw [q]
  simp [lx,v9,bh]
theorem Z0 (ok:Fd bs H ss) (hl:ss.length≤63) {ns r:List Int} {n:Int} (hn:(ns++n::r).length<99) {f0:Str→Int} (e0:jj [prT bs H ss] sto=some (stT bs H (fun _=>0) f0,sto)) {z:St2} {l:List St2} (hp:path bs H ss ns (fun _=>0,f0)=some (z,l)) (hz:nxt bs H ss z n=none) :
    yw [prT bs H ss,.lst ((ns++n::r).map T.int)] sto=some (.inr (.int (ns.length:Int)),sto):=by
  obtain ⟨st',e,es⟩:=a3s (sto:=sto) (nm:=.lst ((ns++n::r).map T.int)) (r:=r) ok hl ns 0 [] (fun _=>0,f0) none none none z l (by rw [List.length_append,List.length_cons] at hn; simp; omega) hp hz
  have q:=Pa ok (ns:=ns++n::r) (by omega) e0 (lx (v9 (bh 2)))
  rw [e] at q
  rw [wov]
  unfold Lw
  rw [show ([prT bs H ss,.lst ((ns++n::r).map T.int)].map (fun t=>some (t,false))++List.replicate (6 - [prT bs H ss,T.lst ((ns++n::r).map T.int)].length) none:List Slot)=[some (prT bs H ss,false),some (.lst ((ns++n::r).map T.int),false),none,none,none,none] from rfl]
  rw [q]
  dsimp only
  rw [es,Nat.zero_add]
end
end K
end
section
namespace K
open C PySem
section
variable {bs:List Bx} {H:List Hd} {ss:List Sp} {sto:List SO}
theorem Jm:∀ {ns:List Int} {x z:St2} {l:List St2},path bs H ss ns x=some (z,l)→∃ acc,x::l=acc++[z]∧l.length=ns.length
  | [],x,z,l,h=>by cases h; exact ⟨[],rfl,rfl⟩
  | n::ns,x,z,l,h=>by
    rw [path] at h
    cases hx:nxt bs H ss x n with
    | none=>rw [hx] at h; cases h
    | some y =>
      rw [hx] at h
      dsimp only at h
      cases hq:path bs H ss ns y with
      | none=>rw [hq] at h; cases h -- here
      | some q =>
        obtain ⟨z',l'⟩:=q
        rw [hq] at h
        cases h
        obtain ⟨acc,e,el⟩:=Jm hq
        exact ⟨x::acc,by rw [e]; rfl,by rw [List.length_cons,List.length_cons,el]⟩
theorem X8 {n:Int}:∀ l:List (Sp × Nat),inL (.int n) ((l.map (·.2)).map fun (k:Nat)=>T.int (k:Int))=some (l.any fun p=>(p.2:Int)==n)
  | []=>rfl
  | p::l=>by
    have ih:=X8 (n:=n) l
    simp only [List.map_cons,inL,ih]
    simp [eqD,dat,PyData.depth,PyData.eqv]
theorem abu (x:St2):cn bs H ss x.1 x.2=(mv bs H ss x).map (·.2):=rfl
theorem a2o (x:St2) (n:Int):Cj (.int n) (.lst ((cn bs H ss x.1 x.2).map fun (k:Nat)=>T.int (k:Int)))=some (.bl (nxt bs H ss x n).isNone):=by
  rw [abu]
  simp only [Cj,inT,dat,Option.isSome_some,if_true,X8,Option.map_some]
  unfold nxt
  congr 2
  cases e:(mv bs H ss x).find? fun p=>(p.2:Int)==n with
  | none =>
    rw [Option.map_none,Option.isNone_none]
    have:=List.find?_eq_none.mp e
    rw [Bool.not_eq_true',List.any_eq_false]
    exact this
  | some p =>
    rw [Option.map_some,Option.isNone_some]
    have h1:=List.mem_of_find?_eq_some e
    have h2:=List.find?_some e
    rw [Bool.not_eq_false',List.any_eq_true]
    exact ⟨p,h1,h2⟩
theorem abp (ok:Fd bs H ss) {x y:St2} {n:Int} (hx:nxt bs H ss x n=some y) (hR:bs.all (inB x.2)=true):vm [prT bs H ss,tS bs H x,.int n] sto=some (tS bs H y,sto)∧bs.all (inB y.2)=true:=by
  obtain ⟨p,hp,e1,e2⟩:=a0b hx
  obtain ⟨hk,e3,e4⟩:=a9o hp
  have ln:=Uy (sto:=sto) (g:=x.1) ok hk hR
  rw [e3,if_pos e4,e1] at ln
  subst e2
  exact ⟨ln,aa6 hR e4⟩
theorem ne_nil (l:List T) (hl:∃ n,Pl n (.lst l)∧n≤40):neO (.lst l) (.lst [])=some (.bl (!l.isEmpty)):=by
  obtain ⟨n,⟨d,e1,e2⟩,hn⟩:=hl
  have h40:d.depth≤40:=Nat.le_trans e2 hn
  rw [dat] at e1
  cases l with
  | nil=>simp [neO,eqT,eqD,dat,Fz,PyData.eqv,PyData.eqvAll,PyData.depth,PyData.depthAll]
  | cons a r =>
    rw [Fz] at e1
    cases ha:dat a with
    | none=>rw [ha] at e1; cases e1
    | some d1 =>
      rw [ha] at e1
      cases hr:Fz r with
      | none=>rw [hr] at e1; cases e1
      | some d2 =>
        rw [hr] at e1
        simp only [Option.map_some,Option.some.injEq] at e1
        subst e1
        simp [neO,eqT,eqD,dat,Fz,ha,hr,h40,PyData.eqv,PyData.eqvAll]
def nB1:S:=vg 6 (mOp Gm (mOp Kc (mOp Hi (bh 5) (aq (.int 8))) (mOp Hh (jo Nb (ao (mOp cu (bh 1) (aq (.int 2))) fu)) (aq (.int 2)))) (aq (.int 1)))
def nB2:S:=vg 7 (gb Bh (ao (bh 1) (ao (Bg 3 (mUn S9 (aq (.int 1)))) fu)))
def nB3:S:=sIf (Lq (gn (mOp gtT (mOp Kc (bh 5) (aq (.int 8))) (aq (.int 0)))) (gn (mOp neO (bh 7) (jo (fun l=>some (.lst l)) fu))))
  (vg 6 (mOp cu (bh 7) (mOp Kc (mOp Hi (bh 5) (aq (.int 8))) (jo Nb (ao (bh 7) fu)))))
  zj
def nB5:S:=sIf (Lq (gn (mOp Zq (bh 4) (aq .non))) (gn (mOp Cj (bh 6) (bh 7))))
  (vg 4 (mOp Gm (Gw 2) (aq (.int 1))))
  zj
def nB6:S:=sIf (gn (mOp Zq (bh 4) (aq .non)))
  (mz 3 (gb vm (ao (bh 1) (ao (Bg 3 (mUn S9 (aq (.int 1)))) (ao (bh 6) fu)))))
  zj
def nBd:S:=j7 nB1 (j7 nB2 (j7 nB3 (j7 (mz 2 (bh 6)) (j7 nB5 nB6))))
abbrev cT (bs:List Bx) (H:List Hd) (ss:List Sp) (x:St2):T:=.lst ((cn bs H ss x.1 x.2).map fun (k:Nat)=>T.int (k:Int))
theorem drawn (ok:Fd bs H ss) (hl:ss.length≤63) {c:Int} {s0 N:T} {acc:List St2} {z:St2} {b:T} {o6 o7:Slot} (hR:bs.all (inB z.2)=true) (R:S):∃ n:Int,
    (j7 nB1 (j7 nB2 (j7 nB3 R))) ⟨[some (s0,false),some (prT bs H ss,false),some (N,true),some (.lst ((acc++[z]).map (tS bs H)),true),some (b,false),some (.int c,false),o6,o7],sto⟩ =
    R ⟨[some (s0,false),some (prT bs H ss,false),some (N,true),some (.lst ((acc++[z]).map (tS bs H)),true),some (b,false),some (.int c,false),some (.int n,false),some (cT bs H ss z,false)],sto⟩:=by
  have i2:cu (prT bs H ss) (.int 2)=some (.lst (ss.map spT)):=Fb
  have p2:(0:Int)<(ss.length:Int)+2:=by omega
  have lc:=a5e (sto:=sto) (g:=z.1) (f:=z.2) ok hl hR
  have li:(ixI ((acc++[z]).map (tS bs H)).length (-1)).bind (((acc++[z]).map (tS bs H))[·]?)=some (tS bs H z):=by
    rw [List.map_append]; exact Rr _ _
  generalize hA:(acc++[z]).map (tS bs H)=A at *
  rw [gq (s':=⟨[some (s0,false),some (prT bs H ss,false),some (N,true),some (.lst A,true),some (b,false),some (.int c,false),some (.int (c / 8%((ss.length:Int)+2) - 1),false),o7],sto⟩) (by unfold nB1; simp! [i2,p2])]
  rw [gq (s':=⟨[some (s0,false),some (prT bs H ss,false),some (N,true),some (.lst A,true),some (b,false),some (.int c,false),some (.int (c / 8%((ss.length:Int)+2) - 1),false),some (cT bs H ss z,false)],sto⟩) (by unfold nB2; simp! [Bg,Hg,S9,li,lc])]
  have nn:=ne_nil ((cn bs H ss z.1 z.2).map fun (k:Nat)=>T.int (k:Int)) ⟨1,a9z _,by decide⟩
  by_cases h1:0<c%8
  · cases hC:cn bs H ss z.1 z.2 with
    | nil =>
      rw [hC] at nn
      refine ⟨c / 8%((ss.length:Int)+2) - 1,?_⟩
      rw [gq (s':=⟨[some (s0,false),some (prT bs H ss,false),some (N,true),some (.lst A,true),some (b,false),some (.int c,false),some (.int (c / 8%((ss.length:Int)+2) - 1),false),some (.lst [],false)],sto⟩) (by unfold nB3; simp only [cT,hC,List.map_nil] at nn ⊢; simp! [gtT,h1,nn])]
      simp only [cT,hC,List.map_nil]
    | cons k0 C2 =>
      have pos:0<((cn bs H ss z.1 z.2).length:Int):=by rw [hC,List.length_cons]; omega
      obtain ⟨k,hk,ik⟩:=Qg (fun (k:Nat)=>T.int (k:Int)) (cn bs H ss z.1 z.2) (Int.emod_nonneg (c / 8) (Int.ne_of_gt pos)) (Int.emod_lt_of_pos (c / 8) pos)
      have ne:(!((cn bs H ss z.1 z.2).map fun (k:Nat)=>T.int (k:Int)).isEmpty)=true:=by rw [hC]; rfl
      rw [ne] at nn
      refine ⟨(k:Int),?_⟩
      have pos':0<(cn bs H ss z.1 z.2).length:=by omega
      rw [gq (s':=⟨[some (s0,false),some (prT bs H ss,false),some (N,true),some (.lst A,true),some (b,false),some (.int c,false),some (.int (k:Int),false),some (cT bs H ss z,false)],sto⟩) ?_]
      unfold nB3
      generalize hG:cn bs H ss z.1 z.2=G at *
      simp only [cT,hG]
      simp only [sIf,Lq,gn,mOp,bh,aq,jo,fu]
      simp! [gtT,h1,nn,ik,pos,pos']
  · refine ⟨c / 8%((ss.length:Int)+2) - 1,?_⟩
    rw [gq (s':=⟨[some (s0,false),some (prT bs H ss,false),some (N,true),some (.lst A,true),some (b,false),some (.int c,false),some (.int (c / 8%((ss.length:Int)+2) - 1),false),some (cT bs H ss z,false)],sto⟩) (by unfold nB3; simp! [gtT,h1])]
end
end K
end
section
namespace K
open C PySem
section
variable {bs:List Bx} {H:List Hd} {ss:List Sp} {sto:List SO}
def Drawn (bs:List Bx) (H:List Hd) (ss:List Sp) (x0:St2) (ns:List Int) (z:St2) (l:List St2) (b:T):Prop :=
  (b=.non∧path bs H ss ns x0=some (z,l))∨∃ ns1 n r,b=.int (ns1.length:Int)∧ns=ns1++n::r∧path bs H ss ns1 x0=some (z,l)∧nxt bs H ss z n=none
abbrev nE (s0:T) (bs:List Bx) (H:List Hd) (ss:List Sp) (x0:St2) (ns:List Int) (l:List St2) (b:T) (o5 o6 o7:Slot):List Slot :=
  [some (s0,false),some (prT bs H ss,false),some (.lst (ns.map T.int),true),some (.lst ((x0::l).map (tS bs H)),true),some (b,false),o5,o6,o7]
theorem turn (ok:Fd bs H ss) (hl:ss.length≤63) {s0:T} {x0 z:St2} {ns:List Int} {l:List St2} {b:T} {c:Int} {o6 o7:Slot} (hD:Drawn bs H ss x0 ns z l b) (hR:bs.all (inB z.2)=true) (hn:ns.length<90) :
    ∃ n z' l' b',nBd ⟨nE s0 bs H ss x0 ns l b (some (.int c,false)) o6 o7,sto⟩=some (.next,⟨nE s0 bs H ss x0 (ns++[n]) l' b' (some (.int c,false)) (some (.int n,false)) (some (cT bs H ss z,false)),sto⟩)∧Drawn bs H ss x0 (ns++[n]) z' l' b'∧bs.all (inB z'.2)=true:=by
  have hlast:∃ acc,x0::l=acc++[z]∧l.length≤ns.length:=by
    rcases hD with ⟨_,hp⟩ | ⟨ns1,n,r,_,e,hp,_⟩
    · obtain ⟨acc,e1,e2⟩:=Jm hp; exact ⟨acc,e1,Nat.le_of_eq e2⟩
    · obtain ⟨acc,e1,e2⟩:=Jm hp; exact ⟨acc,e1,by rw [e,List.length_append,e2]; omega⟩
  obtain ⟨acc,ea,ll⟩:=hlast
  have li:(ixI ((x0::l).map (tS bs H)).length (-1)).bind (((x0::l).map (tS bs H))[·]?)=some (tS bs H z):=by
    rw [ea,List.map_append]; exact Rr _ _
  obtain ⟨n,e⟩:=drawn (sto:=sto) (c:=c) (s0:=s0) (N:=.lst (ns.map T.int)) (acc:=acc) (z:=z) (b:=b) (o6:=o6) (o7:=o7) ok hl hR (j7 (mz 2 (bh 6)) (j7 nB5 nB6))
  rw [← ea] at e
  have nl:(ns.map T.int).length<lim:=by rw [List.length_map]; show _<1000000; omega
  have Al:((x0::l).map (tS bs H)).length<lim:=by rw [List.length_map,List.length_cons]; show _+1<1000000; omega
  have en:(ns++[n]).map T.int=ns.map T.int++[.int n]:=by rw [List.map_append]; rfl
  have nt:=a2o (bs:=bs) (H:=H) (ss:=ss) z n
  have e4:(j7 (mz 2 (bh 6)) (j7 nB5 nB6)) ⟨nE s0 bs H ss x0 ns l b (some (.int c,false)) (some (.int n,false)) (some (cT bs H ss z,false)),sto⟩=(j7 nB5 nB6) ⟨nE s0 bs H ss x0 (ns++[n]) l b (some (.int c,false)) (some (.int n,false)) (some (cT bs H ss z,false)),sto⟩:=by
    refine gq ?_
    unfold nE
    rw [en]
    generalize ns.map T.int=N at *
    generalize (x0::l).map (tS bs H)=A at *
    simp! [nl]
  have ln1:(((ns++[n]).map T.int).length:Int) - 1=(ns.length:Int):=by rw [List.length_map,List.length_append,List.length_singleton]; omega
  rcases hD with ⟨rfl,hp⟩ | ⟨ns1,m,r,rfl,en1,hp,hz⟩
  · cases hx:nxt bs H ss z n with
    | none =>
      rw [hx] at nt
      refine ⟨n,z,l,.int (ns.length:Int),?_,.inr ⟨ns,n,[],rfl,rfl,hp,hx⟩,hR⟩
      refine e.trans (e4.trans ?_)
      rw [gq (s':=⟨nE s0 bs H ss x0 (ns++[n]) l (.int (ns.length:Int)) (some (.int c,false)) (some (.int n,false)) (some (cT bs H ss z,false)),sto⟩) ?_]
      · unfold nB6
        have q:Zq (.int (ns.length:Int)) .non=some (.bl false):=rfl
        unfold nE
        generalize (ns++[n]).map T.int=N at *
        generalize (x0::l).map (tS bs H)=A at *
        generalize cT bs H ss z=G at *
        simp! [q]
      · unfold nB5
        have q:Zq .non .non=some (.bl true):=rfl
        unfold nE
        unfold cT
        generalize (ns++[n]).map T.int=N at *
        generalize (x0::l).map (tS bs H)=A at *
        generalize (cn bs H ss z.1 z.2).map (fun (k:Nat)=>T.int (k:Int))=G at *
        simp! [q,nt,Gw,ln1]
    | some y =>
      rw [hx] at nt
      obtain ⟨lx2,hR'⟩:=abp (sto:=sto) ok hx hR
      have ps:path bs H ss (ns++[n]) x0=some (y,l++[y]):=by rw [Q9,hp]; dsimp only; rw [hx]
      refine ⟨n,y,l++[y],.non,?_,.inl ⟨rfl,ps⟩,hR'⟩
      refine e.trans (e4.trans ?_)
      rw [gq (s':=⟨nE s0 bs H ss x0 (ns++[n]) l .non (some (.int c,false)) (some (.int n,false)) (some (cT bs H ss z,false)),sto⟩) ?_]
      · unfold nB6
        have q:Zq .non .non=some (.bl true):=rfl
        have eA:(x0::(l++[y])).map (tS bs H)=(x0::l).map (tS bs H)++[tS bs H y]:=by rw [← List.cons_append,List.map_append]; rfl
        unfold nE
        rw [eA]
        generalize (ns++[n]).map T.int=N at *
        generalize (x0::l).map (tS bs H)=A at *
        generalize cT bs H ss z=G at *
        simp! [q,Bg,Hg,S9,li,lx2,Al]
      · unfold nB5
        have q:Zq .non .non=some (.bl true):=rfl
        unfold nE
        unfold cT
        generalize (ns++[n]).map T.int=N at *
        generalize (x0::l).map (tS bs H)=A at *
        generalize (cn bs H ss z.1 z.2).map (fun (k:Nat)=>T.int (k:Int))=G at *
        simp! [q,nt]
  · refine ⟨n,z,l,.int (ns1.length:Int),?_,.inr ⟨ns1,m,r++[n],rfl,by rw [en1,List.append_assoc]; rfl,hp,hz⟩,hR⟩
    refine e.trans (e4.trans ?_)
    have q:Zq (.int (ns1.length:Int)) .non=some (.bl false):=rfl
    unfold nE
    generalize (ns++[n]).map T.int=N at *
    generalize (x0::l).map (tS bs H)=A at *
    generalize cT bs H ss z=G at *
    unfold nB5 nB6
    simp! [q]
def a79 (MF:Fn):Fn:=qt 8 (j7 (sNew 2 (jo (fun l=>some (.lst l)) fu))
  (j7 (sNew 3 (jo (fun l=>some (.lst l)) (ao (gb MF (ao (bh 1) fu)) fu)))
  (j7 (vg 4 (aq .non))
  (j7 (Hj (hName 5) (Aa (zc (bh 0) (Ax (aq (.int 15))) (Ax (aq (.int 63))))) nBd)
  (v9 (jo (fun l=>some (.tup l)) (ao (bh 2) (ao (bh 3) (ao (bh 4) fu)))))))))
theorem nums:vo=a79 yt:=rfl
theorem acv (MF:Fn) {s0:T} {f0:Str→Int} (ef:MF [prT bs H ss] sto=some (stT bs H (fun _=>0) f0,sto)) :
    sNew 3 (jo (fun l=>some (.lst l)) (ao (gb MF (ao (bh 1) fu)) fu)) ⟨[some (s0,false),some (prT bs H ss,false),some (.lst [],true),none,none,none,none,none],sto⟩=some (.next,⟨[some (s0,false),some (prT bs H ss,false),some (.lst [],true),some (.lst [stT bs H (fun _=>0) f0],true),none,none,none,none],sto⟩):=by
  simp! [ef]
theorem a0y (MF:Fn) (ok:Fd bs H ss) (hl:ss.length≤63) {cs:List Int} (hc:cs.length≤63) {f0:Str→Int} (ef:MF [prT bs H ss] sto=some (stT bs H (fun _=>0) f0,sto)) (r0:bs.all (inB f0)=true) :
    ∃ ns z l b,a79 MF [scr cs,prT bs H ss] sto=some (.tup [.lst (ns.map T.int),.lst (((fun _=>0,f0)::l).map (tS bs H)),b],sto)∧Drawn bs H ss (fun _=>0,f0) ns z l b∧ns.length≤63:=by
  obtain ⟨m,hm,cx⟩:∃ m:List Int,m.length≤63∧Wn (some 15) (some 63) (scr cs)=some (.lst (m.map T.int)):=by
    refine ⟨(cs.drop (sIx cs.length 0 (some 15))).take (sIx cs.length cs.length (some 63) - sIx cs.length 0 (some 15)),?_,?_⟩
    · rw [List.length_take,List.length_drop]; omega
    · simp only [Wn,a4i,List.length_map,← List.map_drop,← List.map_take]
  have ml:m.length<lim:=by show _<1000000; omega
  unfold a79 qt
  rw [show ([scr cs,prT bs H ss].map (fun t=>some (t,false))++List.replicate (8 - [scr cs,prT bs H ss].length) none:List Slot)=[some (scr cs,false),some (prT bs H ss,false),none,none,none,none,none,none] from rfl]
  rw [gq (s':=⟨[some (scr cs,false),some (prT bs H ss,false),some (.lst [],true),none,none,none,none,none],sto⟩) rfl]
  rw [gq (acv MF ef)]
  rw [gq (s':=⟨nE (scr cs) bs H ss (fun _=>0,f0) [] [] .non none none none,sto⟩) rfl]
  have it:Aa (zc (bh 0) (Ax (aq (.int 15))) (Ax (aq (.int 63)))) ⟨nE (scr cs) bs H ss (fun _=>0,f0) [] [] .non none none none,sto⟩=some (m.map T.int,⟨nE (scr cs) bs H ss (fun _=>0,f0) [] [] .non none none none,sto⟩):=by
    simp! [zc,Ax,cx,ml]
  obtain ⟨ns,z,l,b,o5,o6,o7,hD,hn,el⟩:∃ ns z l b o5 o6 o7,Drawn bs H ss (fun _=>0,f0) ns z l b∧ns.length≤63∧Hj (hName 5) (Aa (zc (bh 0) (Ax (aq (.int 15))) (Ax (aq (.int 63))))) nBd ⟨nE (scr cs) bs H ss (fun _=>0,f0) [] [] .non none none none,sto⟩=some (.next,⟨nE (scr cs) bs H ss (fun _=>0,f0) ns l b o5 o6 o7,sto⟩):=by
    unfold Hj
    rw [it]
    dsimp only
    generalize hF:forL _ _ _ _=qq
    obtain ⟨s',rfl,P⟩:=Ft hF (fun ts s=>∃ (m:List Int) (ns:List Int) (z:St2) (l:List St2) (b:T) (o5 o6 o7:Slot),ts=m.map T.int∧ns.length+m.length≤63∧Drawn bs H ss (fun _=>0,f0) ns z l b∧bs.all (inB z.2)=true∧s=⟨nE (scr cs) bs H ss (fun _=>0,f0) ns l b o5 o6 o7,sto⟩)
      ⟨m,[],(fun _=>0,f0),[],.non,none,none,none,rfl,by simpa using hm,.inl ⟨rfl,rfl⟩,r0,rfl⟩ (by
        rintro t q s ⟨m,ns,z,l,b,o5,o6,o7,e1,e2,hD,hR,rfl⟩
        cases m with
        | nil=>cases e1
        | cons c m =>
          cases e1
          rw [List.length_cons] at e2
          obtain ⟨n,z',l',b',eT,hD',hR'⟩:=turn (sto:=sto) (s0:=scr cs) (c:=c) (o6:=o6) (o7:=o7) ok hl hD hR (by omega)
          exact ⟨_,_,rfl,eT,m,ns++[n],z',l',b',_,_,_,rfl,by rw [List.length_append,List.length_singleton]; omega,hD',hR',rfl⟩)
    obtain ⟨m',ns,z,l,b,o5,o6,o7,e1,e2,hD,hR,rfl⟩:=P
    exact ⟨ns,z,l,b,o5,o6,o7,hD,by omega,rfl⟩
  rw [gq el]
  refine ⟨ns,z,l,b,?_,hD,hn⟩
  unfold nE
  generalize ns.map T.int=N
  generalize ((fun _=>0,f0)::l).map (tS bs H)=A
  simp! []
theorem numbers (ok:Fd bs H ss) (hl:ss.length≤63) {cs:List Int} (hc:cs.length≤63) {f0:Str→Int} (ef:yt [prT bs H ss] sto=some (stT bs H (fun _=>0) f0,sto)) (r0:bs.all (inB f0)=true) :
    ∃ ns z l b,vo [scr cs,prT bs H ss] sto=some (.tup [.lst (ns.map T.int),.lst (((fun _=>0,f0)::l).map (tS bs H)),b],sto)∧Drawn bs H ss (fun _=>0,f0) ns z l b∧ns.length≤63:=by
  rw [nums]
  exact a0y yt ok hl hc ef r0
end
end K
end
section
namespace K
open C PySem
section
variable {bs:List Bx} {H:List Hd} {ss:List Sp} {sto:List SO}
theorem refused {P N:T} {p:Int} (h:yw [P,N] sto=some (.inr (.int p),sto)):vp [P,N] sto=some (.int p,sto):=by
  unfold vp
  generalize yw=F at *
  simp! [a3r,h,clr]
theorem a7v {P N:T} {p:Int} (h:yw [P,N] sto=some (.inr (.int p),sto)):Bl [P,N] sto=some (.bl true,sto):=by
  unfold Bl
  generalize yw=F at *
  simp! [a3r,h,clr]
theorem Uj {P N t:T} (h:yw [P,N] sto=some (.inl t,sto)):Fp [P,N] sto=some (t,sto):=by
  unfold Fp norm
  rw [h]
def aal (PR NU RF AN WO:Fn):Fn:=qt 7
  (j7 (vg 1 (gb PR (ao (bh 0) (ao (aq (.int 12)) fu))))
  (j7 (sGo (Ej [2,3,4]) (gb NU (ao (bh 0) (ao (bh 1) fu))))
  (j7 (vg 5 (jo Nz (ao (bh 2) fu)))
  (j7 (sIf (gn (mOp Bj (bh 4) (aq .non)))
  (j7 (sIf (mOr (gn (mOp neO (gb RF (ao (bh 1) (ao (bh 5) fu))) (bh 4))) (mOr (Ws (gn (gb AN (ao (bh 1) (ao (bh 5) fu))))) (gn (mOp neO (bh 5) (bh 2)))))
  (v9 (aq (.bl false)))
  zj)
  (vg 2 (zc (bh 2) Og (Ax (bh 4)))))
  zj)
  (j7 (vg 6 (gb WO (ao (bh 1) (ao (bh 2) fu))))
  (v9 (Gd (Lq (gn (jo O5 (ao (bh 6) fu))) (gn (Gd (Lq (gn (mOp eqO (bh 6) (bh 3))) (gn (mOp eqO (gb WO (ao (bh 1) (ao (jo (fun l=>some (.lst l)) fu) fu))) (zc (bh 3) Og (Ax (aq (.int 1)))))))))))))))))
theorem a7x:Wb=aal wu vo vp Bl Fp:=rfl
theorem a02 {WO:Fn} {st:List SO} {s0 P:T} {ns:List T} {o:Slot} {b:T} {A:List T} {a:T} (w1:WO [P,.lst ns] st=some (.lst (a::A),st)) (w2:WO [P,.lst []] st=some (.lst [a],st)) (q1:eqO (.lst (a::A)) (.lst (a::A))=some (.bl true)) (q2:eqO (.lst [a]) (.lst [a])=some (.bl true)) :
    (j7 (vg 6 (gb WO (ao (bh 1) (ao (bh 2) fu))))
    (v9 (Gd (Lq (gn (jo O5 (ao (bh 6) fu))) (gn (Gd (Lq (gn (mOp eqO (bh 6) (bh 3))) (gn (mOp eqO (gb WO (ao (bh 1) (ao (jo (fun l=>some (.lst l)) fu) fu))) (zc (bh 3) Og (Ax (aq (.int 1)))))))))))):S)
      ⟨[some (s0,false),some (P,false),some (.lst ns,false),some (.lst (a::A),false),some (b,false),o,none],st⟩=some (.ret (.bl true),⟨[some (s0,false),some (P,false),some (.lst ns,false),some (.lst (a::A),false),some (b,false),o,some (.lst (a::A),false)],st⟩):=by
  rw [gq (s':=⟨[some (s0,false),some (P,false),some (.lst ns,false),some (.lst (a::A),false),some (b,false),o,some (.lst (a::A),false)],st⟩) (by simp! [w1])]
  have c1:Wn none (some 1) (.lst (a::A))=some (.lst [a]):=by
    simp [Wn,a4i,sIx,show min 1 (A.length+1)=1 by omega]
  generalize hG:a::A=G at *
  simp! [O5,q1,w2,zc,Og,Ax,c1,q2]
theorem abo {PR NU RF AN WO:Fn} {cs:List Int} {st:List SO} (ok:Fd bs H ss) {ns:List Int} {z x0:St2} {l:List St2} {b:T} (ep:PR [scr cs,.int 12] []=some (prT bs H ss,st)) (en:NU [scr cs,prT bs H ss] st=some (.tup [.lst (ns.map T.int),.lst ((x0::l).map (tS bs H)),b],st)) (hD:Drawn bs H ss x0 ns z l b)
    (w0:WO [prT bs H ss,.lst []] st=some (.lst [tS bs H x0],st))
    (wg:∀ ns,ns.length≤63→path bs H ss ns x0=some (z,l)→WO [prT bs H ss,.lst (ns.map T.int)] st=some (.lst ((x0::l).map (tS bs H)),st))
    (wb:∀ ns1 n r,(ns1++n::r).length≤63→path bs H ss ns1 x0=some (z,l)→nxt bs H ss z n=none→RF [prT bs H ss,.lst ((ns1++n::r).map T.int)] st=some (.int (ns1.length:Int),st)∧AN [prT bs H ss,.lst ((ns1++n::r).map T.int)] st=some (.bl true,st)) (hn:ns.length≤63) :
    aal PR NU RF AN WO [scr cs] []=some (.bl true,st):=by
  have plS:∀ l:List St2,Pl 3 (.lst (l.map (tS bs H))):=fun l=>Ma (n:=2) fun t ht=>by
    obtain ⟨x,_,rfl⟩:=List.mem_map.mp ht
    exact a8t
  have plN:Pl 1 (.lst (ns.map T.int)):=Ma (n:=0) fun t ht=>by
    obtain ⟨x,_,rfl⟩:=List.mem_map.mp ht
    exact Ay 0 _
  have q1:eqO (.lst (tS bs H x0::l.map (tS bs H))) (.lst (tS bs H x0::l.map (tS bs H)))=some (.bl true):=Ua (plS (x0::l)) (by decide)
  have q2:eqO (.lst [tS bs H x0]) (.lst [tS bs H x0])=some (.bl true):=Ua (plS [x0]) (by decide)
  have qn:=V7 plN (by decide)
  rw [List.map_cons] at en
  unfold aal qt
  rw [show ([scr cs].map (fun t=>some (t,false))++List.replicate (7 - [scr cs].length) none:List Slot)=[some (scr cs,false),none,none,none,none,none,none] from rfl]
  rw [gq (s':=⟨[some (scr cs,false),some (prT bs H ss,false),none,none,none,none,none],st⟩) (by simp! [ep])]
  rw [gq (s':=⟨[some (scr cs,false),some (prT bs H ss,false),some (.lst (ns.map T.int),false),some (.lst (tS bs H x0::l.map (tS bs H)),false),some (b,false),none,none],st⟩) (by
    generalize ns.map T.int=N at *
    generalize tS bs H x0::l.map (tS bs H)=A at *
    simp! [en])]
  rw [gq (s':=⟨[some (scr cs,false),some (prT bs H ss,false),some (.lst (ns.map T.int),false),some (.lst (tS bs H x0::l.map (tS bs H)),false),some (b,false),some (.lst (ns.map T.int),false),none],st⟩) (by
    generalize ns.map T.int=N at *
    generalize tS bs H x0::l.map (tS bs H)=A at *
    simp! [Nz])]
  rcases hD with ⟨rfl,hp⟩ | ⟨ns1,n,r,rfl,rfl,hp,hz⟩
  · have w1:=wg ns hn hp
    rw [List.map_cons] at w1
    rw [gq (s':=⟨[some (scr cs,false),some (prT bs H ss,false),some (.lst (ns.map T.int),false),some (.lst (tS bs H x0::l.map (tS bs H)),false),some (.non,false),some (.lst (ns.map T.int),false),none],st⟩) (by
      have q:Bj .non .non=some (.bl false):=rfl
      generalize ns.map T.int=N at *
      generalize tS bs H x0::l.map (tS bs H)=A at *
      simp! [q])]
    rw [a02 w1 w0 q1 q2]
  · obtain ⟨e1,e2⟩:=wb ns1 n r hn hp hz
    have w1:=wg ns1 (by rw [List.length_append] at hn; omega) hp
    rw [List.map_cons] at w1
    have cx:Wn none (some (ns1.length:Int)) (.lst ((ns1++n::r).map T.int))=some (.lst (ns1.map T.int)):=by
      have h0:¬ ((ns1.length:Int)<0):=by omega
      simp only [Wn,a4i,sIx,if_neg h0,Int.toNat_natCast,List.drop_zero,Nat.sub_zero,List.length_map,List.length_append]
      rw [Nat.min_eq_left (by omega),← List.map_take,List.take_left]
    rw [gq (s':=⟨[some (scr cs,false),some (prT bs H ss,false),some (.lst (ns1.map T.int),false),some (.lst (tS bs H x0::l.map (tS bs H)),false),some (.int (ns1.length:Int),false),some (.lst ((ns1++n::r).map T.int),false),none],st⟩) (by
      have q:Bj (.int (ns1.length:Int)) .non=some (.bl true):=rfl
      have q3:neO (.int (ns1.length:Int)) (.int (ns1.length:Int))=some (.bl false):=V7 (Ay 0 _) (by decide)
      generalize (ns1++n::r).map T.int=N at *
      generalize ns1.map T.int=N1 at *
      generalize tS bs H x0::l.map (tS bs H)=A at *
      simp! [q,e1,e2,q3,qn,zc,Og,Ax,cx])]
    rw [a02 w1 w0 q1 q2]
theorem a2l {cs:List Int} (hc:cs.length≤63):∃ st,Wb [scr cs] []=some (.bl true,st):=by
  obtain ⟨t,st,ep,bs,H,ss,rfl,ok,hl,hst⟩:=program (cs:=cs) (k:=12) hc
  rw [show ((12:Nat):Int)=12 from rfl] at ep
  obtain ⟨f0,e0,hf0⟩:=first (sto:=st) ok
  have ef:=Yr (sto:=st) ok hf0
  have r0:bs.all (inB f0)=true:=List.all_eq_true.mpr fun b hb=>by
    obtain ⟨_,k2,k3,_⟩:=ok.bx b hb
    unfold inB
    rw [hf0 b hb]
    simp only [Bool.and_eq_true,decide_eq_true_eq] -- here
    exact ⟨k2,k3⟩
  obtain ⟨ns,z,l,b,en,hD,hn⟩:=numbers (sto:=st) ok hl hc ef r0
  refine ⟨st,?_⟩
  rw [a7x]
  refine abo (x0:=(fun _=>0,f0)) ok ep en hD ?_ (fun ns hn hp=>?_) (fun ns1 n r hn hp hz=>?_) hn
  · exact Uj (Mi (ns:=[]) ok hl (by decide) e0 rfl)
  · exact Uj (Mi ok hl (by omega) e0 hp)
  · have w:=Z0 (r:=r) ok hl (by omega) e0 hp hz
    exact ⟨refused w,a7v w⟩
end
end K
end
section
namespace D
open PySem L2 C
structure FA (K:PySem.W.Frag) (x:Str) (st:Stmt) (f:Addr) (fd:FuncData):Prop where
  a:PySem.W.nsIn K mainGlobals x=some (some (.ref f))
  F:Fun K x x st f fd
theorem ab0 {K:PySem.W.Frag} {x:Str} {st:Stmt} {f:Addr} {oc:Value} {od an:Option Addr} {osl:Array (Option Value)} {kV doc pm cdv ct:Value} (a:PySem.W.nsIn K mainGlobals x=some (some (.ref f)))
    (l:K.lookup f=some ⟨oc,od,.func (PySem.W.fnOf x x (Dr st) (zy st) (dz st) .none kV doc pm an cdv ct),osl⟩) (c:PySem.W.codeIn K cdv x=true) (k:PySem.W.keepIn K (.ref f)=true):FA K x st f (PySem.W.fnOf x x (Dr st) (zy st) (dz st) .none kV doc pm an cdv ct):=⟨a,Zm l c k⟩
theorem FA.m {K:PySem.W.Frag} {x:Str} {st:Stmt} {f:Addr} {fd:FuncData} {hp:Heap} {mg:Str→Option Value} (h:FA K x st f fd) (X:K.In hp) (G:hp.Ns mainGlobals mg):mg x=some (.ref f):=PySem.W.mg_of X G h.a
theorem aa8 {K:PySem.W.Frag} {Cl D fI:Addr} {f nm q:Str} {Na:Addr} {bs:List Value} {sn:List Str} {sub:List Value} {ab:Bool} {col:Option Bool} {dd:Option Addr} {k0 k1 k2 k3 k5:Option Value}
    (lk:K.lookup Cl=some (excClassObj nm q Cl Na bs (.ref D::My.vB) true sn sub ab col dd k0 k1 k2 k3 k5 "ValueError.__new__")) (b:PySem.W.excIn K D My.vB "ValueError.__new__" = true) (i:PySem.W.findIn K (.ref Cl) "__init__" = some (some (.ref fI))) (fn:PySem.W.isFn K (.ref fI)=true)
    (sa:PySem.W.findIn K (.ref Cl) "__setattr__" = some (some (.builtin "object.__setattr__"))) (ob:PySem.W.mroIn K Cl (.type "object")=some true) (na:PySem.W.findIn K (.ref Cl) f=some none) (kp:PySem.W.keepIn K (.ref Cl)=true):XC K Cl D fI f∧XCl K Cl (.ref D::My.vB) :=
  ⟨⟨⟨nm,q,Na,bs,sn,sub,ab,col,dd,k0,k1,k2,k3,k5,lk⟩,b,i,fn,sa,ob,na,kp⟩,by simp,nm,q,Na,bs,true,sn,sub,ab,col,dd,k0,k1,k2,k3,k5,lk⟩
theorem U9 {K:PySem.W.Frag} {Cl:Addr} {bm:List Value} {nm q:Str} {Na:Addr} {bs:List Value} {hd:Bool} {sn:List Str} {sub:List Value} {ab:Bool} {col:Option Bool} {dd:Option Addr} {k0 k1 k2 k3 k5:Option Value}
    (lk:K.lookup Cl=some (excClassObj nm q Cl Na bs bm hd sn sub ab col dd k0 k1 k2 k3 k5 "ValueError.__new__")) (b:bm.contains (.type "BaseException")=true):XCl K Cl bm:=⟨b,nm,q,Na,bs,hd,sn,sub,ab,col,dd,k0,k1,k2,k3,k5,lk⟩
theorem all_mk {C_NoStep D_NoStep I_NoStep:Addr} {fdI_NoStep:FuncData} {C_CalmError:Addr} {bm_CalmError:List Value} {C_NoLock:Addr} {bm_NoLock:List Value} {C_NoText:Addr} {bm_NoText:List Value} {C_TooMany:Addr} {bm_TooMany:List Value} {l:PySem.W.OpenLaw} {w:World} {K:PySem.W.Frag} {h:Heap} {mg:Str→Option Value} {fa f1 f2 f3 f4 f5 f6 f7 f8 f9 f10 f11 f12 f13 f14 f15 f16 f17 f18 f19 f20 f21 f22 f23 f24 f25 f26 f27 f28:Addr} {fd1 fd2 fd3 fd4 fd5 fd6 fd7 fd8 fd9 fd10 fd11 fd12 fd13 fd14 fd15 fd16 fd17 fd18 fd19 fd20 fd21 fd22 fd23 fd24 fd25 fd26 fd27:FuncData} (X:K.In h) (G:h.Ns mainGlobals mg) (hfa:mg "law" = some (.ref fa))
    {od28 an28:Option Addr} {sl28:Array (Option Value)} {oc28 kV28 dc28 pm28 cd28 ct28:Value}
    (h1:FA K "value" Sg f1 fd1)
    (h2:FA K "holds" Mw f2 fd2)
    (h3:FA K "any_is" Iu f3 fd3)
    (h4:FA K "first_stand" Cg f4 fd4)
    (h5:FA K "book_of" K7 f5 fd5)
    (h6:FA K "places_of" Fx f6 fd6)
    (h7:FA K "values_behind" Ai f7 fd7)
    (h8:FA K "places_behind" Am f8 fd8)
    (h9:FA K "moves" Rm f9 fd9)
    (h10:FA K "woven" T9 f10 fd10)
    (h11:FA K "_law_cell_at" Br f11 fd11)
    (h12:FA K "_law_pick" Hl f12 fd12)
    (h13:FA K "_law_name" Gz f13 fd13)
    (h14:FA K "_law_sum" Kl f14 fd14)
    (h15:FA K "_law_simple" Ds f15 fd15)
    (h16:FA K "_law_remark" Dl f16 fd16)
    (h17:FA K "_law_boxes" Fi f17 fd17)
    (h18:FA K "_law_step" Gu f18 fd18)
    (h19:FA K "_law_program" Cd f19 fd19)
    (h20:FA K "_law_value" Fj f20 fd20)
    (h21:FA K "_law_holds" Ci f21 fd21)
    (h22:FA K "_law_first" Fy f22 fd22)
    (h23:FA K "_law_next" Gs f23 fd23)
    (h24:FA K "_law_can" Jb f24 fd24)
    (h25:FA K "_law_numbers" Bs f25 fd25)
    (h26:FA K "_law_refused" Bt f26 fd26)
    (h27:FA K "_law_any" Jy f27 fd27)
    (a28:PySem.W.nsIn K mainGlobals "law" = some (some (.ref f28))) (l28:K.lookup f28=some ⟨oc28,od28,.func (PySem.W.fnOf "law" "law" (Dr Mt) (zy Mt) (dz Mt) .none kV28 dc28 pm28 an28 cd28 ct28),sl28⟩) (c28:PySem.W.codeIn K cd28 "law" = true) (k28:PySem.W.keepIn K (.ref f28)=true)
    (z_ValueError:PySem.W.nsIn K mainGlobals "ValueError" = some none)
    (z_dict:PySem.W.nsIn K mainGlobals "dict" = some none)
    (z_enumerate:PySem.W.nsIn K mainGlobals "enumerate" = some none)
    (z_isinstance:PySem.W.nsIn K mainGlobals "isinstance" = some none)
    (z_len:PySem.W.nsIn K mainGlobals "len" = some none)
    (z_list:PySem.W.nsIn K mainGlobals "list" = some none)
    (z_range:PySem.W.nsIn K mainGlobals "range" = some none)
    (z_sorted:PySem.W.nsIn K mainGlobals "sorted" = some none)
    (z_sum:PySem.W.nsIn K mainGlobals "sum" = some none)
    (z_tuple:PySem.W.nsIn K mainGlobals "tuple" = some none)
    (z_zip:PySem.W.nsIn K mainGlobals "zip" = some none)
    (xa_NoStep:PySem.W.nsIn K mainGlobals "NoStep" = some (some (.ref C_NoStep))) (xx_NoStep:XC K C_NoStep D_NoStep I_NoStep "place" ∧ XCl K C_NoStep (.ref D_NoStep::My.vB)) (xg_NoStep:XG K C_NoStep "place") (xF_NoStep:Fun K "__init__" "NoStep.__init__" Ky I_NoStep fdI_NoStep)
    (xa_CalmError:PySem.W.nsIn K mainGlobals "CalmError" = some (some (.ref C_CalmError))) (xl_CalmError:XCl K C_CalmError bm_CalmError) (t_CalmError:(Value.ref C_NoStep :: .ref D_NoStep::My.vB).contains (.ref C_CalmError)=true)
    (xa_NoLock:PySem.W.nsIn K mainGlobals "NoLock" = some (some (.ref C_NoLock))) (xl_NoLock:XCl K C_NoLock bm_NoLock) (n_NoLock:(Value.ref C_NoStep :: .ref D_NoStep::My.vB).contains (.ref C_NoLock)=false)
    (xa_NoText:PySem.W.nsIn K mainGlobals "NoText" = some (some (.ref C_NoText))) (xl_NoText:XCl K C_NoText bm_NoText) (n_NoText:(Value.ref C_NoStep :: .ref D_NoStep::My.vB).contains (.ref C_NoText)=false)
    (xa_TooMany:PySem.W.nsIn K mainGlobals "TooMany" = some (some (.ref C_TooMany))) (xl_TooMany:XCl K C_TooMany bm_TooMany) (n_TooMany:(Value.ref C_NoStep :: .ref D_NoStep::My.vB).contains (.ref C_TooMany)=false)
    : ∃ fd:FuncData,(∀ (s:Shared) (v:Value),BindsTo s fd ⟨[v],[]⟩ [("_law_script",v)])∧∀ base:Heap,K.In base→base.Ns mainGlobals mg→Fg l.prog w K mg base CX0 45 fa fd ["_law_script"] (spF K 1 _root_.K.Wb):=by
  have e:=hfa.symm.trans (PySem.W.mg_of X G a28)
  cases e
  have F28:=Zm (st:=Mt) l28 c28 k28
  have b_ValueError:=PySem.W.mg_none_of X G z_ValueError
  have b_dict:=PySem.W.mg_none_of X G z_dict
  have b_enumerate:=PySem.W.mg_none_of X G z_enumerate
  have b_isinstance:=PySem.W.mg_none_of X G z_isinstance
  have b_len:=PySem.W.mg_none_of X G z_len
  have b_list:=PySem.W.mg_none_of X G z_list
  have b_range:=PySem.W.mg_none_of X G z_range
  have b_sorted:=PySem.W.mg_none_of X G z_sorted
  have b_sum:=PySem.W.mg_none_of X G z_sum
  have b_tuple:=PySem.W.mg_none_of X G z_tuple
  have b_zip:=PySem.W.mg_none_of X G z_zip
  have k_NoStep:Xz K mg "NoStep" C_NoStep (.ref D_NoStep::My.vB):=⟨xx_NoStep.2,PySem.W.mg_of X G xa_NoStep⟩
  have g_NoStep:=xg_NoStep
  have k_CalmError:Xz K mg "CalmError" C_CalmError bm_CalmError:=⟨xl_CalmError,PySem.W.mg_of X G xa_CalmError⟩
  have k_NoLock:Xz K mg "NoLock" C_NoLock bm_NoLock:=⟨xl_NoLock,PySem.W.mg_of X G xa_NoLock⟩
  have k_NoText:Xz K mg "NoText" C_NoText bm_NoText:=⟨xl_NoText,PySem.W.mg_of X G xa_NoText⟩
  have k_TooMany:Xz K mg "TooMany" C_TooMany bm_TooMany:=⟨xl_TooMany,PySem.W.mg_of X G xa_TooMany⟩
  refine ⟨PySem.W.fnOf "law" "law" (Dr Mt) (zy Mt) (dz Mt) .none kV28 dc28 pm28 an28 cd28 ct28,fun s v=>.of_eq rfl,fun base _ _=>?_⟩
  have r_NoStep:XR l.prog w K mg base "NoStep" C_NoStep "place" "place" := a05 xx_NoStep.1 xF_NoStep (PySem.W.mg_of X G xa_NoStep)
  have d_value:=a0o (P:=l.prog) (w:=w) (base:=base) h1.F (h1.m X G) b_sum
  have g_holds:=Ow (P:=l.prog) (w:=w) (base:=base) h2.F (h2.m X G) h3.F (h3.m X G) d_value 40
  have d_holds:=g_holds.1
  have d_any_is:=g_holds.2
  have d_first_stand:=Ld (P:=l.prog) (w:=w) (base:=base) h4.F (h4.m X G) b_tuple
  have d_book_of:=Wc (P:=l.prog) (w:=w) (base:=base) h5.F (h5.m X G) b_dict b_zip
  have d_places_of:=Q7 (P:=l.prog) (w:=w) (base:=base) h6.F (h6.m X G) b_dict b_zip
  have d_values_behind:=Ir (P:=l.prog) (w:=w) (base:=base) h7.F (h7.m X G) d_value b_dict b_tuple
  have d_places_behind:=Il (P:=l.prog) (w:=w) (base:=base) h8.F (h8.m X G) b_tuple
  have d_moves:=a2z (P:=l.prog) (w:=w) (base:=base) h9.F (h9.m X G) d_book_of d_holds d_places_behind d_places_of d_values_behind b_enumerate
  have dx_woven:=a2y (P:=l.prog) (w:=w) (base:=base) h10.F (h10.m X G) d_first_stand d_moves r_NoStep b_dict b_enumerate
  have d_woven:iw l.prog w K mg base "woven" 43 ["program","numbers"] _root_.K.Fp:=dx_woven.norm
  have d_law_cell_at:=Lk (P:=l.prog) (w:=w) (base:=base) h11.F (h11.m X G) b_len
  have d_law_pick:=Rk (P:=l.prog) (w:=w) (base:=base) h12.F (h12.m X G) b_len
  have d_law_name:=Rh (P:=l.prog) (w:=w) (base:=base) h13.F (h13.m X G)
  have d_law_sum:=Vm (P:=l.prog) (w:=w) (base:=base) h14.F (h14.m X G) d_law_pick b_sorted b_tuple
  have d_law_simple:=Mu (P:=l.prog) (w:=w) (base:=base) h15.F (h15.m X G) d_law_pick d_law_sum b_len
  have d_law_remark:=Nh (P:=l.prog) (w:=w) (base:=base) h16.F (h16.m X G) d_law_pick d_law_simple b_range b_tuple
  have d_law_boxes:=Pz (P:=l.prog) (w:=w) (base:=base) h17.F (h17.m X G) d_law_name d_law_pick b_range
  have d_law_step:=Rc (P:=l.prog) (w:=w) (base:=base) h18.F (h18.m X G) d_law_pick d_law_remark d_law_sum b_len b_sorted b_tuple
  have d_law_program:=Li (P:=l.prog) (w:=w) (base:=base) h19.F (h19.m X G) d_law_boxes d_law_cell_at d_law_name d_law_pick d_law_step b_range
  have d_law_value:=Oq (P:=l.prog) (w:=w) (base:=base) h20.F (h20.m X G) b_sum
  have g_law_holds:=Gb (P:=l.prog) (w:=w) (base:=base) h21.F (h21.m X G) d_law_value 40
  have d_law_holds:=g_law_holds
  have d_law_first:=Q5 (P:=l.prog) (w:=w) (base:=base) h22.F (h22.m X G) b_len b_tuple
  have d_law_next:=Sy (P:=l.prog) (w:=w) (base:=base) h23.F (h23.m X G) d_law_holds d_law_value b_dict b_tuple b_zip
  have d_law_can:=W8 (P:=l.prog) (w:=w) (base:=base) h24.F (h24.m X G) d_law_next b_len b_range
  have d_law_numbers:=Lf (P:=l.prog) (w:=w) (base:=base) h25.F (h25.m X G) d_law_can d_law_first d_law_next b_len
  have d_law_refused:=Ln (P:=l.prog) (w:=w) (base:=base) h26.F (h26.m X G) dx_woven k_NoStep g_NoStep k_NoLock n_NoLock k_NoText n_NoText k_TooMany n_TooMany
  have d_law_any:=Wf (P:=l.prog) (w:=w) (base:=base) h27.F (h27.m X G) dx_woven k_NoStep g_NoStep k_CalmError t_CalmError b_ValueError b_isinstance
  exact a8j F28 d_law_any d_law_numbers d_law_program d_law_refused d_woven b_isinstance b_list
theorem walk {l:PySem.W.OpenLaw} {q:Program} {loose:List Str} {XP:(Str→Option Value)→Heap→Prop} {YP:World→Heap→Prop} {d:DefRec} {K:Params→PySem.W.Frag} (hn:l.most=some 63) (hdf:d.params.defaults=[])
    (hY:∀ (w:World) (h:Heap),YP w h→(K w.params).In h)
    (F:∀ (w:World) (mg:Str→Option Value) (fa:Addr) (h:Heap),(K w.params).In h→h.Ns mainGlobals mg→mg d.name=some (.ref fa) →
      ∃ fd:FuncData,(∀ (s:Shared) (u:Value),BindsTo s fd ⟨[u],[]⟩ [("_law_script",u)])∧∀ base:Heap,(K w.params).In base→base.Ns mainGlobals mg→Fg l.prog w (K w.params) mg base CX0 45 fa fd ["_law_script"] (spF (K w.params) 1 _root_.K.Wb)) :
    PySem.W.WalkO q loose XP YP l.row.toRowW d [] (fun f vs=>PySem.call f vs) :=
  L2.a72 (n:=63) (k:=45) (x := "_law_script") (CX:=fun _=>CX0) (sp:=fun w=>spF (K w.params) 1 _root_.K.Wb) hn (by decide) hdf ⟨rfl,by decide,by decide⟩ hY F (fun w H a ns hl _ hS=>a71 hS (_root_.K.a2l (cs:=ns) hl)) fun _ _ _ _ _ z=>z
end D
theorem PySem.W.Fast.tw12250720056425074977:True:=⟨⟩
theorem PySem.W.Fast.tw9457204781507889442:True:=⟨⟩
theorem PySem.W.Fast.tw3727362196994617347:True:=⟨⟩
theorem PySem.W.Fast.tw28486925095881990:True:=⟨⟩
theorem PySem.W.Fast.tw13104868618717072136:True:=⟨⟩
theorem PySem.W.Fast.tw15240092308216913864:True:=⟨⟩
theorem PySem.W.Fast.tw7480922304736709961:True:=⟨⟩
theorem PySem.W.Fast.tw9071158393460378058:True:=⟨⟩
theorem PySem.W.Fast.tw14818426059110644428:True:=⟨⟩
theorem PySem.W.Fast.tw5727601111813412557:True:=⟨⟩
theorem PySem.W.Fast.tw10374793263554756302:True:=⟨⟩
theorem PySem.W.Fast.tw3443095687990839473:True:=⟨⟩
theorem PySem.W.Fast.tw16257489883869013745:True:=⟨⟩
theorem PySem.W.Fast.tw862024412711281042:True:=⟨⟩
theorem PySem.W.Fast.tw6807206848044517364:True:=⟨⟩
theorem PySem.W.Fast.tw15719621395760368793:True:=⟨⟩
theorem PySem.W.Fast.tw3542172380410243067:True:=⟨⟩
theorem PySem.W.Fast.tw6715087881983501535:True:=⟨⟩
theorem PySem.W.Fast.tw13184275750440346367:True:=⟨⟩
theorem PySem.W.Fast.tw4950957670591698751:True:=⟨⟩
theorem PySem.W.Fast.tw18309965167379585765:True:=⟨⟩
theorem PySem.W.Fast.tw7484758900266953083:True:=⟨⟩
open PySem PySem.W PyProof.Rows
set_option maxRecDepth 100000 in
set_option maxHeartbeats 0 in
theorem PySem.Challenge.cw_calm_k21_weavings_holds : PySem.Challenge.rw_calm_k21_weavings.Holds := by
  w_on; o_law; k_head; (case hw=>w_witness2)
  k_fill
  refine D.walk (l:=PySem.Challenge.rw_calm_k21_weavings) rfl rfl (fun w h Y=>PySem.W.kIn_of Y) ?F
  case F =>
    intro w mg fa h KX G hmg
    refine' D.all_mk KX G hmg ?h1 ?h2 ?h3 ?h4 ?h5 ?h6 ?h7 ?h8 ?h9 ?h10 ?h11 ?h12 ?h13 ?h14 ?h15 ?h16 ?h17 ?h18 ?h19 ?h20 ?h21 ?h22 ?h23 ?h24 ?h25 ?h26 ?h27 ?a28 ?l28 ?c28 ?k28 ?z_ValueError ?z_dict ?z_enumerate ?z_isinstance ?z_len ?z_list ?z_range ?z_sorted ?z_sum ?z_tuple ?z_zip ?xa_NoStep ?xx_NoStep ?xg_NoStep ?xF_NoStep ?xa_CalmError ?xl_CalmError ?t_CalmError ?xa_NoLock ?xl_NoLock ?n_NoLock ?xa_NoText ?xl_NoText ?n_NoText ?xa_TooMany ?xl_TooMany ?n_TooMany
    (case xa_NoStep=>k_is)
    (case xx_NoStep=>refine' D.aa8 ?lk ?b ?i ?fn ?sa ?ob ?na ?kp; (case lk=>k_is); (case b=>k_exc); (case i=>k_is); (case fn=>k_is); (case sa=>k_is); (case ob=>k_is); (case na=>k_is); (case kp=>k_is))
    (case xg_NoStep=>refine' L2.XG.mk ?ga ?gt ?bx ?dc ?na ?cl ?cg ?ct ?ob ?ve; (case ve=>kit_is); all_goals k_is)
    (case xF_NoStep=>refine' L2.Zm ?l ?c ?k; (case l=>k_is); (case c=>k_is); (case k=>k_is))
    (case xa_CalmError=>k_is)
    (case xl_CalmError=>refine' D.U9 ?lk ?b; (case lk=>k_is); (case b=>rfl))
    (case t_CalmError=>rfl)
    (case xa_NoLock=>k_is)
    (case xl_NoLock=>refine' D.U9 ?lk ?b; (case lk=>k_is); (case b=>rfl))
    (case n_NoLock=>rfl)
    (case xa_NoText=>k_is)
    (case xl_NoText=>refine' D.U9 ?lk ?b; (case lk=>k_is); (case b=>rfl))
    (case n_NoText=>rfl)
    (case xa_TooMany=>k_is)
    (case xl_TooMany=>refine' D.U9 ?lk ?b; (case lk=>k_is); (case b=>rfl))
    (case n_TooMany=>rfl)
    case h1 | h2 | h3 | h4 | h5 | h6 | h7 | h8 | h9 | h10 | h11 | h12 | h13 | h14 | h15 | h16 | h17 | h18 | h19 | h20 | h21 | h22 | h23 | h24 | h25 | h26 | h27=>refine' D.ab0 ?a ?l ?c ?k; (case a=>k_is); (case l=>k_is); (case c=>k_is); (case k=>k_is)
    case a28 | l28 | c28 | k28 | z_ValueError | z_dict | z_enumerate | z_isinstance | z_len | z_list | z_range | z_sorted | z_sum | z_tuple | z_zip=>k_is
#print axioms PySem.Challenge.cw_calm_k21_weavings_holds
end
